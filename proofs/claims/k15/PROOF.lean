import PyProof.Rows.All
import Wide.All
import OpenK.AllK
import Wide.FinOn
import HandS.Base
import HandS.Call
import HandS.List
import HandS.Comp
import HandS.Ends
import HandS.Iter
import HandS.NoneIn
import HandS.SetFor
import HandS.IsInst
import HandS.Zip
import HandS.Words
import PyProof.ReprRoads
import HandS.Wide
import HandS.Codes
import HandS.Conv
import HandS.Deep
import PyProof.CallFns
import PySem.Challenge.RW_mergelevels_k15_errors_of_paths
set_option Elab.async false
set_option linter.all false
set_option maxRecDepth 100000
set_option maxHeartbeats 4000000
namespace Ml
open PySem PySem.Spec PyProof.Rows L2
/-! ### what the top has written -/
theorem df_mk {K : PySem.W.Frag} {h : Heap} {mg : Str → Option Value} {x : Str} {st : Stmt} {f : Addr} {od an : Option Addr} {sl : Array (Option Value)} {oc kV dc pm cd ct : Value} {ps : List Str} (X : K.In h) (G : h.Ns mainGlobals mg)
    (a : PySem.W.nsIn K mainGlobals x = some (some (.ref f))) (l : K.lookup f = some ⟨oc, od, .func (PySem.W.fnOf x x (defArgs st) (defBody st) (defScope st) .none kV dc pm an cd ct), sl⟩) (c : PySem.W.codeIn K cd x = true) (k : PySem.W.keepIn K (.ref f) = true)
    (b : ∀ (kV doc pm : Value) (an : Option Addr) (cdv ct : Value) (us : List Value), us.length = ps.length → bindArgs (PySem.W.fnOf x x (defArgs st) (defBody st) (defScope st) .none kV doc pm an cdv ct) ⟨us, []⟩ = pure (ps.zip us)) :
    Df K mg x st f (PySem.W.fnOf x x (defArgs st) (defBody st) (defScope st) .none kV dc pm an cd ct) ps := ⟨fun_mk l c k, (fun_mk l c k).binds b, PySem.W.mg_of X G a⟩
theorem all_mk {l : PySem.W.OpenLaw} {w : World} {K : PySem.W.Frag} {h : Heap} {mg : Str → Option Value} {fa : Addr} (X : K.In h) (G : h.Ns mainGlobals mg) (hfa : mg "law" = some (.ref fa))
    {f1 : Addr} {od1 an1 : Option Addr} {sl1 : Array (Option Value)} {oc1 kV1 dc1 pm1 cd1 ct1 : Value} (a1 : PySem.W.nsIn K mainGlobals "is_whole" = some (some (.ref f1))) (l1 : K.lookup f1 = some ⟨oc1, od1, .func (PySem.W.fnOf "is_whole" "is_whole" (defArgs s_is_whole) (defBody s_is_whole) (defScope s_is_whole) .none kV1 dc1 pm1 an1 cd1 ct1), sl1⟩) (c1 : PySem.W.codeIn K cd1 "is_whole" = true) (k1 : PySem.W.keepIn K (.ref f1) = true)
    {f2 : Addr} {od2 an2 : Option Addr} {sl2 : Array (Option Value)} {oc2 kV2 dc2 pm2 cd2 ct2 : Value} (a2 : PySem.W.nsIn K mainGlobals "is_item" = some (some (.ref f2))) (l2 : K.lookup f2 = some ⟨oc2, od2, .func (PySem.W.fnOf "is_item" "is_item" (defArgs s_is_item) (defBody s_is_item) (defScope s_is_item) .none kV2 dc2 pm2 an2 cd2 ct2), sl2⟩) (c2 : PySem.W.codeIn K cd2 "is_item" = true) (k2 : PySem.W.keepIn K (.ref f2) = true)
    {f3 : Addr} {od3 an3 : Option Addr} {sl3 : Array (Option Value)} {oc3 kV3 dc3 pm3 cd3 ct3 : Value} (a3 : PySem.W.nsIn K mainGlobals "check_items" = some (some (.ref f3))) (l3 : K.lookup f3 = some ⟨oc3, od3, .func (PySem.W.fnOf "check_items" "check_items" (defArgs s_check_items) (defBody s_check_items) (defScope s_check_items) .none kV3 dc3 pm3 an3 cd3 ct3), sl3⟩) (c3 : PySem.W.codeIn K cd3 "check_items" = true) (k3 : PySem.W.keepIn K (.ref f3) = true)
    {f4 : Addr} {od4 an4 : Option Addr} {sl4 : Array (Option Value)} {oc4 kV4 dc4 pm4 cd4 ct4 : Value} (a4 : PySem.W.nsIn K mainGlobals "check_ends" = some (some (.ref f4))) (l4 : K.lookup f4 = some ⟨oc4, od4, .func (PySem.W.fnOf "check_ends" "check_ends" (defArgs s_check_ends) (defBody s_check_ends) (defScope s_check_ends) .none kV4 dc4 pm4 an4 cd4 ct4), sl4⟩) (c4 : PySem.W.codeIn K cd4 "check_ends" = true) (k4 : PySem.W.keepIn K (.ref f4) = true)
    {f5 : Addr} {od5 an5 : Option Addr} {sl5 : Array (Option Value)} {oc5 kV5 dc5 pm5 cd5 ct5 : Value} (a5 : PySem.W.nsIn K mainGlobals "level_between" = some (some (.ref f5))) (l5 : K.lookup f5 = some ⟨oc5, od5, .func (PySem.W.fnOf "level_between" "level_between" (defArgs s_level_between) (defBody s_level_between) (defScope s_level_between) .none kV5 dc5 pm5 an5 cd5 ct5), sl5⟩) (c5 : PySem.W.codeIn K cd5 "level_between" = true) (k5 : PySem.W.keepIn K (.ref f5) = true)
    {f6 : Addr} {od6 an6 : Option Addr} {sl6 : Array (Option Value)} {oc6 kV6 dc6 pm6 cd6 ct6 : Value} (a6 : PySem.W.nsIn K mainGlobals "pairs_of" = some (some (.ref f6))) (l6 : K.lookup f6 = some ⟨oc6, od6, .func (PySem.W.fnOf "pairs_of" "pairs_of" (defArgs s_pairs_of) (defBody s_pairs_of) (defScope s_pairs_of) .none kV6 dc6 pm6 an6 cd6 ct6), sl6⟩) (c6 : PySem.W.codeIn K cd6 "pairs_of" = true) (k6 : PySem.W.keepIn K (.ref f6) = true)
    {f7 : Addr} {od7 an7 : Option Addr} {sl7 : Array (Option Value)} {oc7 kV7 dc7 pm7 cd7 ct7 : Value} (a7 : PySem.W.nsIn K mainGlobals "level_grid" = some (some (.ref f7))) (l7 : K.lookup f7 = some ⟨oc7, od7, .func (PySem.W.fnOf "level_grid" "level_grid" (defArgs s_level_grid) (defBody s_level_grid) (defScope s_level_grid) .none kV7 dc7 pm7 an7 cd7 ct7), sl7⟩) (c7 : PySem.W.codeIn K cd7 "level_grid" = true) (k7 : PySem.W.keepIn K (.ref f7) = true)
    {f8 : Addr} {od8 an8 : Option Addr} {sl8 : Array (Option Value)} {oc8 kV8 dc8 pm8 cd8 ct8 : Value} (a8 : PySem.W.nsIn K mainGlobals "lowest_grid" = some (some (.ref f8))) (l8 : K.lookup f8 = some ⟨oc8, od8, .func (PySem.W.fnOf "lowest_grid" "lowest_grid" (defArgs s_lowest_grid) (defBody s_lowest_grid) (defScope s_lowest_grid) .none kV8 dc8 pm8 an8 cd8 ct8), sl8⟩) (c8 : PySem.W.codeIn K cd8 "lowest_grid" = true) (k8 : PySem.W.keepIn K (.ref f8) = true)
    {f9 : Addr} {od9 an9 : Option Addr} {sl9 : Array (Option Value)} {oc9 kV9 dc9 pm9 cd9 ct9 : Value} (a9 : PySem.W.nsIn K mainGlobals "join_grid" = some (some (.ref f9))) (l9 : K.lookup f9 = some ⟨oc9, od9, .func (PySem.W.fnOf "join_grid" "join_grid" (defArgs s_join_grid) (defBody s_join_grid) (defScope s_join_grid) .none kV9 dc9 pm9 an9 cd9 ct9), sl9⟩) (c9 : PySem.W.codeIn K cd9 "join_grid" = true) (k9 : PySem.W.keepIn K (.ref f9) = true)
    {f10 : Addr} {od10 an10 : Option Addr} {sl10 : Array (Option Value)} {oc10 kV10 dc10 pm10 cd10 ct10 : Value} (a10 : PySem.W.nsIn K mainGlobals "join_level" = some (some (.ref f10))) (l10 : K.lookup f10 = some ⟨oc10, od10, .func (PySem.W.fnOf "join_level" "join_level" (defArgs s_join_level) (defBody s_join_level) (defScope s_join_level) .none kV10 dc10 pm10 an10 cd10 ct10), sl10⟩) (c10 : PySem.W.codeIn K cd10 "join_level" = true) (k10 : PySem.W.keepIn K (.ref f10) = true)
    {f11 : Addr} {od11 an11 : Option Addr} {sl11 : Array (Option Value)} {oc11 kV11 dc11 pm11 cd11 ct11 : Value} (a11 : PySem.W.nsIn K mainGlobals "longer_paths" = some (some (.ref f11))) (l11 : K.lookup f11 = some ⟨oc11, od11, .func (PySem.W.fnOf "longer_paths" "longer_paths" (defArgs s_longer_paths) (defBody s_longer_paths) (defScope s_longer_paths) .none kV11 dc11 pm11 an11 cd11 ct11), sl11⟩) (c11 : PySem.W.codeIn K cd11 "longer_paths" = true) (k11 : PySem.W.keepIn K (.ref f11) = true)
    {f12 : Addr} {od12 an12 : Option Addr} {sl12 : Array (Option Value)} {oc12 kV12 dc12 pm12 cd12 ct12 : Value} (a12 : PySem.W.nsIn K mainGlobals "best_path" = some (some (.ref f12))) (l12 : K.lookup f12 = some ⟨oc12, od12, .func (PySem.W.fnOf "best_path" "best_path" (defArgs s_best_path) (defBody s_best_path) (defScope s_best_path) .none kV12 dc12 pm12 an12 cd12 ct12), sl12⟩) (c12 : PySem.W.codeIn K cd12 "best_path" = true) (k12 : PySem.W.keepIn K (.ref f12) = true)
    {f13 : Addr} {od13 an13 : Option Addr} {sl13 : Array (Option Value)} {oc13 kV13 dc13 pm13 cd13 ct13 : Value} (a13 : PySem.W.nsIn K mainGlobals "best_division" = some (some (.ref f13))) (l13 : K.lookup f13 = some ⟨oc13, od13, .func (PySem.W.fnOf "best_division" "best_division" (defArgs s_best_division) (defBody s_best_division) (defScope s_best_division) .none kV13 dc13 pm13 an13 cd13 ct13), sl13⟩) (c13 : PySem.W.codeIn K cd13 "best_division" = true) (k13 : PySem.W.keepIn K (.ref f13) = true)
    {f14 : Addr} {od14 an14 : Option Addr} {sl14 : Array (Option Value)} {oc14 kV14 dc14 pm14 cd14 ct14 : Value} (a14 : PySem.W.nsIn K mainGlobals "is_path" = some (some (.ref f14))) (l14 : K.lookup f14 = some ⟨oc14, od14, .func (PySem.W.fnOf "is_path" "is_path" (defArgs s_is_path) (defBody s_is_path) (defScope s_is_path) .none kV14 dc14 pm14 an14 cd14 ct14), sl14⟩) (c14 : PySem.W.codeIn K cd14 "is_path" = true) (k14 : PySem.W.keepIn K (.ref f14) = true)
    {f15 : Addr} {od15 an15 : Option Addr} {sl15 : Array (Option Value)} {oc15 kV15 dc15 pm15 cd15 ct15 : Value} (a15 : PySem.W.nsIn K mainGlobals "is_division" = some (some (.ref f15))) (l15 : K.lookup f15 = some ⟨oc15, od15, .func (PySem.W.fnOf "is_division" "is_division" (defArgs s_is_division) (defBody s_is_division) (defScope s_is_division) .none kV15 dc15 pm15 an15 cd15 ct15), sl15⟩) (c15 : PySem.W.codeIn K cd15 "is_division" = true) (k15 : PySem.W.keepIn K (.ref f15) = true)
    {f16 : Addr} {od16 an16 : Option Addr} {sl16 : Array (Option Value)} {oc16 kV16 dc16 pm16 cd16 ct16 : Value} (a16 : PySem.W.nsIn K mainGlobals "height_of" = some (some (.ref f16))) (l16 : K.lookup f16 = some ⟨oc16, od16, .func (PySem.W.fnOf "height_of" "height_of" (defArgs s_height_of) (defBody s_height_of) (defScope s_height_of) .none kV16 dc16 pm16 an16 cd16 ct16), sl16⟩) (c16 : PySem.W.codeIn K cd16 "height_of" = true) (k16 : PySem.W.keepIn K (.ref f16) = true)
    {f17 : Addr} {od17 an17 : Option Addr} {sl17 : Array (Option Value)} {oc17 kV17 dc17 pm17 cd17 ct17 : Value} (a17 : PySem.W.nsIn K mainGlobals "width_of" = some (some (.ref f17))) (l17 : K.lookup f17 = some ⟨oc17, od17, .func (PySem.W.fnOf "width_of" "width_of" (defArgs s_width_of) (defBody s_width_of) (defScope s_width_of) .none kV17 dc17 pm17 an17 cd17 ct17), sl17⟩) (c17 : PySem.W.codeIn K cd17 "width_of" = true) (k17 : PySem.W.keepIn K (.ref f17) = true)
    {f18 : Addr} {od18 an18 : Option Addr} {sl18 : Array (Option Value)} {oc18 kV18 dc18 pm18 cd18 ct18 : Value} (a18 : PySem.W.nsIn K mainGlobals "check_join" = some (some (.ref f18))) (l18 : K.lookup f18 = some ⟨oc18, od18, .func (PySem.W.fnOf "check_join" "check_join" (defArgs s_check_join) (defBody s_check_join) (defScope s_check_join) .none kV18 dc18 pm18 an18 cd18 ct18), sl18⟩) (c18 : PySem.W.codeIn K cd18 "check_join" = true) (k18 : PySem.W.keepIn K (.ref f18) = true)
    {f19 : Addr} {od19 an19 : Option Addr} {sl19 : Array (Option Value)} {oc19 kV19 dc19 pm19 cd19 ct19 : Value} (a19 : PySem.W.nsIn K mainGlobals "detour_level" = some (some (.ref f19))) (l19 : K.lookup f19 = some ⟨oc19, od19, .func (PySem.W.fnOf "detour_level" "detour_level" (defArgs s_detour_level) (defBody s_detour_level) (defScope s_detour_level) .none kV19 dc19 pm19 an19 cd19 ct19), sl19⟩) (c19 : PySem.W.codeIn K cd19 "detour_level" = true) (k19 : PySem.W.keepIn K (.ref f19) = true)
    {f20 : Addr} {od20 an20 : Option Addr} {sl20 : Array (Option Value)} {oc20 kV20 dc20 pm20 cd20 ct20 : Value} (a20 : PySem.W.nsIn K mainGlobals "is_within" = some (some (.ref f20))) (l20 : K.lookup f20 = some ⟨oc20, od20, .func (PySem.W.fnOf "is_within" "is_within" (defArgs s_is_within) (defBody s_is_within) (defScope s_is_within) .none kV20 dc20 pm20 an20 cd20 ct20), sl20⟩) (c20 : PySem.W.codeIn K cd20 "is_within" = true) (k20 : PySem.W.keepIn K (.ref f20) = true)
    {f21 : Addr} {od21 an21 : Option Addr} {sl21 : Array (Option Value)} {oc21 kV21 dc21 pm21 cd21 ct21 : Value} (a21 : PySem.W.nsIn K mainGlobals "select_pairs" = some (some (.ref f21))) (l21 : K.lookup f21 = some ⟨oc21, od21, .func (PySem.W.fnOf "select_pairs" "select_pairs" (defArgs s_select_pairs) (defBody s_select_pairs) (defScope s_select_pairs) .none kV21 dc21 pm21 an21 cd21 ct21), sl21⟩) (c21 : PySem.W.codeIn K cd21 "select_pairs" = true) (k21 : PySem.W.keepIn K (.ref f21) = true)
    {f22 : Addr} {od22 an22 : Option Addr} {sl22 : Array (Option Value)} {oc22 kV22 dc22 pm22 cd22 ct22 : Value} (a22 : PySem.W.nsIn K mainGlobals "_law_draws" = some (some (.ref f22))) (l22 : K.lookup f22 = some ⟨oc22, od22, .func (PySem.W.fnOf "_law_draws" "_law_draws" (defArgs s_L_draws) (defBody s_L_draws) (defScope s_L_draws) .none kV22 dc22 pm22 an22 cd22 ct22), sl22⟩) (c22 : PySem.W.codeIn K cd22 "_law_draws" = true) (k22 : PySem.W.keepIn K (.ref f22) = true)
    {f23 : Addr} {od23 an23 : Option Addr} {sl23 : Array (Option Value)} {oc23 kV23 dc23 pm23 cd23 ct23 : Value} (a23 : PySem.W.nsIn K mainGlobals "_law_next" = some (some (.ref f23))) (l23 : K.lookup f23 = some ⟨oc23, od23, .func (PySem.W.fnOf "_law_next" "_law_next" (defArgs s_L_next) (defBody s_L_next) (defScope s_L_next) .none kV23 dc23 pm23 an23 cd23 ct23), sl23⟩) (c23 : PySem.W.codeIn K cd23 "_law_next" = true) (k23 : PySem.W.keepIn K (.ref f23) = true)
    {f24 : Addr} {od24 an24 : Option Addr} {sl24 : Array (Option Value)} {oc24 kV24 dc24 pm24 cd24 ct24 : Value} (a24 : PySem.W.nsIn K mainGlobals "_law_one" = some (some (.ref f24))) (l24 : K.lookup f24 = some ⟨oc24, od24, .func (PySem.W.fnOf "_law_one" "_law_one" (defArgs s_L_one) (defBody s_L_one) (defScope s_L_one) .none kV24 dc24 pm24 an24 cd24 ct24), sl24⟩) (c24 : PySem.W.codeIn K cd24 "_law_one" = true) (k24 : PySem.W.keepIn K (.ref f24) = true)
    {f25 : Addr} {od25 an25 : Option Addr} {sl25 : Array (Option Value)} {oc25 kV25 dc25 pm25 cd25 ct25 : Value} (a25 : PySem.W.nsIn K mainGlobals "_law_odd" = some (some (.ref f25))) (l25 : K.lookup f25 = some ⟨oc25, od25, .func (PySem.W.fnOf "_law_odd" "_law_odd" (defArgs s_L_odd) (defBody s_L_odd) (defScope s_L_odd) .none kV25 dc25 pm25 an25 cd25 ct25), sl25⟩) (c25 : PySem.W.codeIn K cd25 "_law_odd" = true) (k25 : PySem.W.keepIn K (.ref f25) = true)
    {f26 : Addr} {od26 an26 : Option Addr} {sl26 : Array (Option Value)} {oc26 kV26 dc26 pm26 cd26 ct26 : Value} (a26 : PySem.W.nsIn K mainGlobals "_law_count" = some (some (.ref f26))) (l26 : K.lookup f26 = some ⟨oc26, od26, .func (PySem.W.fnOf "_law_count" "_law_count" (defArgs s_L_count) (defBody s_L_count) (defScope s_L_count) .none kV26 dc26 pm26 an26 cd26 ct26), sl26⟩) (c26 : PySem.W.codeIn K cd26 "_law_count" = true) (k26 : PySem.W.keepIn K (.ref f26) = true)
    {f27 : Addr} {od27 an27 : Option Addr} {sl27 : Array (Option Value)} {oc27 kV27 dc27 pm27 cd27 ct27 : Value} (a27 : PySem.W.nsIn K mainGlobals "_law_grades" = some (some (.ref f27))) (l27 : K.lookup f27 = some ⟨oc27, od27, .func (PySem.W.fnOf "_law_grades" "_law_grades" (defArgs s_L_grades) (defBody s_L_grades) (defScope s_L_grades) .none kV27 dc27 pm27 an27 cd27 ct27), sl27⟩) (c27 : PySem.W.codeIn K cd27 "_law_grades" = true) (k27 : PySem.W.keepIn K (.ref f27) = true)
    {f28 : Addr} {od28 an28 : Option Addr} {sl28 : Array (Option Value)} {oc28 kV28 dc28 pm28 cd28 ct28 : Value} (a28 : PySem.W.nsIn K mainGlobals "_law_level" = some (some (.ref f28))) (l28 : K.lookup f28 = some ⟨oc28, od28, .func (PySem.W.fnOf "_law_level" "_law_level" (defArgs s_L_level) (defBody s_L_level) (defScope s_L_level) .none kV28 dc28 pm28 an28 cd28 ct28), sl28⟩) (c28 : PySem.W.codeIn K cd28 "_law_level" = true) (k28 : PySem.W.keepIn K (.ref f28) = true)
    {f29 : Addr} {od29 an29 : Option Addr} {sl29 : Array (Option Value)} {oc29 kV29 dc29 pm29 cd29 ct29 : Value} (a29 : PySem.W.nsIn K mainGlobals "_law_nested" = some (some (.ref f29))) (l29 : K.lookup f29 = some ⟨oc29, od29, .func (PySem.W.fnOf "_law_nested" "_law_nested" (defArgs s_L_nested) (defBody s_L_nested) (defScope s_L_nested) .none kV29 dc29 pm29 an29 cd29 ct29), sl29⟩) (c29 : PySem.W.codeIn K cd29 "_law_nested" = true) (k29 : PySem.W.keepIn K (.ref f29) = true)
    {f30 : Addr} {od30 an30 : Option Addr} {sl30 : Array (Option Value)} {oc30 kV30 dc30 pm30 cd30 ct30 : Value} (a30 : PySem.W.nsIn K mainGlobals "_law_raised" = some (some (.ref f30))) (l30 : K.lookup f30 = some ⟨oc30, od30, .func (PySem.W.fnOf "_law_raised" "_law_raised" (defArgs s_L_raised) (defBody s_L_raised) (defScope s_L_raised) .none kV30 dc30 pm30 an30 cd30 ct30), sl30⟩) (c30 : PySem.W.codeIn K cd30 "_law_raised" = true) (k30 : PySem.W.keepIn K (.ref f30) = true)
    {f31 : Addr} {od31 an31 : Option Addr} {sl31 : Array (Option Value)} {oc31 kV31 dc31 pm31 cd31 ct31 : Value} (a31 : PySem.W.nsIn K mainGlobals "_law_levels" = some (some (.ref f31))) (l31 : K.lookup f31 = some ⟨oc31, od31, .func (PySem.W.fnOf "_law_levels" "_law_levels" (defArgs s_L_levels) (defBody s_L_levels) (defScope s_L_levels) .none kV31 dc31 pm31 an31 cd31 ct31), sl31⟩) (c31 : PySem.W.codeIn K cd31 "_law_levels" = true) (k31 : PySem.W.keepIn K (.ref f31) = true)
    {f32 : Addr} {od32 an32 : Option Addr} {sl32 : Array (Option Value)} {oc32 kV32 dc32 pm32 cd32 ct32 : Value} (a32 : PySem.W.nsIn K mainGlobals "_law_any" = some (some (.ref f32))) (l32 : K.lookup f32 = some ⟨oc32, od32, .func (PySem.W.fnOf "_law_any" "_law_any" (defArgs s_L_any) (defBody s_L_any) (defScope s_L_any) .none kV32 dc32 pm32 an32 cd32 ct32), sl32⟩) (c32 : PySem.W.codeIn K cd32 "_law_any" = true) (k32 : PySem.W.keepIn K (.ref f32) = true)
    {f33 : Addr} {od33 an33 : Option Addr} {sl33 : Array (Option Value)} {oc33 kV33 dc33 pm33 cd33 ct33 : Value} (a33 : PySem.W.nsIn K mainGlobals "_law_table" = some (some (.ref f33))) (l33 : K.lookup f33 = some ⟨oc33, od33, .func (PySem.W.fnOf "_law_table" "_law_table" (defArgs s_L_table) (defBody s_L_table) (defScope s_L_table) .none kV33 dc33 pm33 an33 cd33 ct33), sl33⟩) (c33 : PySem.W.codeIn K cd33 "_law_table" = true) (k33 : PySem.W.keepIn K (.ref f33) = true)
    {f34 : Addr} {od34 an34 : Option Addr} {sl34 : Array (Option Value)} {oc34 kV34 dc34 pm34 cd34 ct34 : Value} (a34 : PySem.W.nsIn K mainGlobals "_law_asked" = some (some (.ref f34))) (l34 : K.lookup f34 = some ⟨oc34, od34, .func (PySem.W.fnOf "_law_asked" "_law_asked" (defArgs s_L_asked) (defBody s_L_asked) (defScope s_L_asked) .none kV34 dc34 pm34 an34 cd34 ct34), sl34⟩) (c34 : PySem.W.codeIn K cd34 "_law_asked" = true) (k34 : PySem.W.keepIn K (.ref f34) = true)
    {f35 : Addr} {od35 an35 : Option Addr} {sl35 : Array (Option Value)} {oc35 kV35 dc35 pm35 cd35 ct35 : Value} (a35 : PySem.W.nsIn K mainGlobals "_law_told" = some (some (.ref f35))) (l35 : K.lookup f35 = some ⟨oc35, od35, .func (PySem.W.fnOf "_law_told" "_law_told" (defArgs s_L_told) (defBody s_L_told) (defScope s_L_told) .none kV35 dc35 pm35 an35 cd35 ct35), sl35⟩) (c35 : PySem.W.codeIn K cd35 "_law_told" = true) (k35 : PySem.W.keepIn K (.ref f35) = true)
    {f36 : Addr} {od36 an36 : Option Addr} {sl36 : Array (Option Value)} {oc36 kV36 dc36 pm36 cd36 ct36 : Value} (a36 : PySem.W.nsIn K mainGlobals "_law_due" = some (some (.ref f36))) (l36 : K.lookup f36 = some ⟨oc36, od36, .func (PySem.W.fnOf "_law_due" "_law_due" (defArgs s_L_due) (defBody s_L_due) (defScope s_L_due) .none kV36 dc36 pm36 an36 cd36 ct36), sl36⟩) (c36 : PySem.W.codeIn K cd36 "_law_due" = true) (k36 : PySem.W.keepIn K (.ref f36) = true)
    {f37 : Addr} {od37 an37 : Option Addr} {sl37 : Array (Option Value)} {oc37 kV37 dc37 pm37 cd37 ct37 : Value} (a37 : PySem.W.nsIn K mainGlobals "_law_named" = some (some (.ref f37))) (l37 : K.lookup f37 = some ⟨oc37, od37, .func (PySem.W.fnOf "_law_named" "_law_named" (defArgs s_L_named) (defBody s_L_named) (defScope s_L_named) .none kV37 dc37 pm37 an37 cd37 ct37), sl37⟩) (c37 : PySem.W.codeIn K cd37 "_law_named" = true) (k37 : PySem.W.keepIn K (.ref f37) = true)
    {f38 : Addr} {od38 an38 : Option Addr} {sl38 : Array (Option Value)} {oc38 kV38 dc38 pm38 cd38 ct38 : Value} (a38 : PySem.W.nsIn K mainGlobals "_law_name" = some (some (.ref f38))) (l38 : K.lookup f38 = some ⟨oc38, od38, .func (PySem.W.fnOf "_law_name" "_law_name" (defArgs s_L_name) (defBody s_L_name) (defScope s_L_name) .none kV38 dc38 pm38 an38 cd38 ct38), sl38⟩) (c38 : PySem.W.codeIn K cd38 "_law_name" = true) (k38 : PySem.W.keepIn K (.ref f38) = true)
    {f39 : Addr} {od39 an39 : Option Addr} {sl39 : Array (Option Value)} {oc39 kV39 dc39 pm39 cd39 ct39 : Value} (a39 : PySem.W.nsIn K mainGlobals "law" = some (some (.ref f39))) (l39 : K.lookup f39 = some ⟨oc39, od39, .func (PySem.W.fnOf "law" "law" (defArgs s_law) (defBody s_law) (defScope s_law) .none kV39 dc39 pm39 an39 cd39 ct39), sl39⟩) (c39 : PySem.W.codeIn K cd39 "law" = true) (k39 : PySem.W.keepIn K (.ref f39) = true)
    {C_MergeError C_NoSuchStep C_InvalidLevel C_InvalidTable C_UnequalSizes : Addr}
    {C_NoSuchItem f_NoSuchItem : Addr} {nm_NoSuchItem q_NoSuchItem : Str} {N_NoSuchItem : Addr} {bs_NoSuchItem : List Value} {sn_NoSuchItem : List Str} {sub_NoSuchItem : List Value} {ab_NoSuchItem : Bool} {col_NoSuchItem : Option Bool} {dd_NoSuchItem : Option Addr} {m0_NoSuchItem m1_NoSuchItem m2_NoSuchItem m3_NoSuchItem m5_NoSuchItem : Option Value} {od_NoSuchItem an_NoSuchItem : Option Addr} {sl_NoSuchItem : Array (Option Value)} {oc_NoSuchItem dc_NoSuchItem pm_NoSuchItem cd_NoSuchItem ct_NoSuchItem : Value}
    (aC_NoSuchItem : PySem.W.nsIn K mainGlobals "NoSuchItem" = some (some (.ref C_NoSuchItem)))
    (xL_NoSuchItem : K.lookup C_NoSuchItem = some (excClassObj nm_NoSuchItem q_NoSuchItem C_NoSuchItem N_NoSuchItem bs_NoSuchItem [.type "LookupError", .type "Exception", .type "BaseException", .type "object"] true sn_NoSuchItem sub_NoSuchItem ab_NoSuchItem col_NoSuchItem dd_NoSuchItem m0_NoSuchItem m1_NoSuchItem m2_NoSuchItem m3_NoSuchItem m5_NoSuchItem "LookupError.__new__"))
    (sa_NoSuchItem : PySem.W.findIn K (.ref C_NoSuchItem) "__setattr__" = some (some (.builtin "object.__setattr__")))
    (ga_NoSuchItem : PySem.W.findIn K (.ref C_NoSuchItem) "__getattribute__" = some (some (.builtin "BaseException.__getattribute__")))
    (gg_NoSuchItem : PySem.W.findIn K (.ref C_NoSuchItem) "__getattr__" = some none)
    (nb_NoSuchItem : PySem.W.findIn K (.ref C_NoSuchItem) "item" = some none)
    (in_NoSuchItem : PySem.W.findIn K (.ref C_NoSuchItem) "__init__" = some (some (.ref f_NoSuchItem)))
    (tf_NoSuchItem : PySem.W.typeIn K (.ref f_NoSuchItem) = some (.type "function"))
    (lf_NoSuchItem : K.lookup f_NoSuchItem = some ⟨oc_NoSuchItem, od_NoSuchItem, .func (PySem.W.fnOf "__init__" "NoSuchItem.__init__" (PySem.Err_NoSuchItem.iA ⟨28, 17, 28, 21⟩ ⟨28, 23, 28, 27⟩) (PySem.Err_NoSuchItem.iB ⟨29, 8, 29, 12⟩ ⟨29, 8, 29, 17⟩ ⟨29, 20, 29, 24⟩ ⟨29, 8, 29, 24⟩) PySem.Err_NoSuchItem.iS .none .none dc_NoSuchItem pm_NoSuchItem an_NoSuchItem cd_NoSuchItem ct_NoSuchItem), sl_NoSuchItem⟩)
    (cf_NoSuchItem : PySem.W.codeIn K cd_NoSuchItem "NoSuchItem.__init__" = true)
    (kC_NoSuchItem : PySem.W.keepIn K (.ref C_NoSuchItem) = true)
    (eC_NoSuchItem : PySem.W.subIn K (.ref C_NoSuchItem) (.type "BaseException") = some true)
    (tC_NoSuchItem : PySem.W.typeIn K (.ref C_NoSuchItem) = some (.type "type"))
    (hC_NoSuchItem : PySem.W.hasDictIn K C_NoSuchItem = true)
    (te_NoSuchItem : PySem.W.exmOne K (.ref C_NoSuchItem) (.ref C_NoSuchItem) = some true)
    (ha_NoSuchItem : PySem.W.findIn K (.ref C_NoSuchItem) "__class__" = some (some (.builtin "object.__class__")))
    (hn_NoSuchItem : PySem.W.specialIn K (.builtin "object.__class__") "__get__" = some (some (.builtin "getset_descriptor.__get__")))
    (ht_NoSuchItem : PySem.W.takesIn K (.builtin "object.__class__") = some true)
    (hm_NoSuchItem : PySem.W.mroIn K C_NoSuchItem (.type "object") = some true)
    {C_SameItem f_SameItem : Addr} {nm_SameItem q_SameItem : Str} {N_SameItem : Addr} {bs_SameItem : List Value} {sn_SameItem : List Str} {sub_SameItem : List Value} {ab_SameItem : Bool} {col_SameItem : Option Bool} {dd_SameItem : Option Addr} {m0_SameItem m1_SameItem m2_SameItem m3_SameItem m5_SameItem : Option Value} {od_SameItem an_SameItem : Option Addr} {sl_SameItem : Array (Option Value)} {oc_SameItem dc_SameItem pm_SameItem cd_SameItem ct_SameItem : Value}
    (aC_SameItem : PySem.W.nsIn K mainGlobals "SameItem" = some (some (.ref C_SameItem)))
    (xL_SameItem : K.lookup C_SameItem = some (excClassObj nm_SameItem q_SameItem C_SameItem N_SameItem bs_SameItem [.ref C_MergeError, .type "ValueError", .type "Exception", .type "BaseException", .type "object"] true sn_SameItem sub_SameItem ab_SameItem col_SameItem dd_SameItem m0_SameItem m1_SameItem m2_SameItem m3_SameItem m5_SameItem "ValueError.__new__"))
    (sa_SameItem : PySem.W.findIn K (.ref C_SameItem) "__setattr__" = some (some (.builtin "object.__setattr__")))
    (ga_SameItem : PySem.W.findIn K (.ref C_SameItem) "__getattribute__" = some (some (.builtin "BaseException.__getattribute__")))
    (gg_SameItem : PySem.W.findIn K (.ref C_SameItem) "__getattr__" = some none)
    (nb_SameItem : PySem.W.findIn K (.ref C_SameItem) "item" = some none)
    (in_SameItem : PySem.W.findIn K (.ref C_SameItem) "__init__" = some (some (.ref f_SameItem)))
    (tf_SameItem : PySem.W.typeIn K (.ref f_SameItem) = some (.type "function"))
    (lf_SameItem : K.lookup f_SameItem = some ⟨oc_SameItem, od_SameItem, .func (PySem.W.fnOf "__init__" "SameItem.__init__" (PySem.Err_SameItem.iA ⟨12, 17, 12, 21⟩ ⟨12, 23, 12, 27⟩) (PySem.Err_SameItem.iB ⟨13, 8, 13, 12⟩ ⟨13, 8, 13, 17⟩ ⟨13, 20, 13, 24⟩ ⟨13, 8, 13, 24⟩) PySem.Err_SameItem.iS .none .none dc_SameItem pm_SameItem an_SameItem cd_SameItem ct_SameItem), sl_SameItem⟩)
    (cf_SameItem : PySem.W.codeIn K cd_SameItem "SameItem.__init__" = true)
    (kC_SameItem : PySem.W.keepIn K (.ref C_SameItem) = true)
    (eC_SameItem : PySem.W.subIn K (.ref C_SameItem) (.type "BaseException") = some true)
    (tC_SameItem : PySem.W.typeIn K (.ref C_SameItem) = some (.type "type"))
    (hC_SameItem : PySem.W.hasDictIn K C_SameItem = true)
    (te_SameItem : PySem.W.exmOne K (.ref C_SameItem) (.ref C_SameItem) = some true)
    (ha_SameItem : PySem.W.findIn K (.ref C_SameItem) "__class__" = some (some (.builtin "object.__class__")))
    (hn_SameItem : PySem.W.specialIn K (.builtin "object.__class__") "__get__" = some (some (.builtin "getset_descriptor.__get__")))
    (ht_SameItem : PySem.W.takesIn K (.builtin "object.__class__") = some true)
    (hm_SameItem : PySem.W.mroIn K C_SameItem (.type "object") = some true)
    {C_UnknownLimit f_UnknownLimit : Addr} {nm_UnknownLimit q_UnknownLimit : Str} {N_UnknownLimit : Addr} {bs_UnknownLimit : List Value} {sn_UnknownLimit : List Str} {sub_UnknownLimit : List Value} {ab_UnknownLimit : Bool} {col_UnknownLimit : Option Bool} {dd_UnknownLimit : Option Addr} {m0_UnknownLimit m1_UnknownLimit m2_UnknownLimit m3_UnknownLimit m5_UnknownLimit : Option Value} {od_UnknownLimit an_UnknownLimit : Option Addr} {sl_UnknownLimit : Array (Option Value)} {oc_UnknownLimit dc_UnknownLimit pm_UnknownLimit cd_UnknownLimit ct_UnknownLimit : Value}
    (aC_UnknownLimit : PySem.W.nsIn K mainGlobals "UnknownLimit" = some (some (.ref C_UnknownLimit)))
    (xL_UnknownLimit : K.lookup C_UnknownLimit = some (excClassObj nm_UnknownLimit q_UnknownLimit C_UnknownLimit N_UnknownLimit bs_UnknownLimit [.ref C_MergeError, .type "ValueError", .type "Exception", .type "BaseException", .type "object"] true sn_UnknownLimit sub_UnknownLimit ab_UnknownLimit col_UnknownLimit dd_UnknownLimit m0_UnknownLimit m1_UnknownLimit m2_UnknownLimit m3_UnknownLimit m5_UnknownLimit "ValueError.__new__"))
    (sa_UnknownLimit : PySem.W.findIn K (.ref C_UnknownLimit) "__setattr__" = some (some (.builtin "object.__setattr__")))
    (ga_UnknownLimit : PySem.W.findIn K (.ref C_UnknownLimit) "__getattribute__" = some (some (.builtin "BaseException.__getattribute__")))
    (gg_UnknownLimit : PySem.W.findIn K (.ref C_UnknownLimit) "__getattr__" = some none)
    (nb_UnknownLimit : PySem.W.findIn K (.ref C_UnknownLimit) "name" = some none)
    (in_UnknownLimit : PySem.W.findIn K (.ref C_UnknownLimit) "__init__" = some (some (.ref f_UnknownLimit)))
    (tf_UnknownLimit : PySem.W.typeIn K (.ref f_UnknownLimit) = some (.type "function"))
    (lf_UnknownLimit : K.lookup f_UnknownLimit = some ⟨oc_UnknownLimit, od_UnknownLimit, .func (PySem.W.fnOf "__init__" "UnknownLimit.__init__" (PySem.Err_UnknownLimit.iA ⟨16, 17, 16, 21⟩ ⟨16, 23, 16, 27⟩) (PySem.Err_UnknownLimit.iB ⟨17, 8, 17, 12⟩ ⟨17, 8, 17, 17⟩ ⟨17, 20, 17, 24⟩ ⟨17, 8, 17, 24⟩) PySem.Err_UnknownLimit.iS .none .none dc_UnknownLimit pm_UnknownLimit an_UnknownLimit cd_UnknownLimit ct_UnknownLimit), sl_UnknownLimit⟩)
    (cf_UnknownLimit : PySem.W.codeIn K cd_UnknownLimit "UnknownLimit.__init__" = true)
    (kC_UnknownLimit : PySem.W.keepIn K (.ref C_UnknownLimit) = true)
    (eC_UnknownLimit : PySem.W.subIn K (.ref C_UnknownLimit) (.type "BaseException") = some true)
    (tC_UnknownLimit : PySem.W.typeIn K (.ref C_UnknownLimit) = some (.type "type"))
    (hC_UnknownLimit : PySem.W.hasDictIn K C_UnknownLimit = true)
    (te_UnknownLimit : PySem.W.exmOne K (.ref C_UnknownLimit) (.ref C_UnknownLimit) = some true)
    (ha_UnknownLimit : PySem.W.findIn K (.ref C_UnknownLimit) "__class__" = some (some (.builtin "object.__class__")))
    (hn_UnknownLimit : PySem.W.specialIn K (.builtin "object.__class__") "__get__" = some (some (.builtin "getset_descriptor.__get__")))
    (ht_UnknownLimit : PySem.W.takesIn K (.builtin "object.__class__") = some true)
    (hm_UnknownLimit : PySem.W.mroIn K C_UnknownLimit (.type "object") = some true)
    (aC_MergeError : PySem.W.nsIn K mainGlobals "MergeError" = some (some (.ref C_MergeError)))
    (aC_NoSuchStep : PySem.W.nsIn K mainGlobals "NoSuchStep" = some (some (.ref C_NoSuchStep)))
    (aC_InvalidLevel : PySem.W.nsIn K mainGlobals "InvalidLevel" = some (some (.ref C_InvalidLevel)))
    (aC_InvalidTable : PySem.W.nsIn K mainGlobals "InvalidTable" = some (some (.ref C_InvalidTable)))
    (aC_UnequalSizes : PySem.W.nsIn K mainGlobals "UnequalSizes" = some (some (.ref C_UnequalSizes)))
    (zf_ValueError : PySem.W.nsIn K mainGlobals "ValueError" = some none)
    (zf_LookupError : PySem.W.nsIn K mainGlobals "LookupError" = some none)
    (xSI : PySem.W.exmOne K (.ref C_SameItem) (.ref C_NoSuchItem) = some false)
    (xSM : PySem.W.exmOne K (.ref C_SameItem) (.ref C_MergeError) = some true)
    (iIL : PySem.W.kitOne K (.ref C_NoSuchItem) (.type "LookupError") = some true)
    (iIA : PySem.W.kitAny K (.ref C_NoSuchItem) [.type "ValueError", .ref C_NoSuchStep] = some false)
    (iSS : PySem.W.kitOne K (.ref C_SameItem) (.ref C_SameItem) = some true)
    (iSA : PySem.W.kitAny K (.ref C_SameItem) [.ref C_InvalidLevel, .ref C_InvalidTable, .ref C_UnequalSizes, .ref C_UnknownLimit, .type "LookupError"] = some false)
    (iUM : PySem.W.kitOne K (.ref C_UnknownLimit) (.ref C_MergeError) = some true)
    (iUV : PySem.W.kitOne K (.ref C_UnknownLimit) (.type "ValueError") = some true)
    (iUA : PySem.W.kitAny K (.ref C_UnknownLimit) [.ref C_SameItem, .ref C_UnequalSizes, .ref C_InvalidTable, .type "LookupError"] = some false)
    {t_LEVEL : Tok} (n_LEVEL : PySem.W.nsIn K mainGlobals "LEVEL" = some (some (.int 1000000000000 t_LEVEL))) {ad_LIMITS : Addr} {di_LIMITS : Option Addr} {sl_LIMITS : Array (Option Value)} {nn_LIMITS : Nat} {tk0_LIMITS : Tok} {tk1_LIMITS : Tok} {tk2_LIMITS : Tok} (n_LIMITS : PySem.W.nsIn K mainGlobals "LIMITS" = some (some (.ref ad_LIMITS))) (m_LIMITS : K.lookup ad_LIMITS = some ⟨.type "tuple", di_LIMITS, .seq #[.str "level" tk0_LIMITS, .str "join" tk1_LIMITS, .str "gap" tk2_LIMITS] nn_LIMITS, sl_LIMITS⟩) (z1 : PySem.W.nsIn K mainGlobals "len" = some none) (z2 : PySem.W.nsIn K mainGlobals "list" = some none) (z3 : PySem.W.nsIn K mainGlobals "int" = some none) (z4 : PySem.W.nsIn K mainGlobals "range" = some none) (z5 : PySem.W.nsIn K mainGlobals "sorted" = some none) (z6 : PySem.W.nsIn K mainGlobals "set" = some none) (z7 : PySem.W.nsIn K mainGlobals "tuple" = some none) (z8 : PySem.W.nsIn K mainGlobals "min" = some none) (z9 : PySem.W.nsIn K mainGlobals "max" = some none) (z10 : PySem.W.nsIn K mainGlobals "isinstance" = some none) (z11 : PySem.W.nsIn K mainGlobals "bool" = some none) (z12 : PySem.W.nsIn K mainGlobals "str" = some none) (z13 : PySem.W.nsIn K mainGlobals "all" = some none) (z14 : PySem.W.nsIn K mainGlobals "zip" = some none) (z15 : PySem.W.nsIn K mainGlobals "repr" = some none) (z16 : PySem.W.nsIn K mainGlobals "enumerate" = some none) (z17 : PySem.W.nsIn K mainGlobals "abs" = some none) (z18 : PySem.W.nsIn K mainGlobals "sum" = some none) (z19 : PySem.W.nsIn K mainGlobals "dict" = some none) :
    ∃ fd : FuncData, (∀ (s : Shared) (v : Value), BindsTo s fd ⟨[v], []⟩ [("_law_script", v)]) ∧ ∀ base : Heap, K.In base → base.Ns mainGlobals mg → GOk l.prog w K mg base 10 fa fd ["_law_script"] (sp_law K) := by
  have e := hfa.symm.trans (PySem.W.mg_of X G a39)
  cases e
  have B : Bi mg := ⟨PySem.W.mg_none_of X G z1, PySem.W.mg_none_of X G z2, PySem.W.mg_none_of X G z3, PySem.W.mg_none_of X G z4, PySem.W.mg_none_of X G z5, PySem.W.mg_none_of X G z6, PySem.W.mg_none_of X G z7, PySem.W.mg_none_of X G z8, PySem.W.mg_none_of X G z9, PySem.W.mg_none_of X G z10, PySem.W.mg_none_of X G z11, PySem.W.mg_none_of X G z12, PySem.W.mg_none_of X G z13, PySem.W.mg_none_of X G z14, PySem.W.mg_none_of X G z15, PySem.W.mg_none_of X G z16, PySem.W.mg_none_of X G z17, PySem.W.mg_none_of X G z18, PySem.W.mg_none_of X G z19⟩
  have g_LEVEL : ∃ t, mg "LEVEL" = some (.int 1000000000000 t) := ⟨_, PySem.W.mg_of X G n_LEVEL⟩
  have g_LIMITS : ∃ (a : Addr) (o : Obj) (its : Array Value) (n : Nat), mg "LIMITS" = some (.ref a) ∧ K.lookup a = some o ∧ o.cls = .type "tuple" ∧ o.data = .seq its n ∧ its.size ≤ sizeLine ∧ Vals [.str "level", .str "join", .str "gap"] its.toList := ⟨_, _, _, _, PySem.W.mg_of X G n_LIMITS, m_LIMITS, rfl, rfl, (by show 3 ≤ sizeLine; decide), .cons ⟨_, rfl⟩ (.cons ⟨_, rfl⟩ (.cons ⟨_, rfl⟩ (.nil)))⟩
  have d_is_whole := df_mk (st := s_is_whole) (ps := ["value"]) X G a1 l1 c1 k1 (fun _ _ _ _ _ _ us hl => match us, hl with | [_], _ => rfl)
  have d_is_item := df_mk (st := s_is_item) (ps := ["table", "value"]) X G a2 l2 c2 k2 (fun _ _ _ _ _ _ us hl => match us, hl with | [_, _], _ => rfl)
  have d_check_items := df_mk (st := s_check_items) (ps := ["table", "one", "other"]) X G a3 l3 c3 k3 (fun _ _ _ _ _ _ us hl => match us, hl with | [_, _, _], _ => rfl)
  have d_check_ends := df_mk (st := s_check_ends) (ps := ["table", "one", "other"]) X G a4 l4 c4 k4 (fun _ _ _ _ _ _ us hl => match us, hl with | [_, _, _], _ => rfl)
  have d_level_between := df_mk (st := s_level_between) (ps := ["table", "one", "other"]) X G a5 l5 c5 k5 (fun _ _ _ _ _ _ us hl => match us, hl with | [_, _, _], _ => rfl)
  have d_pairs_of := df_mk (st := s_pairs_of) (ps := ["table"]) X G a6 l6 c6 k6 (fun _ _ _ _ _ _ us hl => match us, hl with | [_], _ => rfl)
  have d_level_grid := df_mk (st := s_level_grid) (ps := ["table"]) X G a7 l7 c7 k7 (fun _ _ _ _ _ _ us hl => match us, hl with | [_], _ => rfl)
  have d_lowest_grid := df_mk (st := s_lowest_grid) (ps := ["grid"]) X G a8 l8 c8 k8 (fun _ _ _ _ _ _ us hl => match us, hl with | [_], _ => rfl)
  have d_join_grid := df_mk (st := s_join_grid) (ps := ["table"]) X G a9 l9 c9 k9 (fun _ _ _ _ _ _ us hl => match us, hl with | [_], _ => rfl)
  have d_join_level := df_mk (st := s_join_level) (ps := ["table", "one", "other"]) X G a10 l10 c10 k10 (fun _ _ _ _ _ _ us hl => match us, hl with | [_, _, _], _ => rfl)
  have d_longer_paths := df_mk (st := s_longer_paths) (ps := ["table", "paths", "height"]) X G a11 l11 c11 k11 (fun _ _ _ _ _ _ us hl => match us, hl with | [_, _, _], _ => rfl)
  have d_best_path := df_mk (st := s_best_path) (ps := ["table", "one", "other"]) X G a12 l12 c12 k12 (fun _ _ _ _ _ _ us hl => match us, hl with | [_, _, _], _ => rfl)
  have d_best_division := df_mk (st := s_best_division) (ps := ["table", "one", "other"]) X G a13 l13 c13 k13 (fun _ _ _ _ _ _ us hl => match us, hl with | [_, _, _], _ => rfl)
  have d_is_path := df_mk (st := s_is_path) (ps := ["table", "value"]) X G a14 l14 c14 k14 (fun _ _ _ _ _ _ us hl => match us, hl with | [_, _], _ => rfl)
  have d_is_division := df_mk (st := s_is_division) (ps := ["table", "value"]) X G a15 l15 c15 k15 (fun _ _ _ _ _ _ us hl => match us, hl with | [_, _], _ => rfl)
  have d_height_of := df_mk (st := s_height_of) (ps := ["table", "path"]) X G a16 l16 c16 k16 (fun _ _ _ _ _ _ us hl => match us, hl with | [_, _], _ => rfl)
  have d_width_of := df_mk (st := s_width_of) (ps := ["table", "division"]) X G a17 l17 c17 k17 (fun _ _ _ _ _ _ us hl => match us, hl with | [_, _], _ => rfl)
  have d_check_join := df_mk (st := s_check_join) (ps := ["table", "one", "other", "value"]) X G a18 l18 c18 k18 (fun _ _ _ _ _ _ us hl => match us, hl with | [_, _, _, _], _ => rfl)
  have d_detour_level := df_mk (st := s_detour_level) (ps := ["table", "one", "other"]) X G a19 l19 c19 k19 (fun _ _ _ _ _ _ us hl => match us, hl with | [_, _, _], _ => rfl)
  have d_is_within := df_mk (st := s_is_within) (ps := ["level", "join", "limits"]) X G a20 l20 c20 k20 (fun _ _ _ _ _ _ us hl => match us, hl with | [_, _, _], _ => rfl)
  have d_select_pairs : KwDf K mg "select_pairs" s_select_pairs f21 := ⟨PySem.W.mg_of X G a21, k21, _, _, _, _, _, _, _, _, _, l21, c21⟩
  have d_L_draws := df_mk (st := s_L_draws) (ps := ["_law_script"]) X G a22 l22 c22 k22 (fun _ _ _ _ _ _ us hl => match us, hl with | [_], _ => rfl)
  have d_L_next := df_mk (st := s_L_next) (ps := ["_law_drawn", "_law_many"]) X G a23 l23 c23 k23 (fun _ _ _ _ _ _ us hl => match us, hl with | [_, _], _ => rfl)
  have d_L_one := df_mk (st := s_L_one) (ps := ["_law_drawn", "_law_items"]) X G a24 l24 c24 k24 (fun _ _ _ _ _ _ us hl => match us, hl with | [_, _], _ => rfl)
  have d_L_odd := df_mk (st := s_L_odd) (ps := ["_law_drawn"]) X G a25 l25 c25 k25 (fun _ _ _ _ _ _ us hl => match us, hl with | [_], _ => rfl)
  have d_L_count := df_mk (st := s_L_count) (ps := ["_law_drawn", "_law_most"]) X G a26 l26 c26 k26 (fun _ _ _ _ _ _ us hl => match us, hl with | [_, _], _ => rfl)
  have d_L_grades := df_mk (st := s_L_grades) (ps := ["_law_drawn"]) X G a27 l27 c27 k27 (fun _ _ _ _ _ _ us hl => match us, hl with | [_], _ => rfl)
  have d_L_level := df_mk (st := s_L_level) (ps := ["_law_table_here", "_law_one_here", "_law_other"]) X G a28 l28 c28 k28 (fun _ _ _ _ _ _ us hl => match us, hl with | [_, _, _], _ => rfl)
  have d_L_nested := df_mk (st := s_L_nested) (ps := ["_law_drawn", "_law_count_here", "_law_grades_here"]) X G a29 l29 c29 k29 (fun _ _ _ _ _ _ us hl => match us, hl with | [_, _, _], _ => rfl)
  have d_L_raised := df_mk (st := s_L_raised) (ps := ["_law_drawn", "_law_table_here", "_law_grades_here"]) X G a30 l30 c30 k30 (fun _ _ _ _ _ _ us hl => match us, hl with | [_, _, _], _ => rfl)
  have d_L_levels := df_mk (st := s_L_levels) (ps := ["_law_drawn", "_law_many", "_law_grades_here"]) X G a31 l31 c31 k31 (fun _ _ _ _ _ _ us hl => match us, hl with | [_, _, _], _ => rfl)
  have d_L_any := df_mk (st := s_L_any) (ps := ["_law_drawn", "_law_many", "_law_wide"]) X G a32 l32 c32 k32 (fun _ _ _ _ _ _ us hl => match us, hl with | [_, _, _], _ => rfl)
  have d_L_table := df_mk (st := s_L_table) (ps := ["_law_drawn", "_law_count_here"]) X G a33 l33 c33 k33 (fun _ _ _ _ _ _ us hl => match us, hl with | [_, _], _ => rfl)
  have d_L_asked := df_mk (st := s_L_asked) (ps := ["_law_table_here", "_law_door", "_law_one_here", "_law_other", "_law_value"]) X G a34 l34 c34 k34 (fun _ _ _ _ _ _ us hl => match us, hl with | [_, _, _, _, _], _ => rfl)
  have d_L_told := df_mk (st := s_L_told) (ps := ["_law_table_here", "_law_door", "_law_one_here", "_law_other", "_law_value"]) X G a35 l35 c35 k35 (fun _ _ _ _ _ _ us hl => match us, hl with | [_, _, _, _, _], _ => rfl)
  have d_L_due := df_mk (st := s_L_due) (ps := ["_law_table_here", "_law_door", "_law_one_here", "_law_other"]) X G a36 l36 c36 k36 (fun _ _ _ _ _ _ us hl => match us, hl with | [_, _, _, _], _ => rfl)
  have d_L_named := df_mk (st := s_L_named) (ps := ["_law_table_here", "_law_way"]) X G a37 l37 c37 k37 (fun _ _ _ _ _ _ us hl => match us, hl with | [_, _], _ => rfl)
  have d_L_name := df_mk (st := s_L_name) (ps := ["_law_table_here", "_law_way"]) X G a38 l38 c38 k38 (fun _ _ _ _ _ _ us hl => match us, hl with | [_, _], _ => rfl)
  have e_NoSuchItem : PySem.Err_NoSuchItem.Txt K mg C_NoSuchItem f_NoSuchItem :=
    { gC := PySem.W.mg_of X G aC_NoSuchItem, cls := ⟨nm_NoSuchItem, q_NoSuchItem, N_NoSuchItem, bs_NoSuchItem, _, sn_NoSuchItem, sub_NoSuchItem, ab_NoSuchItem, col_NoSuchItem, dd_NoSuchItem, m0_NoSuchItem, m1_NoSuchItem, m2_NoSuchItem, m3_NoSuchItem, m5_NoSuchItem, xL_NoSuchItem, by first | rfl | decide +kernel⟩, sa := sa_NoSuchItem, ga := ga_NoSuchItem, gg := gg_NoSuchItem, noN := nb_NoSuchItem, iC := in_NoSuchItem, tC := tf_NoSuchItem, kC := kC_NoSuchItem, exC := eC_NoSuchItem, tyC := tC_NoSuchItem, hdC := hC_NoSuchItem, te := te_NoSuchItem,
      fn := ⟨_, _, _, _, _, _, _, _, _, _, _, _, _, _, lf_NoSuchItem, cf_NoSuchItem⟩ }
  have x_NoSuchItem : ExcC K C_NoSuchItem := ⟨ga_NoSuchItem, gg_NoSuchItem, eC_NoSuchItem, hC_NoSuchItem, ha_NoSuchItem, hn_NoSuchItem, ht_NoSuchItem, hm_NoSuchItem⟩
  have e_SameItem : PySem.Err_SameItem.Txt K mg C_SameItem f_SameItem :=
    { gC := PySem.W.mg_of X G aC_SameItem, cls := ⟨nm_SameItem, q_SameItem, N_SameItem, bs_SameItem, _, sn_SameItem, sub_SameItem, ab_SameItem, col_SameItem, dd_SameItem, m0_SameItem, m1_SameItem, m2_SameItem, m3_SameItem, m5_SameItem, xL_SameItem, by first | rfl | decide +kernel⟩, sa := sa_SameItem, ga := ga_SameItem, gg := gg_SameItem, noN := nb_SameItem, iC := in_SameItem, tC := tf_SameItem, kC := kC_SameItem, exC := eC_SameItem, tyC := tC_SameItem, hdC := hC_SameItem, te := te_SameItem,
      fn := ⟨_, _, _, _, _, _, _, _, _, _, _, _, _, _, lf_SameItem, cf_SameItem⟩ }
  have x_SameItem : ExcC K C_SameItem := ⟨ga_SameItem, gg_SameItem, eC_SameItem, hC_SameItem, ha_SameItem, hn_SameItem, ht_SameItem, hm_SameItem⟩
  have e_UnknownLimit : PySem.Err_UnknownLimit.Txt K mg C_UnknownLimit f_UnknownLimit :=
    { gC := PySem.W.mg_of X G aC_UnknownLimit, cls := ⟨nm_UnknownLimit, q_UnknownLimit, N_UnknownLimit, bs_UnknownLimit, _, sn_UnknownLimit, sub_UnknownLimit, ab_UnknownLimit, col_UnknownLimit, dd_UnknownLimit, m0_UnknownLimit, m1_UnknownLimit, m2_UnknownLimit, m3_UnknownLimit, m5_UnknownLimit, xL_UnknownLimit, by first | rfl | decide +kernel⟩, sa := sa_UnknownLimit, ga := ga_UnknownLimit, gg := gg_UnknownLimit, noN := nb_UnknownLimit, iC := in_UnknownLimit, tC := tf_UnknownLimit, kC := kC_UnknownLimit, exC := eC_UnknownLimit, tyC := tC_UnknownLimit, hdC := hC_UnknownLimit, te := te_UnknownLimit,
      fn := ⟨_, _, _, _, _, _, _, _, _, _, _, _, _, _, lf_UnknownLimit, cf_UnknownLimit⟩ }
  have x_UnknownLimit : ExcC K C_UnknownLimit := ⟨ga_UnknownLimit, gg_UnknownLimit, eC_UnknownLimit, hC_UnknownLimit, ha_UnknownLimit, hn_UnknownLimit, ht_UnknownLimit, hm_UnknownLimit⟩
  have g_MergeError : mg "MergeError" = some (.ref C_MergeError) := PySem.W.mg_of X G aC_MergeError
  have g_NoSuchStep : mg "NoSuchStep" = some (.ref C_NoSuchStep) := PySem.W.mg_of X G aC_NoSuchStep
  have g_InvalidLevel : mg "InvalidLevel" = some (.ref C_InvalidLevel) := PySem.W.mg_of X G aC_InvalidLevel
  have g_InvalidTable : mg "InvalidTable" = some (.ref C_InvalidTable) := PySem.W.mg_of X G aC_InvalidTable
  have g_UnequalSizes : mg "UnequalSizes" = some (.ref C_UnequalSizes) := PySem.W.mg_of X G aC_UnequalSizes
  have gz_ValueError : mg "ValueError" = none := PySem.W.mg_none_of X G zf_ValueError
  have gz_LookupError : mg "LookupError" = none := PySem.W.mg_none_of X G zf_LookupError
  have TD : DrawDefs K mg := ⟨B, ⟨_, _, d_L_next⟩, ⟨_, _, d_L_one⟩, ⟨_, _, d_L_count⟩, ⟨_, _, d_L_grades⟩, ⟨_, _, d_L_level⟩, ⟨_, _, d_L_nested⟩, ⟨_, _, d_L_raised⟩, ⟨_, _, d_L_levels⟩, ⟨_, _, d_L_any⟩⟩
  have J : JoinDefs K mg := ⟨B, ⟨_, _, d_level_between⟩, ⟨_, _, d_is_whole⟩, ⟨_, _, d_is_item⟩, ⟨_, _, d_check_items⟩, ⟨_, _, d_level_grid⟩, ⟨_, _, d_lowest_grid⟩, ⟨_, _, d_join_grid⟩⟩
  have TC : CjDefs K mg := ⟨B, ⟨_, _, d_level_between⟩, ⟨_, _, d_is_whole⟩, ⟨_, _, d_is_item⟩, ⟨_, _, d_check_items⟩, ⟨_, _, d_check_ends⟩, ⟨_, _, d_is_path⟩, ⟨_, _, d_is_division⟩, ⟨_, _, d_height_of⟩, ⟨_, _, d_width_of⟩⟩
  have DD : DoorDefs K mg C_NoSuchItem f_NoSuchItem C_SameItem f_SameItem := ⟨J, TC, e_NoSuchItem, e_SameItem, g_LEVEL, ⟨_, _, d_is_whole⟩, ⟨_, _, d_is_item⟩, ⟨_, _, d_check_items⟩, ⟨_, _, d_check_ends⟩, ⟨_, _, d_join_level⟩, ⟨_, _, d_longer_paths⟩, ⟨_, _, d_best_path⟩, ⟨_, _, d_best_division⟩, ⟨_, _, d_check_join⟩, ⟨_, _, d_detour_level⟩⟩
  have T : LawDefs K mg := ⟨TD, ⟨_, _, _, _, _, _, _, _, _, _, ⟨DD, x_NoSuchItem, x_SameItem, g_MergeError, g_InvalidLevel, g_InvalidTable, g_UnequalSizes, e_UnknownLimit.gC, g_NoSuchStep, gz_ValueError, gz_LookupError, xSI, xSM, iIL, iIA, iSS, iSA⟩⟩,
    ⟨_, _, _, _, _, _, ⟨⟨B, e_UnknownLimit, g_LIMITS⟩, x_UnknownLimit, ⟨_, d_select_pairs⟩, g_MergeError, e_SameItem.gC, g_UnequalSizes, g_InvalidTable, gz_ValueError, gz_LookupError, iUM, iUV, iUA⟩⟩,
    ⟨_, _, d_L_draws⟩, ⟨_, _, d_L_odd⟩, ⟨_, _, d_L_table⟩, ⟨_, _, d_L_asked⟩, ⟨_, _, d_L_told⟩, ⟨_, _, d_L_due⟩, ⟨_, _, d_L_named⟩, ⟨_, _, d_L_name⟩⟩
  exact ⟨PySem.W.fnOf "law" "law" (defArgs s_law) (defBody s_law) (defScope s_law) .none kV39 dc39 pm39 an39 cd39 ct39, fun s v => .of_eq rfl, fun base _ _ => ok_law (fun_mk l39 c39 k39) T⟩
end Ml
open PySem PySem.W PyProof.Rows
set_option maxHeartbeats 0 in
theorem PySem.Challenge.cw_mergelevels_k15_errors_of_paths_holds : PySem.Challenge.rw_mergelevels_k15_errors_of_paths.Holds := by
  w_on; o_law; k_head; (case hw => w_witness2)
  k_fill
  refine Ml.walk_G (l := PySem.Challenge.rw_mergelevels_k15_errors_of_paths) (n := 63) (k := 10) (x := "_law_script") (sp := Ml.sp_law) rfl (by decide) rfl ⟨rfl, by decide, by decide⟩ (fun w h Y => PySem.W.kIn_of Y) ?F (fun K H a ns hl hS => ⟨a, ns, rfl, hS, hl, fun _ => rfl⟩)
  case F =>
    intro w mg fa h KX G hmg
    refine' Ml.all_mk KX G hmg ?a1 ?l1 ?c1 ?k1 ?a2 ?l2 ?c2 ?k2 ?a3 ?l3 ?c3 ?k3 ?a4 ?l4 ?c4 ?k4 ?a5 ?l5 ?c5 ?k5 ?a6 ?l6 ?c6 ?k6 ?a7 ?l7 ?c7 ?k7 ?a8 ?l8 ?c8 ?k8 ?a9 ?l9 ?c9 ?k9 ?a10 ?l10 ?c10 ?k10 ?a11 ?l11 ?c11 ?k11 ?a12 ?l12 ?c12 ?k12 ?a13 ?l13 ?c13 ?k13 ?a14 ?l14 ?c14 ?k14 ?a15 ?l15 ?c15 ?k15 ?a16 ?l16 ?c16 ?k16 ?a17 ?l17 ?c17 ?k17 ?a18 ?l18 ?c18 ?k18 ?a19 ?l19 ?c19 ?k19 ?a20 ?l20 ?c20 ?k20 ?a21 ?l21 ?c21 ?k21 ?a22 ?l22 ?c22 ?k22 ?a23 ?l23 ?c23 ?k23 ?a24 ?l24 ?c24 ?k24 ?a25 ?l25 ?c25 ?k25 ?a26 ?l26 ?c26 ?k26 ?a27 ?l27 ?c27 ?k27 ?a28 ?l28 ?c28 ?k28 ?a29 ?l29 ?c29 ?k29 ?a30 ?l30 ?c30 ?k30 ?a31 ?l31 ?c31 ?k31 ?a32 ?l32 ?c32 ?k32 ?a33 ?l33 ?c33 ?k33 ?a34 ?l34 ?c34 ?k34 ?a35 ?l35 ?c35 ?k35 ?a36 ?l36 ?c36 ?k36 ?a37 ?l37 ?c37 ?k37 ?a38 ?l38 ?c38 ?k38 ?a39 ?l39 ?c39 ?k39 ?aC_NoSuchItem ?xL_NoSuchItem ?sa_NoSuchItem ?ga_NoSuchItem ?gg_NoSuchItem ?nb_NoSuchItem ?in_NoSuchItem ?tf_NoSuchItem ?lf_NoSuchItem ?cf_NoSuchItem ?kC_NoSuchItem ?eC_NoSuchItem ?tC_NoSuchItem ?hC_NoSuchItem ?te_NoSuchItem ?ha_NoSuchItem ?hn_NoSuchItem ?ht_NoSuchItem ?hm_NoSuchItem ?aC_SameItem ?xL_SameItem ?sa_SameItem ?ga_SameItem ?gg_SameItem ?nb_SameItem ?in_SameItem ?tf_SameItem ?lf_SameItem ?cf_SameItem ?kC_SameItem ?eC_SameItem ?tC_SameItem ?hC_SameItem ?te_SameItem ?ha_SameItem ?hn_SameItem ?ht_SameItem ?hm_SameItem ?aC_UnknownLimit ?xL_UnknownLimit ?sa_UnknownLimit ?ga_UnknownLimit ?gg_UnknownLimit ?nb_UnknownLimit ?in_UnknownLimit ?tf_UnknownLimit ?lf_UnknownLimit ?cf_UnknownLimit ?kC_UnknownLimit ?eC_UnknownLimit ?tC_UnknownLimit ?hC_UnknownLimit ?te_UnknownLimit ?ha_UnknownLimit ?hn_UnknownLimit ?ht_UnknownLimit ?hm_UnknownLimit ?aC_MergeError ?aC_NoSuchStep ?aC_InvalidLevel ?aC_InvalidTable ?aC_UnequalSizes ?zf_ValueError ?zf_LookupError ?xSI ?xSM ?iIL ?iIA ?iSS ?iSA ?iUM ?iUV ?iUA ?n_LEVEL ?n_LIMITS ?m_LIMITS ?z1 ?z2 ?z3 ?z4 ?z5 ?z6 ?z7 ?z8 ?z9 ?z10 ?z11 ?z12 ?z13 ?z14 ?z15 ?z16 ?z17 ?z18 ?z19
    (case a1 => k_is)
    (case l1 => k_is)
    (case c1 => k_is)
    (case k1 => k_is)
    (case a2 => k_is)
    (case l2 => k_is)
    (case c2 => k_is)
    (case k2 => k_is)
    (case a3 => k_is)
    (case l3 => k_is)
    (case c3 => k_is)
    (case k3 => k_is)
    (case a4 => k_is)
    (case l4 => k_is)
    (case c4 => k_is)
    (case k4 => k_is)
    (case a5 => k_is)
    (case l5 => k_is)
    (case c5 => k_is)
    (case k5 => k_is)
    (case a6 => k_is)
    (case l6 => k_is)
    (case c6 => k_is)
    (case k6 => k_is)
    (case a7 => k_is)
    (case l7 => k_is)
    (case c7 => k_is)
    (case k7 => k_is)
    (case a8 => k_is)
    (case l8 => k_is)
    (case c8 => k_is)
    (case k8 => k_is)
    (case a9 => k_is)
    (case l9 => k_is)
    (case c9 => k_is)
    (case k9 => k_is)
    (case a10 => k_is)
    (case l10 => k_is)
    (case c10 => k_is)
    (case k10 => k_is)
    (case a11 => k_is)
    (case l11 => k_is)
    (case c11 => k_is)
    (case k11 => k_is)
    (case a12 => k_is)
    (case l12 => k_is)
    (case c12 => k_is)
    (case k12 => k_is)
    (case a13 => k_is)
    (case l13 => k_is)
    (case c13 => k_is)
    (case k13 => k_is)
    (case a14 => k_is)
    (case l14 => k_is)
    (case c14 => k_is)
    (case k14 => k_is)
    (case a15 => k_is)
    (case l15 => k_is)
    (case c15 => k_is)
    (case k15 => k_is)
    (case a16 => k_is)
    (case l16 => k_is)
    (case c16 => k_is)
    (case k16 => k_is)
    (case a17 => k_is)
    (case l17 => k_is)
    (case c17 => k_is)
    (case k17 => k_is)
    (case a18 => k_is)
    (case l18 => k_is)
    (case c18 => k_is)
    (case k18 => k_is)
    (case a19 => k_is)
    (case l19 => k_is)
    (case c19 => k_is)
    (case k19 => k_is)
    (case a20 => k_is)
    (case l20 => k_is)
    (case c20 => k_is)
    (case k20 => k_is)
    (case a21 => k_is)
    (case l21 => k_is)
    (case c21 => k_is)
    (case k21 => k_is)
    (case a22 => k_is)
    (case l22 => k_is)
    (case c22 => k_is)
    (case k22 => k_is)
    (case a23 => k_is)
    (case l23 => k_is)
    (case c23 => k_is)
    (case k23 => k_is)
    (case a24 => k_is)
    (case l24 => k_is)
    (case c24 => k_is)
    (case k24 => k_is)
    (case a25 => k_is)
    (case l25 => k_is)
    (case c25 => k_is)
    (case k25 => k_is)
    (case a26 => k_is)
    (case l26 => k_is)
    (case c26 => k_is)
    (case k26 => k_is)
    (case a27 => k_is)
    (case l27 => k_is)
    (case c27 => k_is)
    (case k27 => k_is)
    (case a28 => k_is)
    (case l28 => k_is)
    (case c28 => k_is)
    (case k28 => k_is)
    (case a29 => k_is)
    (case l29 => k_is)
    (case c29 => k_is)
    (case k29 => k_is)
    (case a30 => k_is)
    (case l30 => k_is)
    (case c30 => k_is)
    (case k30 => k_is)
    (case a31 => k_is)
    (case l31 => k_is)
    (case c31 => k_is)
    (case k31 => k_is)
    (case a32 => k_is)
    (case l32 => k_is)
    (case c32 => k_is)
    (case k32 => k_is)
    (case a33 => k_is)
    (case l33 => k_is)
    (case c33 => k_is)
    (case k33 => k_is)
    (case a34 => k_is)
    (case l34 => k_is)
    (case c34 => k_is)
    (case k34 => k_is)
    (case a35 => k_is)
    (case l35 => k_is)
    (case c35 => k_is)
    (case k35 => k_is)
    (case a36 => k_is)
    (case l36 => k_is)
    (case c36 => k_is)
    (case k36 => k_is)
    (case a37 => k_is)
    (case l37 => k_is)
    (case c37 => k_is)
    (case k37 => k_is)
    (case a38 => k_is)
    (case l38 => k_is)
    (case c38 => k_is)
    (case k38 => k_is)
    (case a39 => k_is)
    (case l39 => k_is)
    (case c39 => k_is)
    (case k39 => k_is)
    (case aC_NoSuchItem => first | rfl | k_is | k_exc)
    (case xL_NoSuchItem => first | rfl | k_is | k_exc)
    (case sa_NoSuchItem => first | rfl | k_is | k_exc)
    (case ga_NoSuchItem => first | rfl | k_is | k_exc)
    (case gg_NoSuchItem => first | rfl | k_is | k_exc)
    (case nb_NoSuchItem => first | rfl | k_is | k_exc)
    (case in_NoSuchItem => first | rfl | k_is | k_exc)
    (case tf_NoSuchItem => first | rfl | k_is | k_exc)
    (case lf_NoSuchItem => first | rfl | k_is | k_exc)
    (case cf_NoSuchItem => first | rfl | k_is | k_exc)
    (case kC_NoSuchItem => first | rfl | k_is | k_exc)
    (case eC_NoSuchItem => first | rfl | k_is | k_exc)
    (case tC_NoSuchItem => first | rfl | k_is | k_exc)
    (case hC_NoSuchItem => first | rfl | k_is | k_exc)
    (case te_NoSuchItem => first | rfl | k_is | k_exc)
    (case ha_NoSuchItem => first | rfl | k_is | k_exc)
    (case hn_NoSuchItem => first | rfl | k_is | k_exc)
    (case ht_NoSuchItem => first | rfl | k_is | k_exc)
    (case hm_NoSuchItem => first | rfl | k_is | k_exc)
    (case aC_SameItem => first | rfl | k_is | k_exc)
    (case xL_SameItem => first | rfl | k_is | k_exc)
    (case sa_SameItem => first | rfl | k_is | k_exc)
    (case ga_SameItem => first | rfl | k_is | k_exc)
    (case gg_SameItem => first | rfl | k_is | k_exc)
    (case nb_SameItem => first | rfl | k_is | k_exc)
    (case in_SameItem => first | rfl | k_is | k_exc)
    (case tf_SameItem => first | rfl | k_is | k_exc)
    (case lf_SameItem => first | rfl | k_is | k_exc)
    (case cf_SameItem => first | rfl | k_is | k_exc)
    (case kC_SameItem => first | rfl | k_is | k_exc)
    (case eC_SameItem => first | rfl | k_is | k_exc)
    (case tC_SameItem => first | rfl | k_is | k_exc)
    (case hC_SameItem => first | rfl | k_is | k_exc)
    (case te_SameItem => first | rfl | k_is | k_exc)
    (case ha_SameItem => first | rfl | k_is | k_exc)
    (case hn_SameItem => first | rfl | k_is | k_exc)
    (case ht_SameItem => first | rfl | k_is | k_exc)
    (case hm_SameItem => first | rfl | k_is | k_exc)
    (case aC_UnknownLimit => first | rfl | k_is | k_exc)
    (case xL_UnknownLimit => first | rfl | k_is | k_exc)
    (case sa_UnknownLimit => first | rfl | k_is | k_exc)
    (case ga_UnknownLimit => first | rfl | k_is | k_exc)
    (case gg_UnknownLimit => first | rfl | k_is | k_exc)
    (case nb_UnknownLimit => first | rfl | k_is | k_exc)
    (case in_UnknownLimit => first | rfl | k_is | k_exc)
    (case tf_UnknownLimit => first | rfl | k_is | k_exc)
    (case lf_UnknownLimit => first | rfl | k_is | k_exc)
    (case cf_UnknownLimit => first | rfl | k_is | k_exc)
    (case kC_UnknownLimit => first | rfl | k_is | k_exc)
    (case eC_UnknownLimit => first | rfl | k_is | k_exc)
    (case tC_UnknownLimit => first | rfl | k_is | k_exc)
    (case hC_UnknownLimit => first | rfl | k_is | k_exc)
    (case te_UnknownLimit => first | rfl | k_is | k_exc)
    (case ha_UnknownLimit => first | rfl | k_is | k_exc)
    (case hn_UnknownLimit => first | rfl | k_is | k_exc)
    (case ht_UnknownLimit => first | rfl | k_is | k_exc)
    (case hm_UnknownLimit => first | rfl | k_is | k_exc)
    (case aC_MergeError => first | rfl | k_is | k_exc)
    (case aC_NoSuchStep => first | rfl | k_is | k_exc)
    (case aC_InvalidLevel => first | rfl | k_is | k_exc)
    (case aC_InvalidTable => first | rfl | k_is | k_exc)
    (case aC_UnequalSizes => first | rfl | k_is | k_exc)
    (case zf_ValueError => first | rfl | k_is | k_exc)
    (case zf_LookupError => first | rfl | k_is | k_exc)
    (case xSI => first | rfl | k_is | k_exc)
    (case xSM => first | rfl | k_is | k_exc)
    (case iIL => first | rfl | k_is | k_exc)
    (case iIA => first | rfl | k_is | k_exc)
    (case iSS => first | rfl | k_is | k_exc)
    (case iSA => first | rfl | k_is | k_exc)
    (case iUM => first | rfl | k_is | k_exc)
    (case iUV => first | rfl | k_is | k_exc)
    (case iUA => first | rfl | k_is | k_exc)
    (case n_LEVEL => k_is)
    (case n_LIMITS => k_is)
    (case m_LIMITS => k_is)
    (case z1 => k_is)
    (case z2 => k_is)
    (case z3 => k_is)
    (case z4 => k_is)
    (case z5 => k_is)
    (case z6 => k_is)
    (case z7 => k_is)
    (case z8 => k_is)
    (case z9 => k_is)
    (case z10 => k_is)
    (case z11 => k_is)
    (case z12 => k_is)
    (case z13 => k_is)
    (case z14 => k_is)
    (case z15 => k_is)
    (case z16 => k_is)
    (case z17 => k_is)
    (case z18 => k_is)
    (case z19 => k_is)

namespace Ml
open PySem PySem.Spec PyProof.Rows L2
/-! ### heaps -/
def Sm (H H' : Hp) : Prop := ∀ b o, H b = some o → H' b = some o
theorem Sm.refl (H : Hp) : Sm H H := fun _ _ h => h
theorem Sm.trans {H H1 H2 : Hp} (a : Sm H H1) (b : Sm H1 H2) : Sm H H2 := fun c o h => b c o (a c o h)
theorem Sm.new {H : Hp} {p : Addr} {o : HO} (h : H p = none) : Sm H (upd H p o) := fun b x e => by
  rw [upd_ne (ne_of_none e h)]
  exact e
theorem Sm.free {H H' : Hp} (e : Sm H H') {l : Addr} (h : H' l = none) : H l = none := by
  cases q : H l with
  | none => rfl
  | some o => rw [e l o q] at h; cases h
theorem Sm.rd {H H' : Hp} {a : Addr} {u : HO} (e : Sm H H') (h : Rd H a u) : Rd H' a u := by
  rcases h with h | ⟨o, h⟩
  · exact .inl (e _ _ h)
  · exact .inr ⟨o, e _ _ h⟩
theorem Sm.sqL {K : PySem.W.Frag} {H H' : Hp} {a : Addr} {xs : List V} (e : Sm H H') (h : SqL K H a xs) : SqL K H' a xs := by
  rcases h with h | h
  · exact .inl (e.rd h)
  · exact .inr h
theorem Sm.sqT {K : PySem.W.Frag} {H H' : Hp} {a : Addr} {xs : List V} (e : Sm H H') (h : SqT K H a xs) : SqT K H' a xs := by
  rcases h with h | h
  · exact .inl (e.rd h)
  · exact .inr h
/-- all but the two places of a drawing stays -/
def Kp (d r : Addr) (H H' : Hp) : Prop := ∀ b o, H b = some o → b ≠ d → b ≠ r → H' b = some o
theorem Kp.refl (d r : Addr) (H : Hp) : Kp d r H H := fun _ _ h _ _ => h
theorem Kp.trans {d r : Addr} {H H1 H2 : Hp} (a : Kp d r H H1) (b : Kp d r H1 H2) : Kp d r H H2 := fun c o h h1 h2 => b c o (a c o h h1 h2) h1 h2
theorem Sm.kp {d r : Addr} {H H' : Hp} (a : Sm H H') : Kp d r H H' := fun c o h _ _ => a c o h
theorem Kp.new {d r : Addr} {H : Hp} {p : Addr} {o : HO} (h : H p = none) : Kp d r H (upd H p o) := (Sm.new h).kp
theorem Kp.sqL {K : PySem.W.Frag} {d r : Addr} {H H' : Hp} {a : Addr} {xs : List V} (e : Kp d r H H') (h1 : a ≠ d) (h2 : a ≠ r) (h : SqL K H a xs) : SqL K H' a xs := by
  rcases h with (h | ⟨o, h⟩) | h
  · exact .inl (.inl (e _ _ h h1 h2))
  · exact .inl (.inr ⟨o, e _ _ h h1 h2⟩)
  · exact .inr h
/-- what is drawn from: the cells, how often, the rests -/
structure Dr (H : Hp) (d c r : Addr) (n : Nat) : Prop where
  ex : ∃ (cells rests : List Int) (t : Nat), H d = some (.lst [.ref c, .int (t : Int), .ref r]) ∧ H c = some (.lst (cells.map V.int)) ∧ H r = some (.lst (rests.map V.int)) ∧
    cells.length = rests.length ∧ 0 < cells.length ∧ cells.length ≤ 64 ∧ t ≤ n ∧ ∀ x ∈ rests, 0 ≤ x
  dc : d ≠ c
  dr : d ≠ r
  cr : c ≠ r
theorem Dr.d_lst {H : Hp} {d c r : Addr} {n : Nat} (h : Dr H d c r n) : ∃ xs, H d = some (.lst xs) := by
  obtain ⟨_, _, _, h1, _⟩ := h.ex
  exact ⟨_, h1⟩
theorem Dr.r_lst {H : Hp} {d c r : Addr} {n : Nat} (h : Dr H d c r n) : ∃ xs, H r = some (.lst xs) := by
  obtain ⟨_, _, _, _, _, h1, _⟩ := h.ex
  exact ⟨_, h1⟩
theorem Dr.c_lst {H : Hp} {d c r : Addr} {n : Nat} (h : Dr H d c r n) : ∃ xs, H c = some (.lst xs) := by
  obtain ⟨_, _, _, _, h1, _⟩ := h.ex
  exact ⟨_, h1⟩
theorem Dr.mono {H : Hp} {d c r : Addr} {n m : Nat} (h : Dr H d c r n) (e : n ≤ m) : Dr H d c r m := by
  obtain ⟨⟨cs, rs, t, h1, h2, h3, h4, h5, h6, h7, h8⟩, a, b, k⟩ := h
  exact ⟨⟨cs, rs, t, h1, h2, h3, h4, h5, h6, Nat.le_trans h7 e, h8⟩, a, b, k⟩
theorem Dr.same {H H' : Hp} {d c r : Addr} {n : Nat} (h : Dr H d c r n) (e : Sm H H') : Dr H' d c r n := by
  obtain ⟨⟨cs, rs, t, h1, h2, h3, h4⟩, a, b, k⟩ := h
  exact ⟨⟨cs, rs, t, e _ _ h1, e _ _ h2, e _ _ h3, h4⟩, a, b, k⟩
/-- an object that is stored into, elsewhere -/
theorem Dr.upd {H : Hp} {d c r p : Addr} {n : Nat} {o : HO} (h : Dr H d c r n) (h1 : p ≠ d) (h2 : p ≠ c) (h3 : p ≠ r) : Dr (L2.upd H p o) d c r n := by
  obtain ⟨⟨cs, rs, t, e1, e2, e3, e4⟩, a, b, k⟩ := h
  refine ⟨⟨cs, rs, t, ?_, ?_, ?_, e4⟩, a, b, k⟩
  · rw [upd_ne h1.symm]; exact e1
  · rw [upd_ne h2.symm]; exact e2
  · rw [upd_ne h3.symm]; exact e3
theorem Dr.new {H : Hp} {d c r p : Addr} {n : Nat} {o : HO} (h : Dr H d c r n) (hp : H p = none) : Dr (L2.upd H p o) d c r n := h.same (Sm.new hp)
theorem Dr.ne {H : Hp} {d c r p : Addr} {n : Nat} (h : Dr H d c r n) (hp : H p = none) : p ≠ d ∧ p ≠ c ∧ p ≠ r := by
  obtain ⟨x, h1⟩ := h.d_lst
  obtain ⟨y, h2⟩ := h.c_lst
  obtain ⟨z, h3⟩ := h.r_lst
  exact ⟨(ne_of_none h1 hp).symm, (ne_of_none h2 hp).symm, (ne_of_none h3 hp).symm⟩
theorem Dr.kpT {K : PySem.W.Frag} {H H' : Hp} {d c r a : Addr} {n : Nat} {xs : List V} (h : Dr H d c r n) (e : Kp d r H H') (hs : SqT K H a xs) : SqT K H' a xs := by
  obtain ⟨x, h1⟩ := h.d_lst
  obtain ⟨y, h2⟩ := h.r_lst
  rcases hs with (q | ⟨o, q⟩) | q
  · exact .inl (.inl (e _ _ q (ne_of q h1 (by intro z; cases z)) (ne_of q h2 (by intro z; cases z))))
  · exact .inl (.inr ⟨o, e _ _ q (ne_of q h1 (by intro z; cases z)) (ne_of q h2 (by intro z; cases z))⟩)
  · exact .inr q
/-! ### tuples of ints, tables -/
def IT (K : PySem.W.Frag) (H : Hp) (v : V) (ns : List Int) : Prop := ∃ p, v = .ref p ∧ SqT K H p (ns.map V.int)
def Rows (K : PySem.W.Frag) (H : Hp) (vs : List V) (t : List (List Int)) : Prop := vs.length = t.length ∧ ∀ (i : Nat) v ns, vs[i]? = some v → t[i]? = some ns → IT K H v ns
def TT (K : PySem.W.Frag) (H : Hp) (v : V) (t : List (List Int)) : Prop := ∃ p vs, v = .ref p ∧ SqT K H p vs ∧ Rows K H vs t
theorem IT.same {K : PySem.W.Frag} {H H' : Hp} {v : V} {ns : List Int} (h : IT K H v ns) (e : Sm H H') : IT K H' v ns := by
  obtain ⟨p, h1, h2⟩ := h
  exact ⟨p, h1, e.sqT h2⟩
theorem Rows.same {K : PySem.W.Frag} {H H' : Hp} {vs : List V} {t : List (List Int)} (h : Rows K H vs t) (e : Sm H H') : Rows K H' vs t :=
  ⟨h.1, fun i v ns a b => (h.2 i v ns a b).same e⟩
theorem TT.same {K : PySem.W.Frag} {H H' : Hp} {v : V} {t : List (List Int)} (h : TT K H v t) (e : Sm H H') : TT K H' v t := by
  obtain ⟨p, vs, h1, h2, h3⟩ := h
  exact ⟨p, vs, h1, e.sqT h2, h3.same e⟩
theorem IT.kp {K : PySem.W.Frag} {H H' : Hp} {d c r : Addr} {n : Nat} {v : V} {ns : List Int} (h : IT K H v ns) (g : Dr H d c r n) (e : Kp d r H H') : IT K H' v ns := by
  obtain ⟨p, h1, h2⟩ := h
  exact ⟨p, h1, g.kpT e h2⟩
theorem Rows.kp {K : PySem.W.Frag} {H H' : Hp} {d c r : Addr} {n : Nat} {vs : List V} {t : List (List Int)} (h : Rows K H vs t) (g : Dr H d c r n) (e : Kp d r H H') : Rows K H' vs t :=
  ⟨h.1, fun i v ns a b => (h.2 i v ns a b).kp g e⟩
theorem TT.kp {K : PySem.W.Frag} {H H' : Hp} {d c r : Addr} {n : Nat} {v : V} {t : List (List Int)} (h : TT K H v t) (g : Dr H d c r n) (e : Kp d r H H') : TT K H' v t := by
  obtain ⟨p, vs, h1, h2, h3⟩ := h
  exact ⟨p, vs, h1, g.kpT e h2, h3.kp g e⟩
/-- stores into a list -/
theorem sqT_upd {K : PySem.W.Frag} {H : Hp} {a p : Addr} {xs ys zs : List V} (hp : H p = some (.lst ys)) (hs : SqT K H a xs) : SqT K (L2.upd H p (.lst zs)) a xs := by
  rcases hs with (q | ⟨o, q⟩) | q
  · exact .inl (.inl (by rw [upd_ne (ne_of q hp (by intro z; cases z))]; exact q))
  · exact .inl (.inr ⟨o, by rw [upd_ne (ne_of q hp (by intro z; cases z))]; exact q⟩)
  · exact .inr q
theorem IT.upd {K : PySem.W.Frag} {H : Hp} {p : Addr} {ys zs : List V} {v : V} {ns : List Int} (h : IT K H v ns) (hp : H p = some (.lst ys)) : IT K (L2.upd H p (.lst zs)) v ns := by
  obtain ⟨q, h1, h2⟩ := h
  exact ⟨q, h1, sqT_upd hp h2⟩
theorem Rows.upd {K : PySem.W.Frag} {H : Hp} {p : Addr} {ys zs : List V} {vs : List V} {t : List (List Int)} (h : Rows K H vs t) (hp : H p = some (.lst ys)) : Rows K (L2.upd H p (.lst zs)) vs t :=
  ⟨h.1, fun i v ns a b => (h.2 i v ns a b).upd hp⟩
theorem Rows.nil {K : PySem.W.Frag} {H : Hp} : Rows K H [] [] := ⟨rfl, fun i v ns a _ => by simp at a⟩
theorem Rows.snoc {K : PySem.W.Frag} {H : Hp} {vs : List V} {t : List (List Int)} {v : V} {ns : List Int} (h : Rows K H vs t) (q : IT K H v ns) : Rows K H (vs ++ [v]) (t ++ [ns]) := by
  refine ⟨by rw [List.length_append, List.length_append, h.1]; rfl, fun i u ms a b => ?_⟩
  by_cases hi : i < vs.length
  · rw [List.getElem?_append_left hi] at a
    rw [List.getElem?_append_left (by rw [← h.1]; exact hi)] at b
    exact h.2 i u ms a b
  · rw [List.getElem?_append_right (by omega)] at a
    rw [List.getElem?_append_right (by rw [← h.1]; omega), ← h.1] at b
    cases e : i - vs.length with
    | zero =>
      rw [e] at a b
      cases Option.some.inj a
      cases Option.some.inj b
      exact q
    | succ k => rw [e] at a; simp at a
theorem Rows.get {K : PySem.W.Frag} {H : Hp} {vs : List V} {t : List (List Int)} (h : Rows K H vs t) {i : Nat} (hi : i < t.length) : ∃ v p, vs[i]? = some v ∧ v = .ref p ∧ SqT K H p ((t.getD i []).map V.int) := by
  have h1 : i < vs.length := by rw [h.1]; exact hi
  have a : vs[i]? = some vs[i] := List.getElem?_eq_getElem h1
  have b : t[i]? = some t[i] := List.getElem?_eq_getElem hi
  obtain ⟨p, e, q⟩ := h.2 i _ _ a b
  refine ⟨_, p, a, e, ?_⟩
  rw [List.getD_eq_getElem?_getD, b]
  exact q
/-- a table's levels -/
def LvOk (x : Int) : Prop := 1 ≤ x ∧ x ≤ 1000000000000
def WT (t : List (List Int)) : Prop := ∀ (i : Nat) ns, t[i]? = some ns → ns.length = i ∧ ∀ x ∈ ns, LvOk x
def lev (t : List (List Int)) (i j : Nat) : Int := if i = j then 0 else (t.getD (max i j) []).getD (min i j) 0
theorem lev_comm (t : List (List Int)) (i j : Nat) : lev t i j = lev t j i := by
  unfold lev
  by_cases h : i = j
  · rw [if_pos h, if_pos h.symm]
  · rw [if_neg h, if_neg (fun e => h e.symm), Nat.max_comm, Nat.min_comm]
theorem WT.row {t : List (List Int)} (h : WT t) {i : Nat} (hi : i < t.length) : (t.getD i []).length = i ∧ ∀ x ∈ t.getD i [], LvOk x := by
  have b : t[i]? = some t[i] := List.getElem?_eq_getElem hi
  rw [List.getD_eq_getElem?_getD, b]
  exact h i _ b
theorem WT.lev {t : List (List Int)} (h : WT t) {i j : Nat} (hi : i < t.length) (hj : j < t.length) (hij : i ≠ j) : LvOk (lev t i j) := by
  unfold Ml.lev
  rw [if_neg hij]
  have hm : max i j < t.length := by omega
  obtain ⟨h1, h2⟩ := h.row hm
  have hl : min i j < (t.getD (max i j) []).length := by omega
  rw [List.getD_eq_getElem?_getD, List.getElem?_eq_getElem hl]
  exact h2 _ (List.getElem_mem hl)
theorem WT.nil : WT [] := fun i ns h => by simp at h
theorem WT.snoc {t : List (List Int)} {ns : List Int} (h : WT t) (h1 : ns.length = t.length) (h2 : ∀ x ∈ ns, LvOk x) : WT (t ++ [ns]) := by
  intro i ms q
  by_cases hi : i < t.length
  · rw [List.getElem?_append_left hi] at q
    exact h i ms q
  · rw [List.getElem?_append_right (by omega)] at q
    cases e : i - t.length with
    | zero =>
      rw [e] at q
      cases Option.some.inj q
      exact ⟨by omega, h2⟩
    | succ k => rw [e] at q; simp at q
theorem map_at {ns : List Int} {i : Nat} {x : Int} (h : ns[i]? = some x) : (ns.map V.int)[i]? = some (.int x) := by
  rw [List.getElem?_map, h]
  rfl
theorem getD_at {ns : List Int} {i : Nat} (h : i < ns.length) : ns[i]? = some (ns.getD i 0) := by
  rw [List.getD_eq_getElem?_getD, List.getElem?_eq_getElem h]
  rfl
end Ml
namespace Ml
open PySem PySem.Spec PyProof.Rows L2
theorem ixN_at {n j : Nat} (h : j < n) : ixN n (j : Int) = some j := by
  unfold ixN
  rw [if_pos (by omega), if_pos (by omega)]
  simp
end Ml

namespace Ml
open PySem PySem.Spec PyProof.Rows L2
/-! ### data at any depth -/
mutual
theorem Dp.same {K : PySem.W.Frag} {H H' : Hp} (e : Sm H H') : ∀ (d : PyData) (v : V), Dp K H v d → Dp K H' v d
  | .none, _, h => by cases h; exact .non
  | .bool b, _, h => by cases h; exact .bl b
  | .int i, _, h => by cases h; exact .int i
  | .str x, _, h => by cases h; exact .str x
  | .list ds, _, h => by
    cases h with
    | lst hs ha => exact .lst (e.sqL hs) (Dp.sameAll e ds _ ha)
  | .tuple ds, _, h => by
    cases h with
    | tup hs ha => exact .tup (e.sqT hs) (Dp.sameAll e ds _ ha)
  | .dict _, _, h => by cases h
theorem Dp.sameAll {K : PySem.W.Frag} {H H' : Hp} (e : Sm H H') : ∀ (ds : List PyData) (vs : List V), DpAll K H vs ds → DpAll K H' vs ds
  | [], _, h => by cases h; exact .nil
  | d :: ds, _, h => by
    cases h with
    | cons h1 h2 => exact .cons (Dp.same e d _ h1) (Dp.sameAll e ds _ h2)
end
theorem dp_len {K : PySem.W.Frag} {H : Hp} : ∀ {vs : List V} {ds : List PyData}, DpAll K H vs ds → vs.length = ds.length
  | [], _, h => by cases h; rfl
  | v :: vs, _, h => by
    cases h with
    | cons _ h2 => rw [List.length_cons, List.length_cons, dp_len h2]
theorem dp_at {K : PySem.W.Frag} {H : Hp} : ∀ {vs : List V} {ds : List PyData}, DpAll K H vs ds → ∀ {i : Nat} {v : V}, vs[i]? = some v → ∃ d, ds[i]? = some d ∧ Dp K H v d
  | [], _, h, i, v, e => by simp at e
  | u :: vs, _, h, i, v, e => by
    cases h with
    | cons h1 h2 =>
      cases i with
      | zero => cases Option.some.inj e; exact ⟨_, rfl, h1⟩
      | succ i => exact dp_at h2 (i := i) (by simpa using e)
theorem dp_ints {K : PySem.W.Frag} {H : Hp} : ∀ ns : List Int, DpAll K H (ns.map V.int) (ns.map PyData.int)
  | [] => .nil
  | n :: ns => .cons (.int n) (dp_ints ns)
/-- what may be compared: no lists, not too deep -/
def okD : Nat → PyData → Prop
  | _, .none => True
  | _, .bool _ => True
  | _, .int _ => True
  | _, .str _ => True
  | n + 1, .tuple ds => ds.length ≤ 1000 ∧ ∀ d ∈ ds, okD n d
  | _, _ => False
theorem okD_int (n : Nat) (i : Int) : okD n (.int i) := by cases n <;> exact trivial
theorem okD_none (n : Nat) : okD n .none := by cases n <;> exact trivial
theorem okD_bool (n : Nat) (b : Bool) : okD n (.bool b) := by cases n <;> exact trivial
theorem okD_ints (n : Nat) (ns : List Int) (h : ns.length ≤ 1000) : okD (n + 1) (.tuple (ns.map PyData.int)) := by
  refine ⟨by rw [List.length_map]; exact h, fun d hd => ?_⟩
  obtain ⟨i, _, rfl⟩ := List.mem_map.mp hd
  exact okD_int n i
theorem ty_tup {K : PySem.W.Frag} {H : Hp} {a : Addr} {xs : List V} (h : SqT K H a xs) : TyX K H (.ref a) (.type "tuple") := by
  rcases h with (h | ⟨o, h⟩) | ⟨o, its, n, h1, h2, _⟩
  · exact .base (.tup h)
  · exact .fTuple h
  · exact .kTuple h1 h2
def tyN : PyData → String
  | .none => "NoneType"
  | .bool _ => "bool"
  | .int _ => "int"
  | .str _ => "str"
  | .tuple _ => "tuple"
  | .list _ => "list"
  | .dict _ => "dict"
theorem dp_ty {K : PySem.W.Frag} {H : Hp} {n : Nat} {d : PyData} {v : V} (h : Dp K H v d) (ok : okD n d) : TyX K H v (.type (tyN d)) := by
  cases h with
  | non => exact .base .non
  | bl b => exact .base (.bl b)
  | int i => exact .base (.int i)
  | str x => exact .base (.str x)
  | lst hs ha => cases n <;> exact ok.elim
  | tup hs ha => exact ty_tup hs
end Ml

namespace Ml
open PySem PySem.Spec PyProof.Rows L2
/-! ### repr of data -/
section
variable {X : Cx}
def rRepr (K : PySem.W.Frag) : List V → Hp → VK → Prop := fun vs H Q => ∃ (a : Addr) (d : PyData), vs = [.ref a] ∧ Dp K H (.ref a) d ∧ d.showable = true ∧ d.hasDict = false ∧ d.depth ≤ 8 ∧ d.shown.length ≤ sizeLine ∧ Q (.str d.shown) H
theorem cr_repr {k : Nat} (hg : X.A.guards = some []) (hr : Room k X.A) : CallR X (.builtin "repr") (rRepr X.K) := by
  intro pins s σ H xs us Q I rxs h
  obtain ⟨a, d, rfl, hd, sh, nd, dp, sz, q⟩ := h
  obtain ⟨u, rfl, ru⟩ := rxs.one
  obtain ⟨as, rd⟩ := Dp.reads I d _ u hd ru
  cases ru
  have hu := hr.units
  exact repr_of_reads' rd sh (fun z => by rw [nd] at z; cases z) hg (by omega) (fun _ _ e => e) (fun g t tk keep => ⟨.str d.shown, H, I.kept (t' := tk) keep, ⟨t, rfl⟩, q⟩) sz
end
/-- a row, a table as data -/
def rowD (ns : List Int) : PyData := .tuple (ns.map PyData.int)
def tabD (t : List (List Int)) : PyData := .tuple (t.map rowD)
theorem IT.dp {K : PySem.W.Frag} {H : Hp} {v : V} {ns : List Int} (h : IT K H v ns) : Dp K H v (rowD ns) := by
  obtain ⟨p, rfl, hs⟩ := h
  exact .tup hs (dp_ints ns)
theorem rows_dp {K : PySem.W.Frag} {H : Hp} : ∀ {vs : List V} {t : List (List Int)}, Rows K H vs t → DpAll K H vs (t.map rowD)
  | [], [], _ => .nil
  | [], _ :: _, h => by have := h.1; simp at this
  | _ :: _, [], h => by have := h.1; simp at this
  | v :: vs, ns :: t, h => by
    refine .cons (h.2 0 v ns rfl rfl).dp (rows_dp (vs := vs) (t := t) ⟨by have := h.1; simpa using this, fun i u ms a b => h.2 (i + 1) u ms (by simpa using a) (by simpa using b)⟩)
theorem TT.dp {K : PySem.W.Frag} {H : Hp} {v : V} {t : List (List Int)} (h : TT K H v t) : Dp K H v (tabD t) := by
  obtain ⟨p, vs, rfl, hs, hR⟩ := h
  exact .tup hs (rows_dp hR)
theorem shown_ints : ∀ ns : List Int, PyData.shownAll (ns.map PyData.int) = ns.map fun i => PyData.shown (.int i)
  | [] => by simp [PyData.shownAll]
  | n :: ns => by simp [PyData.shownAll, shown_ints ns]
theorem shown_rows : ∀ t : List (List Int), PyData.shownAll (t.map rowD) = t.map fun ns => PyData.shown (rowD ns)
  | [] => by simp [PyData.shownAll]
  | n :: ns => by simp [PyData.shownAll, shown_rows ns]
theorem sum_le {α : Type} (f : α → Nat) (b : Nat) : ∀ (l : List α), (∀ x ∈ l, f x ≤ b) → (l.map f).sum ≤ b * l.length
  | [], _ => Nat.zero_le _
  | x :: l, h => by
    have h1 := h x List.mem_cons_self
    have h2 := sum_le f b l fun y hy => h y (List.mem_cons_of_mem _ hy)
    rw [List.map_cons, List.sum_cons, List.length_cons, Nat.mul_succ]
    omega
theorem shown_int14 {i : Int} (h : i.natAbs < 10 ^ 13) : (PyData.shown (.int i)).length ≤ 14 := by
  have e := int_text_length_le10 (k := 13) (by decide) h
  show (Str.ofString (toString i)).length ≤ 14
  rw [PySem.ofString_length]
  exact e
theorem shown_row_le {ns : List Int} (h : ∀ x ∈ ns, LvOk x) : (PyData.shown (rowD ns)).length ≤ 16 * ns.length + 3 := by
  have e := tupleText_len_le (PyData.shownAll (ns.map PyData.int))
  rw [shown_ints] at e
  have s := sum_le (fun i : Int => (PyData.shown (.int i)).length) 14 ns fun x hx => shown_int14 (by have := h x hx; unfold LvOk at this; omega)
  rw [List.map_map, List.length_map] at e
  show (tupleText (PyData.shownAll (ns.map PyData.int))).length ≤ _
  rw [shown_ints]
  have s' : (List.map ((fun x : Str => x.length) ∘ fun i : Int => PyData.shown (.int i)) ns).sum ≤ 14 * ns.length := s
  omega
theorem shown_tab_le {t : List (List Int)} (h : WT t) (h20 : t.length ≤ 20) : (PyData.shown (tabD t)).length ≤ sizeLine := by
  have e := tupleText_len_le (PyData.shownAll (t.map rowD))
  rw [shown_rows] at e
  have s := sum_le (fun ns : List Int => (PyData.shown (rowD ns)).length) 400 t fun ns hns => by
    obtain ⟨i, hi, ei⟩ := List.getElem_of_mem hns
    obtain ⟨h1, h2⟩ := h i ns (by rw [List.getElem?_eq_getElem hi, ei])
    have := shown_row_le h2
    show (PyData.shown (rowD ns)).length ≤ 400
    omega
  rw [List.map_map, List.length_map] at e
  show (tupleText (PyData.shownAll (t.map rowD))).length ≤ _
  rw [shown_rows, sizeLine_eq]
  have s' : (List.map ((fun x : Str => x.length) ∘ fun ns : List Int => PyData.shown (rowD ns)) t).sum ≤ 400 * t.length := s
  omega
theorem show_ints : ∀ {ns : List Int}, (∀ x ∈ ns, LvOk x) → PyData.showableAll (ns.map PyData.int) = true
  | [], _ => by simp [PyData.showableAll]
  | n :: ns, h => by
    have h1 := h n List.mem_cons_self
    have e : n.natAbs.log2 < 1920 := by
      have : n.natAbs < 2 ^ 64 := Nat.lt_of_lt_of_le (show n.natAbs < 10 ^ 13 by unfold LvOk at h1; omega) (by decide)
      exact Nat.lt_trans (PySem.Flt.log2_lt_of (by decide) this) (by decide)
    simp [PyData.showableAll, PyData.showable, e, show_ints fun x hx => h x (List.mem_cons_of_mem _ hx)]
theorem show_rows : ∀ {t : List (List Int)}, (∀ ns ∈ t, ∀ x ∈ ns, LvOk x) → PyData.showableAll (t.map rowD) = true
  | [], _ => by simp [PyData.showableAll]
  | n :: ns, h => by
    have h1 := show_ints (h n List.mem_cons_self)
    simp [PyData.showableAll, PyData.showable, rowD, h1, show_rows fun x hx => h x (List.mem_cons_of_mem _ hx)]
theorem WT.mem {t : List (List Int)} (h : WT t) : ∀ ns ∈ t, ∀ x ∈ ns, LvOk x := fun ns hns => by
  obtain ⟨i, hi, ei⟩ := List.getElem_of_mem hns
  exact (h i ns (by rw [List.getElem?_eq_getElem hi, ei])).2
theorem show_tab {t : List (List Int)} (h : WT t) : (tabD t).showable = true := by
  show PyData.showable (.tuple (t.map rowD)) = true
  simp only [PyData.showable]
  exact show_rows h.mem
theorem nod_ints : ∀ ns : List Int, PyData.hasDictAll (ns.map PyData.int) = false
  | [] => by simp [PyData.hasDictAll]
  | n :: ns => by simp [PyData.hasDictAll, PyData.hasDict, nod_ints ns]
theorem nod_rows : ∀ t : List (List Int), PyData.hasDictAll (t.map rowD) = false
  | [] => by simp [PyData.hasDictAll]
  | n :: ns => by simp [PyData.hasDictAll, PyData.hasDict, rowD, nod_ints n, nod_rows ns]
theorem nod_tab (t : List (List Int)) : (tabD t).hasDict = false := by
  show PyData.hasDict (.tuple (t.map rowD)) = false
  simp only [PyData.hasDict]
  exact nod_rows t
theorem dep_ints : ∀ ns : List Int, PyData.depthAll (ns.map PyData.int) = 0
  | [] => by simp [PyData.depthAll]
  | n :: ns => by simp [PyData.depthAll, PyData.depth, dep_ints ns]
theorem dep_rows : ∀ t : List (List Int), PyData.depthAll (t.map rowD) ≤ 1
  | [] => by simp [PyData.depthAll]
  | n :: ns => by
    have h1 := dep_ints n
    have h2 := dep_rows ns
    simp only [List.map_cons, PyData.depthAll, rowD, PyData.depth, h1]
    omega
theorem dep_tab (t : List (List Int)) : (tabD t).depth ≤ 8 := by
  have h := dep_rows t
  show PyData.depth (.tuple (t.map rowD)) ≤ 8
  simp only [PyData.depth]
  omega
theorem okD_tab {n : Nat} {t : List (List Int)} (h : WT t) (h20 : t.length ≤ 20) : okD (n + 2) (tabD t) := by
  refine ⟨by rw [List.length_map]; omega, fun d hd => ?_⟩
  obtain ⟨ns, hns, rfl⟩ := List.mem_map.mp hd
  obtain ⟨i, hi, ei⟩ := List.getElem_of_mem hns
  have := (h i ns (by rw [List.getElem?_eq_getElem hi, ei])).1
  exact okD_ints n ns (by omega)
/-! ### a def that is called where nothing is being shown -/
structure GOk (P : Program) (w : World) (K : PySem.W.Frag) (mg : Str → Option Value) (base : Heap) (k : Nat) (f : Addr) (fd : FuncData) (ps : List Str) (sp : Sp) : Prop where
  len : ∀ vs H Q E, sp vs H Q E → vs.length = ps.length
  go : ∀ (A : Around) (outer : List Env) (s : Shared) (H : Hp) (args : Args) (us : List Value) (vs : List V) (Q : VK) (E : XK), A.guards = some [] → Room k A → Env0 P w K mg base A outer s H → BindsTo s fd args (ps.zip us) → Vals vs us → sp vs H Q E →
    codeAny (model P w) A (.call (.ref f) args) (CR CX0 outer P w H s Q E) s
theorem fun_G {P : Program} {w : World} {K : PySem.W.Frag} {mg : Str → Option Value} {base : Heap} {x qual : Str} {st : Stmt} {f : Addr} {fd : FuncData} {N ps : List Str} {k : Nat} {sp : Sp} (F : Fun K x qual st f fd) (S : FnScope N ps (defScope st))
    (len : ∀ vs H Q E, sp vs H Q E → vs.length = ps.length)
    (walk : ∀ (cdv : Value) (A : Around) (outer : List Env) (s : Shared) (H : Hp) (vs : List V) (Q : VK) (E : XK), (A.deeper (envOfC qual (defScope st) s.heap.objs.size f cdv)).guards = some [] → Room k (A.deeper (envOfC qual (defScope st) s.heap.objs.size f cdv)) → sp vs H Q E →
      ∃ t, PSs (cxOf CX0 P w K mg base N qual (defScope st) f cdv A outer s H E).nox (defBody st) t ∧ t { nx := fun _ H' => Q .non H', rt := Q } (start N vs) H) : GOk P w K mg base (k + 1) f fd ps sp := by
  obtain ⟨oc, od, kV, doc, pm, an, cdv, ct, osl, rfl, lk, code⟩ := F.ex
  refine ⟨len, fun A outer s H args us vs Q E guards room e0 binds vals hsp => ?_⟩
  have keep : ∀ b o, base.get? b = some o → s.heap.get? b = some o := fun b o e => (e0.bs b o e).1
  have inK : K.In s.heap := e0.mod.kin.keeps keep
  have nolim : s.heap.NoLimit := e0.mod.nolimit.keeps keep
  refine codeAny_call_function room.depth (inK _ _ lk) rfl S.co S.gen rfl (PySem.W.codeRec_of inK code) (binds _ _ _ _ ?_)
  refine wpAny_newFunctionEnv_cells S.kind (fun y hy => ?_) fun env henv s1 inc => ?_
  · rcases S.par y.1 (List.of_mem_zip (a := y.1) (b := y.2) hy).1 with z | z
    · exact .inl z
    · exact .inr ⟨z, PySem.W.cellsFrom_some _ _ _ (.inl z)⟩
  subst henv
  refine ⟨nolim.keeps inc.toInCall.keep, codeAny_func ?_⟩
  obtain ⟨t, ht, hq⟩ := walk cdv A outer s H vs Q E guards (room.deeper _) hsp
  have I := inv_start (CX := CX0) (E := E) S room.hd e0 (len _ _ _ _ hsp) vals inc
  refine wpAny_mono (ht.nox.run [] s1 (start N vs) H _ I hq) (fun fl z hz => ?_) fun _ _ hz => hz
  cases fl with
  | ret u =>
    obtain ⟨v, σ', H', J, rv, qv⟩ := hz
    exact ⟨v, H', J.os, J.bare, J.base, J.hok, rv, qv⟩
  | next =>
    obtain ⟨σ', H', J, qv⟩ := hz
    exact ⟨.non, H', J.os, J.bare, J.base, J.hok, (show RelV V.non Value.none from rfl), qv⟩
  | brk =>
    obtain ⟨_, _, _, qv⟩ := hz
    exact qv.elim
  | cont =>
    obtain ⟨_, _, _, qv⟩ := hz
    exact qv.elim
/-! ### the law's own call -/
theorem law_G {P : Program} {w : World} {K : PySem.W.Frag} {mg mb : Str → Option Value} {k : Nat} {fa a : Addr} {fd : FuncData} {x : Str} {sp : Sp} {z : Shared} {vs : List Value} {ns : List Int}
    (inK : K.In z.heap) (names : z.heap.Ns mainGlobals mg) (bltn : z.heap.Ns builtinsNs mb) (boot : ∀ y : Str, y ≠ "__name__" → mb y = bootBuiltins y) (nolim : z.heap.NoLimit) (gens : z.gens = #[])
    (at_a : z.heap.get? a = some { cls := .type "list", data := .seq vs.toArray }) (itsI : IntsAre vs ns) (few : ns.length ≤ sizeLine) (room : Room k callerA)
    (F : ∀ base : Heap, K.In base → base.Ns mainGlobals mg → GOk P w K mg base k fa fd [x] sp) (binds : ∀ (s : Shared) (u : Value), BindsTo s fd ⟨[u], []⟩ [(x, u)])
    (say : ∀ H : Hp, SqL K H a (ns.map V.int) → sp [.ref a] H (fun v _ => v = .bl true) fun _ _ _ => False) :
    codeAny (model P w) callerA (.call (.ref fa) ⟨[.ref a], []⟩) (fun r s' => r = .ok (.ret (.bool true)) ∧ OldK z.heap s'.heap ∧ s'.os = z.os ∧ AllBare s'.gens) z := by
  have vals := vals_ints itsI
  have lens := itsI.length
  -- a start from any abstract heap that tracks the script at most
  have start : ∀ H : Hp, Only H → SqL K H a (ns.map V.int) → HOk P w H z.heap → (∀ b, H b ≠ none → b = a ∧ K.lookup b = none) →
      codeAny (model P w) callerA (.call (.ref fa) ⟨[.ref a], []⟩) (fun r s' => r = .ok (.ret (.bool true)) ∧ OldK z.heap s'.heap ∧ s'.os = z.os ∧ AllBare s'.gens) z := by
    intro H only sq hok alone
    have hid : ∀ {b : Addr} {o : Obj}, z.heap.get? b = some o → H b = none → (hidT z.heap H).get? b = some o := fun e n => hidT_get e n
    have nsHid : ∀ {b : Addr} {m : Str → Option Value}, z.heap.Ns b m → (hidT z.heap H).Ns b m := by
      rintro b m ⟨o, es, ep, e, d, rest⟩
      refine ⟨o, es, ep, hid e ?_, d, rest⟩
      refine Classical.byContradiction fun n => ?_
      obtain ⟨rfl, _⟩ := alone b n
      rw [at_a] at e
      cases e
      cases d
    have kHid : K.In (hidT z.heap H) := fun b o e => hid (inK b o e) (Classical.byContradiction fun n => by
      have := (alone b n).2
      rw [this] at e
      cases e)
    have md : Mod K mg (hidT z.heap H) := ⟨kHid, nsHid names, ⟨mb, nsHid bltn, boot⟩, by obtain ⟨mc, h1, h2⟩ := nolim; exact ⟨mc, nsHid h1, h2⟩⟩
    have env : Env0 P w K mg (hidT z.heap H) callerA [] z H := ⟨rfl, md, fun b o e => of_hidT e, Nat.le_of_eq (hidT_size _ _), trivial, fun b hb => absurd (show b ∈ ([] : List Addr) from hb) List.not_mem_nil, hok, .of_eq gens⟩
    refine codeAny_mono ((F _ kHid (nsHid names)).go callerA [] z H ⟨[.ref a], []⟩ [.ref a] [.ref a] _ _ rfl room env (binds z (.ref a)) (.cons rfl .nil) (say H sq)) fun r s' hr => ?_
    match r, hr with
    | .ok (.ret u), hr =>
      obtain ⟨v, H', os, bare, un, hok', rel, rfl⟩ := hr
      obtain rfl : u = Value.bool true := rel
      refine ⟨rfl, OldK.of_keep fun b o e => ?_, os, bare⟩
      cases hb : H b with
      | none => exact un.keep b o e hb (fun m => absurd (show b ∈ ([] : List Addr) from m) List.not_mem_nil) (by simp)
      | some ho =>
        rcases only b with n | ⟨ob, xs, n⟩
        · rw [hb] at n
          cases n
        · have l1 := (hok b _ n).1
          have l2 := (hok' b _ (un.frzs b ob _ n)).1
          rw [e] at l1
          cases l1
          exact l2
    | .ok .next, hr => exact False.elim hr
    | .ok .brk, hr => exact False.elim hr
    | .ok .cont, hr => exact False.elim hr
    | .error e, hr => exact False.elim hr
  cases look : K.lookup a with
  | some o =>
    have e := inK a o look
    rw [at_a] at e
    cases e
    refine start (fun _ => none) (fun _ => .inl rfl) (.inr ⟨_, vs.toArray, _, look, rfl, rfl, rfl, ?_, by simpa using vals⟩) (fun b u q => by cases q) fun b q => absurd rfl q
    rw [List.size_toArray, lens]
    exact few
  | none =>
    refine start (fun b => if b = a then some (.frz { cls := .type "list", data := .seq vs.toArray } (.lst (ns.map V.int))) else none) (fun b => ?_) (.inl (.inr ⟨_, if_pos rfl⟩)) (fun b u q => ?_) fun b q => ?_
    · by_cases e : b = a
      · exact .inr ⟨_, _, if_pos e⟩
      · exact .inl (if_neg e)
    · by_cases e : b = a
      · subst e
        have q' := (if_pos rfl).symm.trans q
        cases q'
        exact ⟨at_a, by rw [List.length_map]; exact few, vs, _, vals, at_a⟩
      · have q' := (if_neg e).symm.trans q
        cases q'
    · by_cases e : b = a
      · exact ⟨e, by rw [e]; exact look⟩
      · exact absurd (if_neg e) q
/-- the end, for a law that shows its data -/
theorem walk_G {l : PySem.W.OpenLaw} {n k : Nat} {q : Program} {loose : List Str} {XP : (Str → Option Value) → Heap → Prop} {YP : World → Heap → Prop} {d : DefRec} {K : Params → PySem.W.Frag} {sp : PySem.W.Frag → Sp} {x : Str}
    (hn : l.most = some n) (hn2 : n ≤ sizeLine) (hdf : d.params.defaults = []) (room : Room k callerA) (hY : ∀ (w : World) (h : Heap), YP w h → (K w.params).In h)
    (F : ∀ (w : World) (mg : Str → Option Value) (fa : Addr) (h : Heap), (K w.params).In h → h.Ns mainGlobals mg → mg d.name = some (.ref fa) →
      ∃ fd : FuncData, (∀ (s : Shared) (u : Value), BindsTo s fd ⟨[u], []⟩ [(x, u)]) ∧ ∀ base : Heap, (K w.params).In base → base.Ns mainGlobals mg → GOk l.prog w (K w.params) mg base k fa fd [x] (sp (K w.params)))
    (say : ∀ (K : PySem.W.Frag) (H : Hp) (a : Addr) (ns : List Int), ns.length ≤ n → SqL K H a (ns.map V.int) → sp K [.ref a] H (fun v _ => v = .bl true) fun _ _ _ => False) :
    PySem.W.WalkO q loose XP YP l.row.toRowW d [] (fun f vs => PySem.call f vs) := by
  refine Att.attach_call hn hdf fun w _ z mg mb fa o pm cd doc a vs ns G Y _ _ _ hmg at_a itsI hlen gens => ?_
  obtain ⟨fd, hb, hF⟩ := F w mg fa _ (hY w _ Y) G.T.g hmg
  exact law_G (hY w _ Y) G.T.g G.T.b G.T.builtins G.T.nolimit gens at_a itsI (Nat.le_trans hlen hn2) room hF hb fun H hS => say _ H a ns hlen hS
end Ml

namespace Ml
open PySem PySem.Spec PyProof.Rows L2
/-! ### calls of defs that show something -/
theorem GOk.mono {P : Program} {w : World} {K : PySem.W.Frag} {mg : Str → Option Value} {base : Heap} {j k : Nat} {f : Addr} {fd : FuncData} {ps : List Str} {sp : Sp} (F : GOk P w K mg base j f fd ps sp) (h : j ≤ k) : GOk P w K mg base k f fd ps sp :=
  ⟨F.len, fun A outer s H args us vs Q E hg hr => F.go A outer s H args us vs Q E hg (hr.mono h)⟩
theorem run_G {X : Cx} {k : Nat} {f : Addr} {fd : FuncData} {ps : List Str} {ds : List Value} {dvs : List V} {sp : Sp} {E : XK} {pins : List (Addr × Obj)} {σ : L2.St} {H : Hp} {s : Shared} {Q : VK} {us : List Value} {vs : List V} (F : GOk X.prog X.w X.K X.mg X.base k f fd ps sp) (hg : X.A.guards = some []) (hr : Room k X.A) (hb : Binds X.K fd ps ds) (hd : Vals dvs ds) (hx : Passes CX0 X E)
    (I : Inv X pins σ H s) (r : Vals vs us) (h : sp (vs ++ dvs) H Q E) : wpAny (model X.prog X.w) X.A (call (.ref f) us) (EP X pins σ Q) X.xe s := by
  have r2 : Vals (vs ++ dvs) (us ++ ds) := r.append hd
  have hl : (us ++ ds).length = ps.length := by rw [← r2.length]; exact F.len _ _ _ _ h
  refine wpAny_call (codeAny_mono (F.go X.A X.stack s H ⟨us, []⟩ (us ++ ds) (vs ++ dvs) Q E hg hr I.env0 (hb s us I.kIn hl) r2 h) fun r s' hq => ?_)
  cases r with
  | error e => exact hx pins σ H s e s' I hq
  | ok fl =>
    cases fl with
    | ret u => exact I.after hq
    | next => exact False.elim hq
    | brk => exact False.elim hq
    | cont => exact False.elim hq
theorem pe_callG {X : Cx} {k : Nat} {f : Addr} {fd : FuncData} {ps : List Str} {ds : List Value} {dvs : List V} {sp : Sp} {E : XK} {x : Str} {p pos : Pos} {e : Expr} {es : List Expr} {t : TA} (F : GOk X.prog X.w X.K X.mg X.base k f fd ps sp) (hgu : X.A.guards = some []) (hr : Room k X.A) (hg : Gl X x) (hm : X.mg x = some (.ref f)) (hk : PySem.W.keepIn X.K (.ref f) = true) (hb : Binds X.K fd ps ds) (hd : Vals dvs ds) (hx : Passes CX0 X E)
    (ha : PA X (e :: es) t) (hdb : (x == ("__debug__" : Str)) = false := by decide) (he : starEach (e :: es) X.env = (false, eval e X.env) :: starEach es X.env := by rfl) (hpl : (backTo pos (starEach es X.env)).any (·.1) = false := by rfl) :
    PE X (.Call (.Name x p) (e :: es) [] pos) (tCall sp dvs E t) := by
  refine ⟨fun pins s σ H Q I h => ?_⟩
  refine wpAny_Call_Name_kw (ld_glob I hg hm ?_ hdb)
  refine PySem.W.callWith_K (h₀ := X.base) I.ok.mod.kin hk (thn (ha.run pos pins s σ H _ I h) fun us s1 ⟨vs, H1, I1, r, q⟩ => ⟨I1.kIn, ?_⟩) he hpl
  exact run_G F hgu hr hb hd hx I1 r q
end Ml

namespace Ml
open PySem PySem.Spec PyProof.Rows L2
def topS (i : Nat) : Stmt := PySem.Challenge.pw_mergelevels_k15_errors_of_paths.main.body.getD i (.Pass ⟨0, 0, 0, 0⟩)
abbrev s_is_whole : Stmt := topS 11
abbrev N_is_whole : List Str := ["value"]
theorem sc_is_whole : FnScope N_is_whole ["value"] (defScope s_is_whole) := ⟨rfl, rfl, rfl, by decide +kernel, rfl, by decide +kernel, by decide +kernel⟩
abbrev s_is_item : Stmt := topS 12
abbrev N_is_item : List Str := ["table", "value"]
theorem sc_is_item : FnScope N_is_item ["table", "value"] (defScope s_is_item) := ⟨rfl, rfl, rfl, by decide +kernel, rfl, by decide +kernel, by decide +kernel⟩
abbrev s_check_items : Stmt := topS 13
abbrev N_check_items : List Str := ["table", "one", "other"]
theorem sc_check_items : FnScope N_check_items ["table", "one", "other"] (defScope s_check_items) := ⟨rfl, rfl, rfl, by decide +kernel, rfl, by decide +kernel, by decide +kernel⟩
abbrev s_check_ends : Stmt := topS 14
abbrev N_check_ends : List Str := ["table", "one", "other"]
theorem sc_check_ends : FnScope N_check_ends ["table", "one", "other"] (defScope s_check_ends) := ⟨rfl, rfl, rfl, by decide +kernel, rfl, by decide +kernel, by decide +kernel⟩
abbrev s_level_between : Stmt := topS 15
abbrev N_level_between : List Str := ["table", "one", "other"]
theorem sc_level_between : FnScope N_level_between ["table", "one", "other"] (defScope s_level_between) := ⟨rfl, rfl, rfl, by decide +kernel, rfl, by decide +kernel, by decide +kernel⟩
abbrev s_pairs_of : Stmt := topS 16
abbrev N_pairs_of : List Str := ["table", "count", "one", "other"]
theorem sc_pairs_of : FnScope N_pairs_of ["table"] (defScope s_pairs_of) := ⟨rfl, rfl, rfl, by decide +kernel, rfl, by decide +kernel, by decide +kernel⟩
abbrev s_level_grid : Stmt := topS 19
abbrev N_level_grid : List Str := ["table", "count", "one", "other"]
theorem sc_level_grid : FnScope N_level_grid ["table"] (defScope s_level_grid) := ⟨rfl, rfl, rfl, by decide +kernel, rfl, by decide +kernel, by decide +kernel⟩
abbrev s_lowest_grid : Stmt := topS 20
abbrev N_lowest_grid : List Str := ["grid", "lowest", "middle", "onward", "row", "direct", "step"]
theorem sc_lowest_grid : FnScope N_lowest_grid ["grid"] (defScope s_lowest_grid) := ⟨rfl, rfl, rfl, by decide +kernel, rfl, by decide +kernel, by decide +kernel⟩
abbrev s_join_grid : Stmt := topS 21
abbrev N_join_grid : List Str := ["table"]
theorem sc_join_grid : FnScope N_join_grid ["table"] (defScope s_join_grid) := ⟨rfl, rfl, rfl, by decide +kernel, rfl, by decide +kernel, by decide +kernel⟩
abbrev s_join_level : Stmt := topS 22
abbrev N_join_level : List Str := ["table", "one", "other"]
theorem sc_join_level : FnScope N_join_level ["table", "one", "other"] (defScope s_join_level) := ⟨rfl, rfl, rfl, by decide +kernel, rfl, by decide +kernel, by decide +kernel⟩
abbrev s_longer_paths : Stmt := topS 23
abbrev N_longer_paths : List Str := ["table", "paths", "height", "item", "found", "path"]
theorem sc_longer_paths : FnScope N_longer_paths ["table", "paths", "height"] (defScope s_longer_paths) := ⟨rfl, rfl, rfl, by decide +kernel, rfl, by decide +kernel, by decide +kernel⟩
abbrev s_best_path : Stmt := topS 24
abbrev N_best_path : List Str := ["table", "one", "other", "height", "paths"]
theorem sc_best_path : FnScope N_best_path ["table", "one", "other"] (defScope s_best_path) := ⟨rfl, rfl, rfl, by decide +kernel, rfl, by decide +kernel, by decide +kernel⟩
abbrev s_best_division : Stmt := topS 25
abbrev N_best_division : List Str := ["table", "one", "other", "joins", "item", "level"]
theorem sc_best_division : FnScope N_best_division ["table", "one", "other"] (defScope s_best_division) := ⟨rfl, rfl, rfl, by decide +kernel, rfl, by decide +kernel, by decide +kernel⟩
abbrev s_is_path : Stmt := topS 26
abbrev N_is_path : List Str := ["table", "value", "item"]
theorem sc_is_path : FnScope N_is_path ["table", "value"] (defScope s_is_path) := ⟨rfl, rfl, rfl, by decide +kernel, rfl, by decide +kernel, by decide +kernel⟩
abbrev s_is_division : Stmt := topS 27
abbrev N_is_division : List Str := ["table", "value", "item"]
theorem sc_is_division : FnScope N_is_division ["table", "value"] (defScope s_is_division) := ⟨rfl, rfl, rfl, by decide +kernel, rfl, by decide +kernel, by decide +kernel⟩
abbrev s_height_of : Stmt := topS 28
abbrev N_height_of : List Str := ["table", "path", "one", "other"]
theorem sc_height_of : FnScope N_height_of ["table", "path"] (defScope s_height_of) := ⟨rfl, rfl, rfl, by decide +kernel, rfl, by decide +kernel, by decide +kernel⟩
abbrev s_width_of : Stmt := topS 29
abbrev N_width_of : List Str := ["table", "division", "outside", "item", "one", "other"]
theorem sc_width_of : FnScope N_width_of ["table", "division"] (defScope s_width_of) := ⟨rfl, rfl, rfl, by decide +kernel, rfl, by decide +kernel, by decide +kernel⟩
abbrev s_check_join : Stmt := topS 30
abbrev N_check_join : List Str := ["table", "one", "other", "value", "path", "division"]
theorem sc_check_join : FnScope N_check_join ["table", "one", "other", "value"] (defScope s_check_join) := ⟨rfl, rfl, rfl, by decide +kernel, rfl, by decide +kernel, by decide +kernel⟩
abbrev s_detour_level : Stmt := topS 31
abbrev N_detour_level : List Str := ["table", "one", "other", "grid"]
theorem sc_detour_level : FnScope N_detour_level ["table", "one", "other"] (defScope s_detour_level) := ⟨rfl, rfl, rfl, by decide +kernel, rfl, by decide +kernel, by decide +kernel⟩
abbrev s_is_within : Stmt := topS 32
abbrev N_is_within : List Str := ["level", "join", "limits", "numbers", "name"]
theorem sc_is_within : FnScope N_is_within ["level", "join", "limits"] (defScope s_is_within) := ⟨rfl, rfl, rfl, by decide +kernel, rfl, by decide +kernel, by decide +kernel⟩
abbrev s_select_pairs : Stmt := topS 33
abbrev N_select_pairs : List Str := ["table", "limits", "unknown", "joins", "name", "one", "other"]
theorem sc_select_pairs : FnScope N_select_pairs ["table", "limits"] (defScope s_select_pairs) := ⟨rfl, rfl, rfl, by decide +kernel, rfl, by decide +kernel, by decide +kernel⟩
abbrev s_L_draws : Stmt := topS 35
abbrev N_L_draws : List Str := ["_law_script", "_law_cells", "_law_cell"]
theorem sc_L_draws : FnScope N_L_draws ["_law_script"] (defScope s_L_draws) := ⟨rfl, rfl, rfl, by decide +kernel, rfl, by decide +kernel, by decide +kernel⟩
abbrev s_L_next : Stmt := topS 36
abbrev N_L_next : List Str := ["_law_drawn", "_law_many", "_law_cells", "_law_turn", "_law_rests", "_law_spot", "_law_digit", "_law_mixed", "_law_again"]
theorem sc_L_next : FnScope N_L_next ["_law_drawn", "_law_many"] (defScope s_L_next) := ⟨rfl, rfl, rfl, by decide +kernel, rfl, by decide +kernel, by decide +kernel⟩
abbrev s_L_one : Stmt := topS 37
abbrev N_L_one : List Str := ["_law_drawn", "_law_items"]
theorem sc_L_one : FnScope N_L_one ["_law_drawn", "_law_items"] (defScope s_L_one) := ⟨rfl, rfl, rfl, by decide +kernel, rfl, by decide +kernel, by decide +kernel⟩
abbrev s_L_odd : Stmt := topS 38
abbrev N_L_odd : List Str := ["_law_drawn", "_law_some"]
theorem sc_L_odd : FnScope N_L_odd ["_law_drawn"] (defScope s_L_odd) := ⟨rfl, rfl, rfl, by decide +kernel, rfl, by decide +kernel, by decide +kernel⟩
abbrev s_L_count : Stmt := topS 39
abbrev N_L_count : List Str := ["_law_drawn", "_law_most"]
theorem sc_L_count : FnScope N_L_count ["_law_drawn", "_law_most"] (defScope s_L_count) := ⟨rfl, rfl, rfl, by decide +kernel, rfl, by decide +kernel, by decide +kernel⟩
abbrev s_L_grades : Stmt := topS 40
abbrev N_L_grades : List Str := ["_law_drawn", "_law_way", "_law_many", "_law_wide", "_law_found", "_law_k"]
theorem sc_L_grades : FnScope N_L_grades ["_law_drawn"] (defScope s_L_grades) := ⟨rfl, rfl, rfl, by decide +kernel, rfl, by decide +kernel, by decide +kernel⟩
abbrev s_L_level : Stmt := topS 41
abbrev N_L_level : List Str := ["_law_table_here", "_law_one_here", "_law_other", "_law_low", "_law_high"]
theorem sc_L_level : FnScope N_L_level ["_law_table_here", "_law_one_here", "_law_other"] (defScope s_L_level) := ⟨rfl, rfl, rfl, by decide +kernel, rfl, by decide +kernel, by decide +kernel⟩
abbrev s_L_nested : Stmt := topS 42
abbrev N_L_nested : List Str := ["_law_drawn", "_law_count_here", "_law_grades_here", "_law_rows", "_law_near", "_law_grade", "_law_k"]
theorem sc_L_nested : FnScope N_L_nested ["_law_drawn", "_law_count_here", "_law_grades_here"] (defScope s_L_nested) := ⟨rfl, rfl, rfl, by decide +kernel, rfl, by decide +kernel, by decide +kernel⟩
abbrev s_L_raised : Stmt := topS 43
abbrev N_L_raised : List Str := ["_law_drawn", "_law_table_here", "_law_grades_here", "_law_found", "_law_row", "_law_grade"]
theorem sc_L_raised : FnScope N_L_raised ["_law_drawn", "_law_table_here", "_law_grades_here"] (defScope s_L_raised) := ⟨rfl, rfl, rfl, by decide +kernel, rfl, by decide +kernel, by decide +kernel⟩
abbrev s_L_levels : Stmt := topS 44
abbrev N_L_levels : List Str := ["_law_drawn", "_law_many", "_law_grades_here", "_law_k"]
theorem sc_L_levels : FnScope N_L_levels ["_law_drawn", "_law_many", "_law_grades_here"] (defScope s_L_levels) := ⟨rfl, rfl, rfl, by decide +kernel, rfl, by decide +kernel, by decide +kernel⟩
abbrev s_L_any : Stmt := topS 45
abbrev N_L_any : List Str := ["_law_drawn", "_law_many", "_law_wide", "_law_k"]
theorem sc_L_any : FnScope N_L_any ["_law_drawn", "_law_many", "_law_wide"] (defScope s_L_any) := ⟨rfl, rfl, rfl, by decide +kernel, rfl, by decide +kernel, by decide +kernel⟩
abbrev s_L_table : Stmt := topS 46
abbrev N_L_table : List Str := ["_law_drawn", "_law_count_here", "_law_grades_here", "_law_way", "_law_one_here", "_law_wide", "_law_table_here", "_law_other", "_law_grade", "_law_row"]
theorem sc_L_table : FnScope N_L_table ["_law_drawn", "_law_count_here"] (defScope s_L_table) := ⟨rfl, rfl, rfl, by decide +kernel, rfl, by decide +kernel, by decide +kernel⟩
abbrev s_L_asked : Stmt := topS 47
abbrev N_L_asked : List Str := ["_law_table_here", "_law_door", "_law_one_here", "_law_other", "_law_value"]
theorem sc_L_asked : FnScope N_L_asked ["_law_table_here", "_law_door", "_law_one_here", "_law_other", "_law_value"] (defScope s_L_asked) := ⟨rfl, rfl, rfl, by decide +kernel, rfl, by decide +kernel, by decide +kernel⟩
abbrev s_L_told : Stmt := topS 48
abbrev N_L_told : List Str := ["_law_table_here", "_law_door", "_law_one_here", "_law_other", "_law_value", "error", "_law_alone", "_law_others"]
theorem sc_L_told : FnScope N_L_told ["_law_table_here", "_law_door", "_law_one_here", "_law_other", "_law_value"] (defScope s_L_told) := ⟨rfl, rfl, rfl, by decide +kernel, rfl, by decide +kernel, by decide +kernel⟩
abbrev s_L_due : Stmt := topS 49
abbrev N_L_due : List Str := ["_law_table_here", "_law_door", "_law_one_here", "_law_other", "_law_value"]
theorem sc_L_due : FnScope N_L_due ["_law_table_here", "_law_door", "_law_one_here", "_law_other"] (defScope s_L_due) := ⟨rfl, rfl, rfl, by decide +kernel, rfl, by decide +kernel, by decide +kernel⟩
abbrev s_L_named : Stmt := topS 50
abbrev N_L_named : List Str := ["_law_table_here", "_law_way"]
theorem sc_L_named : FnScope N_L_named ["_law_table_here", "_law_way"] (defScope s_L_named) := ⟨rfl, rfl, rfl, by decide +kernel, rfl, by decide +kernel, by decide +kernel⟩
abbrev s_L_name : Stmt := topS 51
abbrev N_L_name : List Str := ["_law_table_here", "_law_way", "_law_name_here", "error", "_law_others"]
theorem sc_L_name : FnScope N_L_name ["_law_table_here", "_law_way"] (defScope s_L_name) := ⟨rfl, rfl, rfl, by decide +kernel, rfl, by decide +kernel, by decide +kernel⟩
abbrev s_law : Stmt := topS 52
abbrev N_law : List Str := ["_law_script", "_law_drawn", "_law_turn", "_law_table_here", "_law_count_here", "_law_shown", "_law_some", "_law_again", "_law_one_here", "_law_other", "_law_value", "_law_door", "_law_found", "_law_way"]
theorem sc_law : FnScope N_law ["_law_script"] (defScope s_law) := ⟨rfl, rfl, rfl, by decide +kernel, rfl, by decide +kernel, by decide +kernel⟩
/-! ### the name of a limit that nobody knows -/
def nm15 : Nat → Str
  | 0 => "width"
  | 1 => "joins"
  | 2 => "Level"
  | 3 => "peak"
  | 4 => "levels"
  | _ => "a"
theorem U0 : Unk ["width"] "width" := unk_of ["width"] (by decide +kernel) (by decide +kernel) (by decide) (by decide +kernel)
theorem U1 : Unk ["level", "joins", "gap"] "joins" := unk_of ["joins"] (by decide +kernel) (by decide +kernel) (by decide) (by decide +kernel)
theorem U2 : Unk ["height", "Level", "gaps", "join"] "Level" := unk_of ["height", "Level", "gaps"] (by decide +kernel) (by decide +kernel) (by decide) (by decide +kernel)
theorem U3 : Unk ["step", "peak"] "peak" := unk_of ["step", "peak"] (by decide +kernel) (by decide +kernel) (by decide) (by decide +kernel)
theorem U4 : Unk ["levels"] "levels" := unk_of ["levels"] (by decide +kernel) (by decide +kernel) (by decide) (by decide +kernel)
theorem U5 : Unk ["b", "a", "level"] "a" := unk_of ["b", "a"] (by decide +kernel) (by decide +kernel) (by decide) (by decide +kernel)
structure NameDefs (K : PySem.W.Frag) (mg : Str → Option Value) (CU fU CM CS CQ CT : Addr) : Prop where
  D : UnkDefs K mg CU fU
  xU : ExcC K CU
  sel : ∃ f, KwDf K mg "select_pairs" s_select_pairs f
  gM : mg "MergeError" = some (.ref CM)
  gS : mg "SameItem" = some (.ref CS)
  gQ : mg "UnequalSizes" = some (.ref CQ)
  gT : mg "InvalidTable" = some (.ref CT)
  gV : mg "ValueError" = none
  gLk : mg "LookupError" = none
  iUM : PySem.W.kitOne K (.ref CU) (.ref CM) = some true
  iUV : PySem.W.kitOne K (.ref CU) (.type "ValueError") = some true
  iUA : PySem.W.kitAny K (.ref CU) [.ref CS, .ref CQ, .ref CT, .type "LookupError"] = some false
section
variable {P : Program} {w : World} {K : PySem.W.Frag} {mg : Str → Option Value} {base : Heap}
def sp_named (CU : Addr) : Sp := fun vs H _ E => ∃ (tv : V) (way : Nat), vs = [tv, .int (way : Int)] ∧ ∀ (H' : Hp) (d' : Addr), Sm H H' → H' d' = none → E (.ref CU) (some d') (upd H' d' (.xd [(("name" : Str), .str (nm15 way))]))
theorem ok_named {f CU fU CM CS CQ CT : Addr} {fd : FuncData} (F : Fun K "_law_named" "_law_named" s_L_named f fd) (T : NameDefs K mg CU fU CM CS CQ CT) : FnOk P w K mg base (L2.CX P w) 6 f fd ["_law_table_here", "_law_way"] (sp_named CU) := by
  obtain ⟨fS, DS⟩ := T.sel
  have B := T.D.B
  have G0 : KwOk P w K mg base (L2.CX P w) 5 fS ["width"] (sp_unk CU ["width"] "width") := unk_kw DS T.D _ _ (by decide +kernel) (by decide) (fun an kV dc pm cd ct u ws hl => match ws, hl with | [_], _ => rfl)
  have G1 : KwOk P w K mg base (L2.CX P w) 5 fS ["level", "joins", "gap"] (sp_unk CU ["level", "joins", "gap"] "joins") := unk_kw DS T.D _ _ (by decide +kernel) (by decide) (fun an kV dc pm cd ct u ws hl => match ws, hl with | [_, _, _], _ => rfl)
  have G2 : KwOk P w K mg base (L2.CX P w) 5 fS ["height", "Level", "gaps", "join"] (sp_unk CU ["height", "Level", "gaps", "join"] "Level") := unk_kw DS T.D _ _ (by decide +kernel) (by decide) (fun an kV dc pm cd ct u ws hl => match ws, hl with | [_, _, _, _], _ => rfl)
  have G3 : KwOk P w K mg base (L2.CX P w) 5 fS ["step", "peak"] (sp_unk CU ["step", "peak"] "peak") := unk_kw DS T.D _ _ (by decide +kernel) (by decide) (fun an kV dc pm cd ct u ws hl => match ws, hl with | [_, _], _ => rfl)
  have G4 : KwOk P w K mg base (L2.CX P w) 5 fS ["levels"] (sp_unk CU ["levels"] "levels") := unk_kw DS T.D _ _ (by decide +kernel) (by decide) (fun an kV dc pm cd ct u ws hl => match ws, hl with | [_], _ => rfl)
  have G5 : KwOk P w K mg base (L2.CX P w) 5 fS ["b", "a", "level"] (sp_unk CU ["b", "a", "level"] "a") := unk_kw DS T.D _ _ (by decide +kernel) (by decide) (fun an kV dc pm cd ct u ws hl => match ws, hl with | [_, _, _], _ => rfl)
  refine F.okX sc_L_named (fun vs H Q E h => ?_) (fun cdv A outer s H vs Q E hr h => ?_)
  · obtain ⟨tv, way, rfl, _⟩ := h
    rfl
  · obtain ⟨tv, way, rfl, q⟩ := h
    refine ⟨_, (pss_cons (ps_if (pt_cmpR op_eq (pv 1) pe_int (nomark _))
      (pss_one (ps_ret (by exact (pe_callKwS G0 hr (by rfl) DS.g DS.kp (fun σ => passAt (takes_of rfl rfl rfl rfl) σ) (pa_cons (pv 0) pa_nil) (pk_cons pe_int pk_nil)))))
      pss_nil)
      (pss_cons (ps_if (pt_cmpR op_eq (pv 1) pe_int (nomark _))
      (pss_one (ps_ret (by exact (pe_callKwS G1 hr (by rfl) DS.g DS.kp (fun σ => passAt (takes_of rfl rfl rfl rfl) σ) (pa_cons (pv 0) pa_nil) (pk_cons pe_int (pk_cons pe_int (pk_cons pe_int pk_nil)))))))
      pss_nil)
      (pss_cons (ps_if (pt_cmpR op_eq (pv 1) pe_int (nomark _))
      (pss_one (ps_ret (by exact (pe_callKwS G2 hr (by rfl) DS.g DS.kp (fun σ => passAt (takes_of rfl rfl rfl rfl) σ) (pa_cons (pv 0) pa_nil) (pk_cons pe_int (pk_cons pe_int (pk_cons pe_int (pk_cons pe_int pk_nil))))))))
      pss_nil)
      (pss_cons (ps_if (pt_cmpR op_eq (pv 1) pe_int (nomark _))
      (pss_one (ps_ret (by exact (pe_callKwS G3 hr (by rfl) DS.g DS.kp (fun σ => passAt (takes_of rfl rfl rfl rfl) σ) (pa_cons (pv 0) pa_nil) (pk_cons (pe_op op_pow pe_int pe_int) (pk_cons pe_int pk_nil))))))
      pss_nil)
      (pss_one (ps_ret (pe_ifExp (pt_cmpR op_eq (pv 1) pe_int (nomark _)) (by exact (pe_callKwS G4 hr (by rfl) DS.g DS.kp (fun σ => passAt (takes_of rfl rfl rfl rfl) σ) (pa_cons (pv 0) pa_nil) (pk_cons pe_int pk_nil))) (by exact (pe_callKwS G5 hr (by rfl) DS.g DS.kp (fun σ => passAt (takes_of rfl rfl rfl rfl) σ) (pa_cons (pv 0) pa_nil) (pk_cons pe_int (pk_cons pe_int (pk_cons pe_int pk_nil)))))))))))), ?_⟩
    have no : ∀ k : Int, (way : Int) ≠ k → decide (V.int (way : Int) = V.int k) = false := fun k h => decide_eq_false fun z => h (V.int.inj z)
    refine ⟨.int (way : Int), rfl, rfl, _, rfl, ?_⟩
    by_cases e0 : way = 0
    · subst e0
      exact ⟨tv, rfl, rfl, rfl, fun d hd => ⟨tv, d, _, rfl, rfl, upd_same, U0, fun H' d' s h => q H' d' ((Sm.new hd).trans s) h⟩⟩
    rw [no 0 (by omega)]
    refine ⟨.int (way : Int), rfl, rfl, _, rfl, ?_⟩
    by_cases e1 : way = 1
    · subst e1
      exact ⟨tv, rfl, rfl, rfl, fun d hd => ⟨tv, d, _, rfl, rfl, upd_same, U1, fun H' d' s h => q H' d' ((Sm.new hd).trans s) h⟩⟩
    rw [no 1 (by omega)]
    refine ⟨.int (way : Int), rfl, rfl, _, rfl, ?_⟩
    by_cases e2 : way = 2
    · subst e2
      exact ⟨tv, rfl, rfl, rfl, fun d hd => ⟨tv, d, _, rfl, rfl, upd_same, U2, fun H' d' s h => q H' d' ((Sm.new hd).trans s) h⟩⟩
    rw [no 2 (by omega)]
    refine ⟨.int (way : Int), rfl, rfl, _, rfl, ?_⟩
    by_cases e3 : way = 3
    · subst e3
      exact ⟨tv, rfl, _, _, rfl, rfl, ⟨by decide, by decide, by decide⟩, rfl, rfl, fun d hd => ⟨tv, d, _, rfl, rfl, upd_same, U3, fun H' d' s h => q H' d' ((Sm.new hd).trans s) h⟩⟩
    rw [no 3 (by omega)]
    refine ⟨.int (way : Int), rfl, rfl, _, rfl, ?_⟩
    by_cases e4 : way = 4
    · subst e4
      exact ⟨tv, rfl, rfl, rfl, fun d hd => ⟨tv, d, _, rfl, rfl, upd_same, U4, fun H' d' s h => q H' d' ((Sm.new hd).trans s) h⟩⟩
    rw [no 4 (by omega)]
    have e5 : nm15 way = "a" := by
      match way, e0, e1, e2, e3, e4 with
      | 0, h, _, _, _, _ => exact absurd rfl h
      | 1, _, h, _, _, _ => exact absurd rfl h
      | 2, _, _, h, _, _ => exact absurd rfl h
      | 3, _, _, _, h, _ => exact absurd rfl h
      | 4, _, _, _, _, h => exact absurd rfl h
      | n + 5, _, _, _, _, _ => rfl
    rw [e5] at q
    exact ⟨tv, rfl, rfl, rfl, fun d hd => ⟨tv, d, _, rfl, rfl, upd_same, U5, fun H' d' s h => q H' d' ((Sm.new hd).trans s) h⟩⟩
def ts15c (K : PySem.W.Frag) (CU CM CS CQ CT a : Addr) (cls : Value) (d : Option Addr) : TS :=
  tSeq (tAsg (tCB (rIsDT K CU a cls d) (tCons (tVar 3) (tCons (tTup (tCons (tC (.ref CS)) (tCons (tC (.ref CQ)) (tCons (tC (.ref CT)) (tCons (tC (.ty "LookupError")) tNil))))) tNil))) (gName 4))
  (tAsg (tIf (tAnd (tB (tCB (rIsD K CU a cls d) (tCons (tVar 3) (tCons (tC (.ref CM)) tNil)))) (tAnd (tB (tCB (rIsD K CU a cls d) (tCons (tVar 3) (tCons (tC (.ty "ValueError")) tNil)))) (tNot (tB (tVar 4))))) (tGetUnknownLimit CU a cls d (tVar 3)) (tC (.str ""))) (gName 2))
def sp_name (K : PySem.W.Frag) : Sp := fun vs H Q _ => ∃ (tv : V) (way : Nat), vs = [tv, .int (way : Int)] ∧ ∀ (H' : Hp), Sm H H' → Q (.str (nm15 way)) H'
theorem ok_name {f fS CU fU CM CS CQ CT : Addr} {fd fdS : FuncData} (F : Fun K "_law_name" "_law_name" s_L_name f fd) (DS : Df K mg "_law_named" s_L_named fS fdS ["_law_table_here", "_law_way"]) (T : NameDefs K mg CU fU CM CS CQ CT) : FnOk P w K mg base CX0 7 f fd ["_law_table_here", "_law_way"] (sp_name K) := by
  have B := T.D.B
  have GS : FnOk P w K mg base (L2.CX P w) 6 fS fdS ["_law_table_here", "_law_way"] (sp_named CU) := ok_named DS.F T
  refine F.ok sc_L_name (fun vs H Q E h => ?_) (fun cdv A outer s H vs Q E hr h => ?_)
  · obtain ⟨tv, way, rfl, _⟩ := h
    rfl
  · obtain ⟨tv, way, rfl, q⟩ := h
    have nd := sc_L_name.nd
    refine ⟨_, pss_cons (ps_set (i := 2) nd rfl (.inl rfl) pe_str) (pss_cons (ps_try_ases (tb := fun W => tDrop (tCallS (sp_named CU) (WE W) (tCons (tVar 0) (tCons (tVar 1) tNil)))) (Wout := fun _ _ _ _ => False)
      (l := [⟨.ref CU, 3, fun a cls d => ts15c K CU CM CS CQ CT a cls d⟩]) rfl rfl takes0
      (fun W pn xe tk _ => pss_one (ps_expr (by exact (pe_clX DS GS hr tk (by exact (pa_cons (pv 0) (pa_cons (pv 1) pa_nil)))))))
      (.cons nd rfl rfl ⟨rfl, by decide, .inl T.D.eU.gC⟩
        (fun a oe cls d pn hz hf => pss_cons (ps_set (i := 4) nd rfl (.inl rfl) (by exact (pe_callB (call_isDT T.xU hz hf) (by rfl) B.isinstance (by decide +kernel) (pa_cons (pv 3) (pa_cons (pe_tup (pa_cons (pe_glob (v := .ref CS) (by rfl) T.gS rfl) (pa_cons (pe_glob (v := .ref CQ) (by rfl) T.gQ rfl) (pa_cons (pe_glob (v := .ref CT) (by rfl) T.gT rfl) (pa_cons (pe_bltn (by rfl) T.gLk (by decide +kernel) (v := .ty "LookupError") rfl) pa_nil))))) pa_nil)))))
          (pss_one (ps_set (i := 2) nd rfl (.inl rfl) (by exact (pe_ifExp (PW.pt (pw_and (pt_val (pe_callB (call_isD T.xU hz hf) (by rfl) B.isinstance (by decide +kernel) (pa_cons (pv 3) (pa_cons (pe_glob (v := .ref CM) (by rfl) T.gM rfl) pa_nil)))) (pw_and (pt_val (pe_callB (call_isD T.xU hz hf) (by rfl) B.isinstance (by decide +kernel) (pa_cons (pv 3) (pa_cons (pe_bltn (by rfl) T.gV (by decide +kernel) (v := .ty "ValueError") rfl) pa_nil)))) (pw_and1 (pt_not (pt_val (pv 4))))))) (pe_getUnknownLimit T.D.eU hz hf (pv 3)) pe_str)))))
      .nil)) (pss_one (ps_ret (pv 2)))), ?_⟩
    refine ⟨tv, rfl, .int (way : Int), rfl, tv, way, rfl, fun H1 d s1 hd1 => ?_⟩
    refine ⟨true, T.D.eU.te, fun _ a0 ha0 => ?_, fun q => Bool.noConfusion q⟩
    have hx : upd H1 d (.xd [(("name" : Str), .str (nm15 way))]) d = some (.xd [(("name" : Str), .str (nm15 way))]) := upd_same
    have sd : Sm H1 (upd H1 d (.xd [(("name" : Str), .str (nm15 way))])) := Sm.new hd1
    generalize upd H1 d (.xd [(("name" : Str), .str (nm15 way))]) = H2 at hx sd
    refine ⟨.ref a0, rfl, (by show 4 ≤ sizeLine; decide), fun tp htp => ?_⟩
    have s2 := Sm.new (o := .tup [.ref CS, .ref CQ, .ref CT, .ty "LookupError"]) htp
    refine ⟨tp, _, [.ref CS, .ref CQ, .ref CT, .type "LookupError"], false, d, _, rfl, rfl, rfl, s2 _ _ hx, upd_same, .cons (.own CS) (.cons (.own CQ) (.cons (.own CT) (.cons (.ty _) .nil))), T.iUA, ?_⟩
    refine nx_mk ?_
    refine ⟨.ref a0, rfl, .ref CM, .ref CM, true, d, _, rfl, rfl, rfl, s2 _ _ hx, .own CM, T.iUM, true, rfl, ?_⟩
    refine ⟨.ref a0, rfl, .ty "ValueError", .type "ValueError", true, d, _, rfl, rfl, rfl, s2 _ _ hx, .ty _, T.iUV, true, rfl, ?_⟩
    refine ⟨_, rfl, false, rfl, ?_⟩
    refine ⟨.ref a0, rfl, rfl, rfl, d, .str (nm15 way), rfl, s2 _ _ hx, ?_⟩
    exact ⟨_, rfl, q _ (s1.trans (sd.trans s2))⟩
end
section
variable {P : Program} {w : World} {K : PySem.W.Frag} {mg : Str → Option Value} {base : Heap}
/-! ### the beginning of a drawing -/
def sp_draws (K : PySem.W.Frag) : Sp := fun vs H Q _ => ∃ (a : Addr) (ns : List Int), vs = [.ref a] ∧ SqL K H a (ns.map V.int) ∧ ns.length ≤ 63 ∧ ∀ (H' : Hp) (d c r : Addr), Sm H H' → Dr H' d c r 0 → H d = none → H c = none → H r = none → Q (.ref d) H'
theorem ok_draws {f : Addr} {fd : FuncData} {k : Nat} (F : Fun K "_law_draws" "_law_draws" s_L_draws f fd) (B : Bi mg) : FnOk P w K mg base CX0 (k + 1) f fd ["_law_script"] (sp_draws K) := by
  refine F.ok sc_L_draws (fun vs H Q E h => ?_) (fun cdv A outer s H vs Q E hr h => ?_)
  · obtain ⟨a, ns, rfl, _⟩ := h
    rfl
  · obtain ⟨a, ns, rfl, hS, h63, q⟩ := h
    have nd := sc_L_draws.nd
    refine ⟨_, pss_cons (ps_set (i := 1) nd rfl (.inl rfl) (pe_op op_cat (pe_callTy call_list_of (by rfl) B.list (by decide +kernel) (pa_cons (pe_slice sl_list (pv 0) po_none (po_some pe_int)) pa_nil))
        (pe_op op_rep (pe_lst (pa_cons pe_int pa_nil)) (pe_callTy call_int1 (by rfl) B.int (by decide +kernel) (pa_cons (pe_cmpR op_eq (pe_len B (pv 0)) pe_int (nomark _)) pa_nil)))))
      (pss_one (ps_ret (pe_lst (pa_cons (pv 1) (pa_cons pe_int (pa_cons
        (pe_lc (own := [("_law_cell", 2)]) (g := gName 2) (tt := tYes) rfl nd (pi_list (pv 1)) (blkOk_by (N := N_L_draws) (sc := defScope s_L_draws) (by decide +kernel))
          (fun _ _ _ _ _ => pg_name (i := 2) nd rfl (.inl rfl)) (fun _ _ _ _ _ => pts_nil)
          (fun _ _ _ _ _ => pe_op op_mul (pv 2) (pe_callTy call_int1 (by rfl) B.int (by decide +kernel) (pa_cons (pe_cmpR op_ge (pv 2) (pe_op op_pow pe_int pe_int) (nomark _)) pa_nil)))) pa_nil)))))), ?_⟩
    refine ⟨.ref a, rfl, 63, rfl, a, _, rfl, hS, fun p1 hp1 => ?_⟩
    have e63 : cutV (ns.map V.int) none (some 63) = ns.map V.int := by
      rw [show (63 : Int) = ((63 : Nat) : Int) from rfl, cut_to]
      exact List.take_of_length_le (by rw [List.length_map]; exact h63)
    rw [e63]
    have s1 : Sm H (upd H p1 (.lst (ns.map V.int))) := Sm.new hp1
    refine ⟨p1, _, rfl, .inl (SqL.of upd_same), fun p2 hp2 => ?_⟩
    have s2 := s1.trans (Sm.new (o := .lst (ns.map V.int)) hp2)
    refine ⟨(by show 1 ≤ sizeLine; decide), fun p3 hp3 => ?_⟩
    have s3 := s2.trans (Sm.new (o := .lst [.int 0]) hp3)
    refine ⟨.ref a, rfl, a, _, rfl, .inl (s3.sqL hS), rfl, .inr ⟨_, rfl, ?_⟩⟩
    obtain ⟨kk, ek, ekk⟩ : ∃ kk : Nat, (if decide (V.int (((ns.map V.int).length : Nat) : Int) = V.int 0) = true then (1 : Int) else 0) = (kk : Int) ∧ (kk = if ns.length = 0 then 1 else 0) := by
      by_cases z : ns.length = 0
      · exact ⟨1, by rw [List.length_map, z]; rfl, by rw [if_pos z]⟩
      · refine ⟨0, ?_, by rw [if_neg z]⟩
        rw [List.length_map, decide_eq_false (fun e => z (by have := V.int.inj e; omega))]
        rfl
    rw [ek]
    have kk1 : kk ≤ 1 := by rw [ekk]; split <;> omega
    refine ⟨p3, _, _, rfl, rfl, upd_same, by omega, by omega, ?_, fun p4 hp4 => ?_⟩
    · show 1 * ((kk : Int).toNat) ≤ sizeLine
      exact Nat.le_of_lt (small1000 (by omega))
    obtain ⟨zs, ez, lz⟩ : ∃ zs : List Int, (List.replicate (kk : Int).toNat [V.int 0]).flatten = zs.map V.int ∧ zs.length = kk := by
      match kk, kk1 with
      | 0, _ => exact ⟨[], rfl, rfl⟩
      | 1, _ => exact ⟨[0], rfl, rfl⟩
    rw [ez]
    have s4 := s3.trans (Sm.new (o := .lst (zs.map V.int)) hp4)
    have h24 : (upd (upd (upd (upd H p1 (.lst (ns.map V.int))) p2 (.lst (ns.map V.int))) p3 (.lst [.int 0])) p4 (.lst (zs.map V.int))) p2 = some (.lst (ns.map V.int)) :=
      Sm.new hp4 _ _ (Sm.new hp3 _ _ upd_same)
    refine ⟨p2, p4, _, _, rfl, rfl, h24, upd_same, ?_, fun c hc => ?_⟩
    · rw [List.length_map, List.length_map]
      exact Nat.le_of_lt (small1000 (by omega))
    rw [← List.map_append]
    obtain ⟨cells, hcells⟩ : ∃ cells, cells = ns ++ zs := ⟨_, rfl⟩
    rw [← hcells]
    have lc : 0 < cells.length ∧ cells.length ≤ 64 := by
      rw [hcells, List.length_append, lz, ekk]
      split <;> omega
    have cH : H c = none := s4.free hc
    have s5 := s4.trans (Sm.new (o := .lst (cells.map V.int)) hc)
    have c5 : (upd (upd (upd (upd (upd H p1 (.lst (ns.map V.int))) p2 (.lst (ns.map V.int))) p3 (.lst [.int 0])) p4 (.lst (zs.map V.int))) c (.lst (cells.map V.int))) c = some (.lst (cells.map V.int)) := upd_same
    generalize upd (upd (upd (upd (upd H p1 (.lst (ns.map V.int))) p2 (.lst (ns.map V.int))) p3 (.lst [.int 0])) p4 (.lst (zs.map V.int))) c (.lst (cells.map V.int)) = H5 at s5 c5
    -- the three
    refine ⟨.ref c, rfl, .ref c, rfl, c, rfl, ⟨_, SqL.of c5⟩, fun r hr0 => lc_list (xs := cells.map V.int) (fun i Hx => ∃ rs : List Int, Hx r = some (.lst (rs.map V.int)) ∧ rs.length = i ∧ (∀ x ∈ rs, 0 ≤ x) ∧ Sm H5 Hx) ⟨[], upd_same, rfl, fun x hx => by simp at hx, Sm.new hr0⟩ (fun i Hx hi hP => ?_) (fun i v Hx hv hP => ?_) (fun Hx hP => ?_)⟩
    · obtain ⟨_, _, _, _, h4⟩ := hP
      exact SqL.of (h4 _ _ c5)
    · obtain ⟨rs, h1, h2, h3, h4⟩ := hP
      have hi : i < cells.length := by
        have := (List.getElem?_eq_some_iff.mp hv).1
        rwa [List.length_map] at this
      obtain ⟨x, rfl⟩ : ∃ x : Int, v = .int x := by
        rw [List.getElem?_map, List.getElem?_eq_getElem hi] at hv
        exact ⟨_, (Option.some.inj hv).symm⟩
      refine ⟨rfl, .int x, rfl, .int x, rfl, _, _, rfl, rfl, ⟨by decide, by decide, by decide⟩, _, _, rfl, rfl, .inr ⟨_, rfl, ?_⟩⟩
      obtain ⟨b, hb, hb2⟩ : ∃ b : Int, (if decide ((10 : Int) ^ (18 : Int).toNat ≤ x) = true then (1 : Int) else 0) = b ∧ ((b = 1 ∧ (10 : Int) ^ (18 : Int).toNat ≤ x) ∨ b = 0) := by
        by_cases z : (10 : Int) ^ (18 : Int).toNat ≤ x
        · exact ⟨1, by rw [decide_eq_true z]; rfl, .inl ⟨rfl, z⟩⟩
        · exact ⟨0, by rw [decide_eq_false z]; rfl, .inr rfl⟩
      rw [hb]
      refine ⟨_, _, rfl, rfl, .inr ⟨?_, ?_⟩, _, h1, by rw [List.length_map]; exact small1000 (by omega), rs ++ [x * b], ?_, by rw [List.length_append, h2]; rfl, ?_, ?_⟩
      · rcases hb2 with ⟨z, _⟩ | z <;> rw [z] <;> decide
      · rcases hb2 with ⟨z, _⟩ | z <;> rw [z] <;> decide
      · rw [upd_same, List.map_append]; rfl
      · intro y hy
        rcases List.mem_append.mp hy with hy | hy
        · exact h3 y hy
        · rw [List.mem_singleton.mp hy]
          rcases hb2 with ⟨z, zx⟩ | z
          · rw [z, Int.mul_one]
            exact Int.le_trans (by decide) zx
          · rw [z, Int.mul_zero]
            exact Int.le_refl 0
      · intro e o he
        rw [upd_ne (ne_of_none he hr0)]
        exact h4 e o he
    · obtain ⟨rs, h1, h2, h3, h4⟩ := hP
      rw [List.length_map] at h2
      refine ⟨(by show 3 ≤ sizeLine; decide), fun d hd0 => ?_⟩
      have c6 := h4 _ _ c5
      have s6 := s5.trans h4
      refine q _ d c r (s6.trans (Sm.new hd0)) ⟨⟨cells, rs, 0, upd_same, Sm.new hd0 _ _ c6, Sm.new hd0 _ _ h1, h2.symm, lc.1, lc.2, Nat.le_refl _, h3⟩, (ne_of_none c6 hd0).symm, (ne_of_none h1 hd0).symm, ne_of_none c5 hr0⟩ (s6.free hd0) cH (s5.free hr0)
end
def VAt (G : Hp → V → Prop) (i : Nat) (σ : L2.St) (H : Hp) : Prop := ∃ v, σ[i]? = some (some v) ∧ G H v
structure J15 (d : Addr) (cnt : Nat) (σ : L2.St) (H : Hp) : Prop where
  h1 : σ[1]? = some (some (.ref d))
  h4 : σ[4]? = some (some (.int (cnt : Int)))
  c1 : 1 ≤ cnt
  c2 : cnt ≤ 12
abbrev G15 (K : PySem.W.Frag) (d r : Addr) : Hp → V → Prop := GV K d r bigB 3 500
section
variable {K : PySem.W.Frag} {d c r : Addr} {J : L2.St → Hp → Prop} {L cnt i : Nat}
theorem ge_odd15 (hJ : StaJ d c r J) (h0 : ∀ σ H, J σ H → σ[i]? = some (some (.ref d))) (hL : L ≤ 800000 := by decide) : GE d c r J L 1 (GV K d r bigB 2 200) (tCall (sp_oddW K) [] E0 (tCons (tVar i) tNil)) := fun n σ H Q hn D j q =>
  ⟨_, h0 σ H j, d, c, r, n, rfl, D, by omega, fun H' v x h1 h2 h3 D' a' => q v H' a' D' (hJ _ _ _ _ D a' j) ⟨x, h1, h2, h3⟩⟩
theorem ge_next15 (h : ∀ σ H, J σ H → J15 d cnt σ H) (hJ : StaJ d c r J) (hL : L ≤ 600000 := by decide) : GE d c r J L 1 (GV K d r bigB 0 45) (tCall sp_next [] E0 (tCons (tVar 1) (tCons (tVar 4) tNil))) := fun n σ H Q hn D j q => by
  have h' := h σ H j
  have := h'.c1
  have := h'.c2
  refine ⟨_, h'.h1, _, h'.h4, d, c, r, n, _, rfl, D, by omega, by omega, by omega, fun H' k hk D' kp => q _ H' kp D' (hJ _ _ _ _ D kp j) ⟨.int (k : Int), .int _, .int (by unfold bigB; omega), Nat.le_refl _⟩⟩
theorem ge_sub15 (h : ∀ σ H, J σ H → J15 d cnt σ H) : GE d c r J L 0 (GV K d r bigB 0 45) (tOp (rI0 fun i j => .int (i - j)) (tVar 4) (tC (.int 1))) := fun n σ H Q hn D j q => by
  have h' := h σ H j
  have := h'.c2
  exact ⟨_, h'.h4, _, _, rfl, rfl, q _ H (Kp.refl d r H) D j ⟨.int _, .int _, .int (by unfold bigB; omega), Nat.le_refl _⟩⟩
theorem ge_cnt15 (h : ∀ σ H, J σ H → J15 d cnt σ H) : GE d c r J L 0 (GV K d r bigB 0 45) (tVar 4) := ge_var fun σ H j => by
  have h' := h σ H j
  have := h'.c2
  exact ⟨_, h'.h4, .int _, .int _, .int (by unfold bigB; omega), Nat.le_refl _⟩
theorem ge_neg15 : GE d c r J L 0 (GV K d r bigB 0 45) (tUn (rU fun i => .int (-i)) (tC (.int 1))) := fun n σ H Q hn D j q =>
  ⟨_, rfl, q _ H (Kp.refl d r H) D j ⟨.int _, .int _, .int (by decide), Nat.le_refl _⟩⟩
theorem ge_pow15 {C : Int → Int → Prop} {g : Int → Int → V} {a b z : Int} (hC : C a b) (hg : g a b = .int z) (h : z.natAbs ≤ bigB) : GE d c r J L 0 (GV K d r bigB 0 45) (tOp (rI C g) (tC (.int a)) (tC (.int b))) := fun n σ H Q hn D j q =>
  ⟨a, b, rfl, rfl, hC, by rw [hg]; exact q _ H (Kp.refl d r H) D j ⟨.int z, .int _, .int h, Nat.le_refl _⟩⟩
theorem ge_str15 {s : Str} {W : Nat} (h : wt (.str s) ≤ W) : GE d c r J L 0 (GV K d r bigB 0 W) (tC (.str s)) := fun n σ H Q hn D j q =>
  q _ H (Kp.refl d r H) D j ⟨.str s, .str s, .str, h⟩
end
theorem o15_sz {B n : Nat} {ends : Bool} {k : Nat} {xa xb : PyData} (ha : Sz B k xa) (hb : Sz B k xb) (wa : wt xa ≤ 500) (wb : wt xb ≤ 500) : Sz B (k + 1) (o15 ends n xa xb) ∧ wt (o15 ends n xa xb) ≤ 1000 := by
  have key : ∀ (s : Str) (x : PyData), wt (.str s) ≤ 200 → Sz B k x → wt x ≤ 500 → Sz B (k + 1) (.list [.str s, x, .bool true]) ∧ wt (.list [.str s, x, .bool true]) ≤ 1000 := fun s x hs hx hw => by
    constructor
    · intro y hy
      simp only [List.mem_cons, List.not_mem_nil, or_false] at hy
      rcases hy with rfl | rfl | rfl
      · exact .str
      · exact hx
      · exact .bool true
    · have : wt (.list [.str s, x, .bool true]) = wt (.str s) + 2 + (wt x + 2 + (5 + 2 + 0)) + 3 := rfl
      omega
  unfold o15
  split
  · exact key _ _ (by decide +kernel) ha wa
  · split
    · exact key _ _ (by decide +kernel) hb wb
    · split
      · exact key _ _ (by decide +kernel) ha wa
      · refine ⟨fun y hy => ?_, by decide +kernel⟩
        rw [List.mem_singleton.mp hy]
        exact .str
section
variable {P : Program} {w : World} {K : PySem.W.Frag} {mg : Str → Option Value} {base : Heap}
/-! ### the law -/
structure LawDefs (K : PySem.W.Frag) (mg : Str → Option Value) : Prop where
  D : DrawDefs K mg
  told : ∃ CI fI CS fS CM CL CT CU CK CN, ToldDefs K mg CI fI CS fS CM CL CT CU CK CN
  name : ∃ CU fU CM CS CQ CT, NameDefs K mg CU fU CM CS CQ CT
  draws : ∃ f fd, Df K mg "_law_draws" s_L_draws f fd ["_law_script"]
  odd : ∃ f fd, Df K mg "_law_odd" s_L_odd f fd ["_law_drawn"]
  table : ∃ f fd, Df K mg "_law_table" s_L_table f fd ["_law_drawn", "_law_count_here"]
  asked : ∃ f fd, Df K mg "_law_asked" s_L_asked f fd ["_law_table_here", "_law_door", "_law_one_here", "_law_other", "_law_value"]
  tld : ∃ f fd, Df K mg "_law_told" s_L_told f fd ["_law_table_here", "_law_door", "_law_one_here", "_law_other", "_law_value"]
  due : ∃ f fd, Df K mg "_law_due" s_L_due f fd ["_law_table_here", "_law_door", "_law_one_here", "_law_other"]
  named : ∃ f fd, Df K mg "_law_named" s_L_named f fd ["_law_table_here", "_law_way"]
  nam : ∃ f fd, Df K mg "_law_name" s_L_name f fd ["_law_table_here", "_law_way"]
def sp_law (K : PySem.W.Frag) : Sp := fun vs H Q _ => ∃ (a : Addr) (ns : List Int), vs = [.ref a] ∧ SqL K H a (ns.map V.int) ∧ ns.length ≤ 63 ∧ ∀ H', Q (.bl true) H'
set_option maxHeartbeats 8000000 in
theorem ok_law {f : Addr} {fd : FuncData} (F : Fun K "law" "law" s_law f fd) (T : LawDefs K mg) : GOk P w K mg base 10 f fd ["_law_script"] (sp_law K) := by
  have B := T.D.B
  obtain ⟨CI, fI, CS, fS, CM, CL, CT, CU, CK, CN, TT1⟩ := T.told
  obtain ⟨CU', fU', CM', CS', CQ', CT', TN⟩ := T.name
  obtain ⟨fN, fdN, D_L_next⟩ := T.D.next
  obtain ⟨fO, fdO, D_L_one⟩ := T.D.one
  obtain ⟨fC, fdC, D_L_count⟩ := T.D.count
  obtain ⟨fA, fdA, DA⟩ := T.asked
  obtain ⟨fM, fdM, DM⟩ := T.named
  obtain ⟨f1, fd1, D_L_draws⟩ := T.draws
  obtain ⟨f2, fd2, D_L_odd⟩ := T.odd
  obtain ⟨f3, fd3, D_L_table⟩ := T.table
  obtain ⟨f4, fd4, D_L_told⟩ := T.tld
  obtain ⟨f5, fd5, D_L_due⟩ := T.due
  obtain ⟨f6, fd6, D_L_name⟩ := T.nam
  have G_L_draws : FnOk P w K mg base CX0 9 f1 fd1 ["_law_script"] (sp_draws K) := ok_draws D_L_draws.F B
  have G_L_next : FnOk P w K mg base CX0 9 fN fdN ["_law_drawn", "_law_many"] sp_next := (ok_next (k := 0) D_L_next.F B).mono (by decide)
  have G_L_one : FnOk P w K mg base CX0 9 fO fdO ["_law_drawn", "_law_items"] (sp_one K) := (ok_one D_L_one.F D_L_next B).mono (by decide)
  have G_L_count : FnOk P w K mg base CX0 9 fC fdC ["_law_drawn", "_law_most"] sp_count := (ok_count D_L_count.F D_L_next B).mono (by decide)
  have G_L_odd : FnOk P w K mg base CX0 9 f2 fd2 ["_law_drawn"] (sp_oddW K) := (ok_oddW D_L_odd.F D_L_next D_L_one B).mono (by decide)
  have G_L_table : FnOk P w K mg base CX0 9 f3 fd3 ["_law_drawn", "_law_count_here"] (sp_table K) := (ok_table D_L_table.F T.D).mono (by decide)
  have G_L_told : FnOk P w K mg base CX0 9 f4 fd4 ["_law_table_here", "_law_door", "_law_one_here", "_law_other", "_law_value"] (sp_told K) := ok_told D_L_told.F DA TT1
  have G_L_due : FnOk P w K mg base CX0 9 f5 fd5 ["_law_table_here", "_law_door", "_law_one_here", "_law_other"] (sp_due K) := (ok_due D_L_due.F B).mono (by decide)
  have G_L_name : FnOk P w K mg base CX0 9 f6 fd6 ["_law_table_here", "_law_way"] (sp_name K) := (ok_name D_L_name.F DM TN).mono (by decide)
  refine fun_G F sc_law (fun vs H Q E h => ?_) (fun cdv A outer s H vs Q E hg hr h => ?_)
  · obtain ⟨a, ns, rfl, _⟩ := h
    rfl
  · obtain ⟨a, ns, rfl, hS, h63, q⟩ := h
    have nd := sc_law.nd
    refine ⟨_, (pss_cons (ps_set (i := 1) nd rfl (.inl rfl) (pe_cl D_L_draws G_L_draws hr (pa_cons (pv 0) pa_nil)))
      (pss_cons (ps_for PassesOwn.never rfl (pi_range1 rfl B.range (pa_cons pe_int pa_nil)) (pg_name (i := 2) nd rfl (.inl rfl))
      (pss_cons (ps_set (i := 3) nd rfl (.inr rfl) (pe_cl D_L_table G_L_table hr (pa_cons (pv 1) (pa_cons (pe_cl D_L_count G_L_count hr (pa_cons (pv 1) (pa_cons pe_int pa_nil))) pa_nil))))
      (pss_cons (ps_par (i := 4) (j := 5) rfl nd rfl rfl (by decide) rfl rfl (pa_cons (pe_len B (pv 3)) (pa_cons (pe_callB (cr_reprZ hg hr) (by rfl) B.repr (by decide +kernel) (pa_cons (pv 3) pa_nil)) pa_nil)) rfl)
      (pss_cons (ps_set (i := 6) nd rfl (.inl rfl) (pe_lst (pa_cons pe_int (pa_cons (pe_op op_sub (pv 4) pe_int) (pa_cons (pv 4) (pa_cons (pe_un un_neg pe_int) (pa_cons pe_bl (pa_cons pe_bl (pa_cons pe_non (pa_cons pe_str (pa_cons (pe_tup (pa_cons pe_int pa_nil)) (pa_cons (pe_lstS (pa_cons pe_int pa_nil)) (pa_cons (pe_op op_pow pe_int pe_int) (pa_cons (pe_cl D_L_odd G_L_odd hr (pa_cons (pv 1) pa_nil)) pa_nil))))))))))))))
      (pss_cons (ps_set (i := 6) nd rfl (.inl rfl) (pe_op op_cat (pv 6) (pe_lst (pa_cons (pe_cl D_L_next G_L_next hr (pa_cons (pv 1) (pa_cons (pv 4) pa_nil))) (pa_cons (pe_cl D_L_next G_L_next hr (pa_cons (pv 1) (pa_cons (pv 4) pa_nil))) pa_nil)))))
      (pss_cons (ps_for PassesOwn.never rfl (pi_range1 rfl B.range (pa_cons pe_int pa_nil)) (pg_name (i := 7) nd rfl (.inl rfl))
      (pss_cons (ps_par (i := 8) (j := 9) rfl nd rfl rfl (by decide) rfl rfl (pa_cons (pe_cl D_L_one G_L_one hr (pa_cons (pv 1) (pa_cons (pv 6) pa_nil))) (pa_cons (pe_cl D_L_one G_L_one hr (pa_cons (pv 1) (pa_cons (pv 6) pa_nil))) pa_nil)) rfl)
      (pss_cons (ps_if (pt_cmpR op_eq (pe_op op_mod (pv 7) pe_int) pe_int (nomark _))
      (pss_one (ps_set (i := 9) nd rfl (.inl rfl) (pv 8)))
      pss_nil)
      (pss_cons (ps_set (i := 10) nd rfl (.inl rfl) (pe_cl D_L_one G_L_one hr (pa_cons (pv 1) (pa_cons (pe_lst (pa_cons pe_non (pa_cons (pe_tup (pa_cons (pe_tup (pa_cons pe_int pa_nil)) (pa_cons (pe_tup (pa_cons pe_int pa_nil)) pa_nil))) (pa_cons (pe_tup pa_nil) (pa_cons (pe_cl D_L_odd G_L_odd hr (pa_cons (pv 1) pa_nil)) pa_nil))))) pa_nil))))
      (pss_one (ps_for PassesOwn.never rfl (pi_range1 rfl B.range (pa_cons pe_int pa_nil)) (pg_name (i := 11) nd rfl (.inl rfl))
      (pss_one (ps_if (pt_cmpR op_ne (pe_callB (cr_reprZ hg hr) (by rfl) B.repr (by decide +kernel) (pa_cons (pe_cl D_L_told G_L_told hr (pa_cons (pv 3) (pa_cons (pv 11) (pa_cons (pv 8) (pa_cons (pv 9) (pa_cons (pv 10) pa_nil)))))) pa_nil)) (pe_callB (cr_reprZ hg hr) (by rfl) B.repr (by decide +kernel) (pa_cons (pe_cl D_L_due G_L_due hr (pa_cons (pv 3) (pa_cons (pv 11) (pa_cons (pv 8) (pa_cons (pv 9) pa_nil))))) pa_nil)) (nomark _))
      (pss_one (ps_ret pe_bl))
      pss_nil))))))))
      (pss_cons (ps_setLc (i := 12) (own := [("_law_way", 13)]) (g := gName 13) (tt := tYes) rfl nd rfl rfl (sw_true rfl rfl rfl (by decide +kernel)) (pi_range1 rfl B.range (pa_cons pe_int pa_nil)) (blkOk_by (N := N_law) (sc := defScope s_law) (by decide +kernel))
            (te := tCall (sp_name K) [] E0 (tCons (tVar 3) (tCons (tVar 13) tNil)))
            (fun _ _ _ _ _ => pg_name (i := 13) nd rfl (.inl rfl)) (fun _ _ _ _ _ => pts_nil) (fun _ _ _ _ _ => (pe_cl D_L_name G_L_name hr (pa_cons (pv 3) (pa_cons (pv 13) pa_nil)))))
      (pss_one (ps_if (PW.pt (pw_or (pt_cmpR (op_neD hr.units) (pv 12) (pe_lst (pa_cons pe_str (pa_cons pe_str (pa_cons pe_str (pa_cons pe_str (pa_cons pe_str (pa_cons pe_str pa_nil))))))) (nomark _)) (pw_or1 (pt_cmpR op_ne (pe_callB (cr_reprZ hg hr) (by rfl) B.repr (by decide +kernel) (pa_cons (pv 3) pa_nil)) (pv 5) (nomark _)))))
      (pss_one (ps_ret pe_bl))
      pss_nil)))))))))
      (pss_one (ps_ret pe_bl)))), ?_⟩
    refine ⟨.ref a, rfl, a, ns, rfl, hS, h63, fun H1 d c r s1 Dr1 _ _ _ => ?_⟩
    refine ⟨4, rfl, by decide, by decide, for_range (n := 4) (fun i σ Hx => ∃ x2 x3 x4 x5 x6 x7 x8 x9 x10 x11 x12, σ = [some (.ref a), some (.ref d), x2, x3, x4, x5, x6, x7, x8, x9, x10, x11, x12, none] ∧ Dr Hx d c r (1000 * i)) ⟨none, none, none, none, none, none, none, none, none, none, none, rfl, Dr1⟩ (fun i σ Hx hi hI => ?_) (fun σ Hx hI => ?_)⟩
    · obtain ⟨x2, x3, x4, x5, x6, x7, x8, x9, x10, x11, x12, rfl, hD⟩ := hI
      refine gnm ?_
      refine ⟨.ref d, rfl, .ref d, rfl, d, c, r, _, 12, rfl, hD, by omega, by decide, by decide, fun H2 k2 l2 m2 D2 kp2 => ?_⟩
      refine ⟨d, c, r, _, k2, rfl, D2, by omega, l2, by omega, fun H3 tv t hT hW hl D3 kp3 => ?_⟩
      refine nx_mk ?_
      obtain ⟨tp, rs, rfl, htp, hR⟩ := id hT
      have hrl := hR.1
      have h12 : t.length ≤ 12 := by omega
      obtain ⟨zt1, zt2⟩ := tab_sz hW h12
      obtain ⟨t1, t2, t3⟩ := showZ (z := tabD t) (n := 2) (B := bigB) (fun z hz => zt1 z hz) (by show wtAll (t.map rowD) + 3 ≤ _; omega)
      refine ⟨.ref tp, rfl, tp, rs, rfl, .inr htp, .ref tp, rfl, allOk, _, tabD t, rfl, hT.da, t1, t2, t3, ?_⟩
      refine ⟨_, _, rfl, ?_⟩
      refine nx_mk ?_
      have hcl : rs.length = t.length := hrl
      have hJ : StaJ d c r (J15 d rs.length) := fun n σ H H' D e h => ⟨h.h1, h.h4, h.c1, h.c2⟩
      have idj : ∀ σ H, J15 d rs.length σ H → J15 d rs.length σ H := fun _ _ h => h
      have gG : Sta d c r (G15 K d r) := sta_gv
      have g0 : Sta d c r (GV K d r bigB 0 45) := sta_gv
      have I : ∀ {z : Int}, z.natAbs ≤ 100 → GE d c r (J15 d rs.length) 600000 0 (GV K d r bigB 0 45) (tC (.int z)) := fun hz => ge_int (W := 0) (Nat.le_trans hz (by decide))
      have Bt : ∀ {b : Bool}, GE d c r (J15 d rs.length) 600000 0 (GV K d r bigB 0 45) (tC (.bl b)) := ge_up (ge_bl (W := 0) (B := 0) (k1 := 0))
      have sh : ∀ H' (s : Sm H3 H'), TT K H' (.ref tp) t := fun H' s => hT.same s
      generalize hsh : (tabD t).shown = shown
      have jj : ∀ x6 x7 x8 x9 x10 x11 x12 (H : Hp), J15 d rs.length [some (.ref a), some (.ref d), some (.int (0 + (i : Int))), some (.ref tp), some (.int (rs.length : Int)), some (.str shown), x6, x7, x8, x9, x10, x11, x12, none] H := fun _ _ _ _ _ _ _ _ => ⟨rfl, rfl, by omega, by omega⟩
      refine sq_lst (L := 600000) (G := G15 K d r) (σ := [some (.ref a), some (.ref d), some (.int (0 + (i : Int))), some (.ref tp), some (.int (rs.length : Int)), some (.str shown), x6, x7, x8, x9, x10, x11, x12, none]) gG hJ
        (ga_cons gG (ge_up (I (by decide))) (ga_cons gG (ge_up (ge_sub15 idj)) (ga_cons gG (ge_up (ge_cnt15 idj)) (ga_cons gG (ge_up ge_neg15) (ga_cons gG (ge_up Bt) (ga_cons gG (ge_up Bt) (ga_cons gG (ge_up (ge_non (W := 0) (B := 0) (k1 := 0))) (ga_cons gG (ge_up (ge_str15 (W := 200) (by decide +kernel)))
        (ga_cons gG (ge_tv (ge_tup hJ (ga_cons g0 (I (by decide)) ga_nil))) (ga_cons gG (ge_up (ge_list hJ (ga_cons g0 (I (by decide)) ga_nil))) (ga_cons gG (ge_up (ge_pow15 (z := 100000000000000000000000000000) ⟨by decide, by decide, by decide⟩ (congrArg V.int (by decide)) (by decide)))
        (ga_cons gG (ge_up (ge_odd15 hJ fun σ H j => j.h1)) ga_nil)))))))))))) (by decide) (by omega) D3 (jj _ _ _ _ _ _ _ _) (fun l5 y5 H5 a5 D5 j5 lv5 e5 => ?_)
      refine sq_cat (L := 600000) (G := G15 K d r) (σ := [some (.ref a), some (.ref d), some (.int (0 + (i : Int))), some (.ref tp), some (.int (rs.length : Int)), some (.str shown), some (.ref l5), x7, x8, x9, x10, x11, x12, none]) gG hJ
        (ga_cons gG (ge_up (ge_next15 idj hJ)) (ga_cons gG (ge_up (ge_next15 idj hJ)) ga_nil)) rfl lv5 (by omega) (by omega) D5 (jj _ _ _ _ _ _ _ _) (fun l6 y6 H6 a6 D6 j6 lv6 e6 => ?_)
      have hT6 := (hT.kp D3 a5).kp D5 a6
      have e6' : y6.length = 14 := by omega
      refine ⟨24, rfl, by decide, by decide, for_range (n := 24) (fun m σ Hy => ∃ x7 x8 x9 x10 x11, σ = [some (.ref a), some (.ref d), some (.int (0 + (i : Int))), some (.ref tp), some (.int (rs.length : Int)), some (.str shown), some (.ref l6), x7, x8, x9, x10, x11, x12, none] ∧ LV d r (G15 K d r) Hy l6 y6 ∧ TT K Hy (.ref tp) t ∧ Dr Hy d c r (1000 * i + 520 + 10 * m)) ⟨x7, x8, x9, x10, x11, rfl, lv6, hT6, D6.mono (by omega)⟩ (fun m σ Hy hm hI => ?_) (fun σ Hy hI => ?_)⟩
      · obtain ⟨x7, x8, x9, x10, x11, rfl, lv, hTy, Dy⟩ := hI
        refine gnm ?_
        refine ⟨.ref d, rfl, .ref l6, rfl, d, c, r, _, l6, y6, rfl, Dy, by omega, SqL.of lv.at_, lv.nd, lv.nr, by omega, by omega, fun H7 i7 v7 hv7 D7 a7 => ?_⟩
        have lv7 := lv.kp gG Dy a7
        refine ⟨.ref d, rfl, .ref l6, rfl, d, c, r, _, l6, y6, rfl, D7, by omega, SqL.of lv7.at_, lv.nd, lv.nr, by omega, by omega, fun H8 i8 v8 hv8 D8 a8 => ?_⟩
        have lv8 := lv7.kp gG D7 a8
        have hT8 := (hTy.kp Dy a7).kp D7 a8
        obtain ⟨xa, da, sa, wa⟩ := lv8.good v7 (List.mem_of_getElem? hv7)
        obtain ⟨xb, db, sb, wb⟩ := lv8.good v8 (List.mem_of_getElem? hv8)
        refine ⟨_, _, rfl, ?_⟩
        refine nx_mk ?_
        refine seq_share (A := tIfS _ _ _) (fun σ' Hz => ∃ u xu, σ' = [some (.ref a), some (.ref d), some (.int (0 + (i : Int))), some (.ref tp), some (.int (rs.length : Int)), some (.str shown), some (.ref l6), some (.int (0 + (m : Int))), some v7, some u, x10, x11, x12, none] ∧ Hz = H8 ∧ Da K (okA d r) H8 u xu ∧ Sz bigB 3 xu ∧ wt xu ≤ 500) (fun σ' Hz hF => ?rest) (fun kk => ?main)
        case main =>
          refine ⟨.int (0 + (m : Int)), rfl, _, _, rfl, rfl, (by show (0 : Int) < 4; decide), rfl, _, rfl, ite2 (fun _ => ?_) (fun _ => ?_)⟩
          · exact ⟨v7, rfl, kk _ _ ⟨v7, xa, rfl, rfl, da, sa, wa⟩⟩
          · exact kk _ _ ⟨v8, xb, rfl, rfl, db, sb, wb⟩
        case rest =>
          obtain ⟨u, xu, rfl, rfl, du, su, wu⟩ := hF
          refine ⟨.ref d, rfl, ?_⟩
          have g1 : Sta d c r (GV K d r bigB 1 200) := sta_gv
          refine ge_lst (L := 600000) (G := G15 K d r) gG hJ (ga_cons gG (ge_up (ge_non (W := 0) (B := 0) (k1 := 0))) (ga_cons gG (ge_tv (ge_tup hJ (ga_cons g1 (ge_tv (ge_tup hJ (ga_cons g0 (I (by decide)) ga_nil))) (ga_cons g1 (ge_tv (ge_tup hJ (ga_cons g0 (I (by decide)) ga_nil))) ga_nil)))) (ga_cons gG (ge_tv (ge_tup hJ (ga_nil (G := GV K d r bigB 0 45)))) (ga_cons gG (ge_up (ge_odd15 hJ fun σ H j => j.h1)) ga_nil)))) (by decide) (by omega) D8 (jj _ _ _ _ _ _ _ _) (fun l9 y9 H9 a9 D9 j9 lv9 e9 => ?_)
          refine ⟨d, c, r, _, l9, y9, rfl, D9, by omega, SqL.of lv9.at_, lv9.nd, lv9.nr, by omega, by omega, fun HA iA vA hvA DA aA => ?_⟩
          refine nx_mk ?_
          have aa := a9.trans aA
          obtain ⟨xc, dc', sc', wc'⟩ := (lv9.kp gG D9 aA).good vA (List.mem_of_getElem? hvA)
          have daA := da.kp (fun _ h => h) D8 aa
          have duA := du.kp (fun _ h => h) D8 aa
          have hTA := hT8.kp D8 aa
          have lvA := lv8.kp gG D8 aa
          refine ⟨5, rfl, by decide, by decide, for_range (n := 5) (fun k σ Hz => ∃ x11, σ = [some (.ref a), some (.ref d), some (.int (0 + (i : Int))), some (.ref tp), some (.int (rs.length : Int)), some (.str shown), some (.ref l6), some (.int (0 + (m : Int))), some v7, some u, some vA, x11, x12, none] ∧ Sm HA Hz) ⟨_, rfl, Sm.refl _⟩ (fun k σ Hz hk hI => ?_) (fun σ Hz hI => ?_)⟩
          · obtain ⟨x11, rfl, sz⟩ := hI
            refine gnm ?_
            obtain ⟨z1, z2⟩ := o15_sz (ends := decide (1 < k)) (n := t.length) sa su wa wu
            obtain ⟨e1, e2, e3⟩ := showZ z1 (by omega)
            refine ⟨.ref tp, rfl, .int (0 + (k : Int)), rfl, v7, rfl, u, rfl, vA, rfl, okA d r, k, .ref tp, v7, u, vA, t, xa, xu, xc, by rw [Int.zero_add]; rfl, hk, hTA.same sz, hW, h12, daA.same sz, duA.same sz, dc'.same sz, by omega, fun HB zB sB dB => ?_⟩
            refine ⟨allOk, _, _, rfl, dB, e1, e2, e3, ?_⟩
            have szB := sz.trans sB
            refine ⟨.ref tp, rfl, .int (0 + (k : Int)), rfl, v7, rfl, u, rfl, okA d r, k, .ref tp, v7, u, t, xa, xu, by rw [Int.zero_add]; rfl, hk, hTA.same szB, daA.same szB, duA.same szB, fun HC zC sC dC => ?_⟩
            refine ⟨allOk, _, _, rfl, dC, e1, e2, e3, rfl, _, rfl, iteNS rfl ?_⟩
            exact ⟨_, rfl, szB.trans sC⟩
          · obtain ⟨x11, rfl, sz⟩ := hI
            exact ⟨_, _, _, _, _, rfl, LV.kp gG lvA DA sz.kp, hTA.same sz, (DA.same sz).mono (by omega)⟩
      · obtain ⟨x7, x8, x9, x10, x11, rfl, lv, hTy, Dy⟩ := hI
        refine nx_mk ?_
        refine ⟨6, rfl, by decide, by decide, fun E hE => lc_range (n := 6) (fun k Hz => Hz E = some (.lst ((List.range k).map fun j => V.str (nm15 j))) ∧ Sm Hy Hz) ⟨upd_same, Sm.new hE⟩ (fun k Hz hk hP => ?_) (fun Hz hP => ?_)⟩
        · obtain ⟨p1, p2⟩ := hP
          refine ⟨rfl, .ref tp, rfl, .int (0 + (k : Int)), rfl, .ref tp, k, by rw [Int.zero_add]; rfl, fun HB sB => ⟨_, sB _ _ p1, ?_, ?_, ?_⟩⟩
          · rw [List.length_map, List.length_range]
            exact lt_line (by omega)
          · rw [upd_same, List.range_succ, List.map_append]
            rfl
          · intro b u e
            rw [upd_ne (ne_of_none e hE)]
            exact sB _ _ (p2 b u e)
        · obtain ⟨p1, p2⟩ := hP
          refine ⟨.ref E, rfl, (by show 6 ≤ sizeLine; decide), fun p hp => ?_⟩
          have s3 := p2.trans (Sm.new (o := .lst [.str "width", .str "joins", .str "Level", .str "peak", .str "levels", .str "a"]) hp)
          have p1' := Sm.new (o := .lst [.str "width", .str "joins", .str "Level", .str "peak", .str "levels", .str "a"]) hp _ _ p1
          refine ⟨.list [.str "width", .str "joins", .str "Level", .str "peak", .str "levels", .str "a"], .list [.str "width", .str "joins", .str "Level", .str "peak", .str "levels", .str "a"], .lst (SqL.of p1') (.cons (.str _) (.cons (.str _) (.cons (.str _) (.cons (.str _) (.cons (.str _) (.cons (.str _) .nil)))))), .lst (SqL.of upd_same) (.cons (.str _) (.cons (.str _) (.cons (.str _) (.cons (.str _) (.cons (.str _) (.cons (.str _) .nil)))))), by decide +kernel, by decide +kernel, false, congrArg V.bl (by decide +kernel), ?_⟩
          have hTz := hTy.same s3
          refine ⟨.ref tp, rfl, allOk, _, tabD t, rfl, hTz.da, t1, t2, t3, .str shown, rfl, rfl, _, rfl, iteNS (congrArg V.str hsh) ?_⟩
          exact ⟨_, _, _, _, _, _, _, _, _, _, _, rfl, (Dy.same s3).mono (by omega)⟩
    · obtain ⟨x2, x3, x4, x5, x6, x7, x8, x9, x10, x11, x12, rfl, _⟩ := hI
      exact q _
end
/-! ### what the top has written -/
theorem df_mk {K : PySem.W.Frag} {h : Heap} {mg : Str → Option Value} {x : Str} {st : Stmt} {f : Addr} {od an : Option Addr} {sl : Array (Option Value)} {oc kV dc pm cd ct : Value} {ps : List Str} (X : K.In h) (G : h.Ns mainGlobals mg)
    (a : PySem.W.nsIn K mainGlobals x = some (some (.ref f))) (l : K.lookup f = some ⟨oc, od, .func (PySem.W.fnOf x x (defArgs st) (defBody st) (defScope st) .none kV dc pm an cd ct), sl⟩) (c : PySem.W.codeIn K cd x = true) (k : PySem.W.keepIn K (.ref f) = true)
    (b : ∀ (kV doc pm : Value) (an : Option Addr) (cdv ct : Value) (us : List Value), us.length = ps.length → bindArgs (PySem.W.fnOf x x (defArgs st) (defBody st) (defScope st) .none kV doc pm an cdv ct) ⟨us, []⟩ = pure (ps.zip us)) :
    Df K mg x st f (PySem.W.fnOf x x (defArgs st) (defBody st) (defScope st) .none kV dc pm an cd ct) ps := ⟨fun_mk l c k, (fun_mk l c k).binds b, PySem.W.mg_of X G a⟩
theorem all_mk {l : PySem.W.OpenLaw} {w : World} {K : PySem.W.Frag} {h : Heap} {mg : Str → Option Value} {fa : Addr} (X : K.In h) (G : h.Ns mainGlobals mg) (hfa : mg "law" = some (.ref fa))
    {f1 : Addr} {od1 an1 : Option Addr} {sl1 : Array (Option Value)} {oc1 kV1 dc1 pm1 cd1 ct1 : Value} (a1 : PySem.W.nsIn K mainGlobals "is_whole" = some (some (.ref f1))) (l1 : K.lookup f1 = some ⟨oc1, od1, .func (PySem.W.fnOf "is_whole" "is_whole" (defArgs s_is_whole) (defBody s_is_whole) (defScope s_is_whole) .none kV1 dc1 pm1 an1 cd1 ct1), sl1⟩) (c1 : PySem.W.codeIn K cd1 "is_whole" = true) (k1 : PySem.W.keepIn K (.ref f1) = true)
    {f2 : Addr} {od2 an2 : Option Addr} {sl2 : Array (Option Value)} {oc2 kV2 dc2 pm2 cd2 ct2 : Value} (a2 : PySem.W.nsIn K mainGlobals "is_item" = some (some (.ref f2))) (l2 : K.lookup f2 = some ⟨oc2, od2, .func (PySem.W.fnOf "is_item" "is_item" (defArgs s_is_item) (defBody s_is_item) (defScope s_is_item) .none kV2 dc2 pm2 an2 cd2 ct2), sl2⟩) (c2 : PySem.W.codeIn K cd2 "is_item" = true) (k2 : PySem.W.keepIn K (.ref f2) = true)
    {f3 : Addr} {od3 an3 : Option Addr} {sl3 : Array (Option Value)} {oc3 kV3 dc3 pm3 cd3 ct3 : Value} (a3 : PySem.W.nsIn K mainGlobals "check_items" = some (some (.ref f3))) (l3 : K.lookup f3 = some ⟨oc3, od3, .func (PySem.W.fnOf "check_items" "check_items" (defArgs s_check_items) (defBody s_check_items) (defScope s_check_items) .none kV3 dc3 pm3 an3 cd3 ct3), sl3⟩) (c3 : PySem.W.codeIn K cd3 "check_items" = true) (k3 : PySem.W.keepIn K (.ref f3) = true)
    {f4 : Addr} {od4 an4 : Option Addr} {sl4 : Array (Option Value)} {oc4 kV4 dc4 pm4 cd4 ct4 : Value} (a4 : PySem.W.nsIn K mainGlobals "check_ends" = some (some (.ref f4))) (l4 : K.lookup f4 = some ⟨oc4, od4, .func (PySem.W.fnOf "check_ends" "check_ends" (defArgs s_check_ends) (defBody s_check_ends) (defScope s_check_ends) .none kV4 dc4 pm4 an4 cd4 ct4), sl4⟩) (c4 : PySem.W.codeIn K cd4 "check_ends" = true) (k4 : PySem.W.keepIn K (.ref f4) = true)
    {f5 : Addr} {od5 an5 : Option Addr} {sl5 : Array (Option Value)} {oc5 kV5 dc5 pm5 cd5 ct5 : Value} (a5 : PySem.W.nsIn K mainGlobals "level_between" = some (some (.ref f5))) (l5 : K.lookup f5 = some ⟨oc5, od5, .func (PySem.W.fnOf "level_between" "level_between" (defArgs s_level_between) (defBody s_level_between) (defScope s_level_between) .none kV5 dc5 pm5 an5 cd5 ct5), sl5⟩) (c5 : PySem.W.codeIn K cd5 "level_between" = true) (k5 : PySem.W.keepIn K (.ref f5) = true)
    {f6 : Addr} {od6 an6 : Option Addr} {sl6 : Array (Option Value)} {oc6 kV6 dc6 pm6 cd6 ct6 : Value} (a6 : PySem.W.nsIn K mainGlobals "pairs_of" = some (some (.ref f6))) (l6 : K.lookup f6 = some ⟨oc6, od6, .func (PySem.W.fnOf "pairs_of" "pairs_of" (defArgs s_pairs_of) (defBody s_pairs_of) (defScope s_pairs_of) .none kV6 dc6 pm6 an6 cd6 ct6), sl6⟩) (c6 : PySem.W.codeIn K cd6 "pairs_of" = true) (k6 : PySem.W.keepIn K (.ref f6) = true)
    {f7 : Addr} {od7 an7 : Option Addr} {sl7 : Array (Option Value)} {oc7 kV7 dc7 pm7 cd7 ct7 : Value} (a7 : PySem.W.nsIn K mainGlobals "level_grid" = some (some (.ref f7))) (l7 : K.lookup f7 = some ⟨oc7, od7, .func (PySem.W.fnOf "level_grid" "level_grid" (defArgs s_level_grid) (defBody s_level_grid) (defScope s_level_grid) .none kV7 dc7 pm7 an7 cd7 ct7), sl7⟩) (c7 : PySem.W.codeIn K cd7 "level_grid" = true) (k7 : PySem.W.keepIn K (.ref f7) = true)
    {f8 : Addr} {od8 an8 : Option Addr} {sl8 : Array (Option Value)} {oc8 kV8 dc8 pm8 cd8 ct8 : Value} (a8 : PySem.W.nsIn K mainGlobals "lowest_grid" = some (some (.ref f8))) (l8 : K.lookup f8 = some ⟨oc8, od8, .func (PySem.W.fnOf "lowest_grid" "lowest_grid" (defArgs s_lowest_grid) (defBody s_lowest_grid) (defScope s_lowest_grid) .none kV8 dc8 pm8 an8 cd8 ct8), sl8⟩) (c8 : PySem.W.codeIn K cd8 "lowest_grid" = true) (k8 : PySem.W.keepIn K (.ref f8) = true)
    {f9 : Addr} {od9 an9 : Option Addr} {sl9 : Array (Option Value)} {oc9 kV9 dc9 pm9 cd9 ct9 : Value} (a9 : PySem.W.nsIn K mainGlobals "join_grid" = some (some (.ref f9))) (l9 : K.lookup f9 = some ⟨oc9, od9, .func (PySem.W.fnOf "join_grid" "join_grid" (defArgs s_join_grid) (defBody s_join_grid) (defScope s_join_grid) .none kV9 dc9 pm9 an9 cd9 ct9), sl9⟩) (c9 : PySem.W.codeIn K cd9 "join_grid" = true) (k9 : PySem.W.keepIn K (.ref f9) = true)
    {f10 : Addr} {od10 an10 : Option Addr} {sl10 : Array (Option Value)} {oc10 kV10 dc10 pm10 cd10 ct10 : Value} (a10 : PySem.W.nsIn K mainGlobals "join_level" = some (some (.ref f10))) (l10 : K.lookup f10 = some ⟨oc10, od10, .func (PySem.W.fnOf "join_level" "join_level" (defArgs s_join_level) (defBody s_join_level) (defScope s_join_level) .none kV10 dc10 pm10 an10 cd10 ct10), sl10⟩) (c10 : PySem.W.codeIn K cd10 "join_level" = true) (k10 : PySem.W.keepIn K (.ref f10) = true)
    {f11 : Addr} {od11 an11 : Option Addr} {sl11 : Array (Option Value)} {oc11 kV11 dc11 pm11 cd11 ct11 : Value} (a11 : PySem.W.nsIn K mainGlobals "longer_paths" = some (some (.ref f11))) (l11 : K.lookup f11 = some ⟨oc11, od11, .func (PySem.W.fnOf "longer_paths" "longer_paths" (defArgs s_longer_paths) (defBody s_longer_paths) (defScope s_longer_paths) .none kV11 dc11 pm11 an11 cd11 ct11), sl11⟩) (c11 : PySem.W.codeIn K cd11 "longer_paths" = true) (k11 : PySem.W.keepIn K (.ref f11) = true)
    {f12 : Addr} {od12 an12 : Option Addr} {sl12 : Array (Option Value)} {oc12 kV12 dc12 pm12 cd12 ct12 : Value} (a12 : PySem.W.nsIn K mainGlobals "best_path" = some (some (.ref f12))) (l12 : K.lookup f12 = some ⟨oc12, od12, .func (PySem.W.fnOf "best_path" "best_path" (defArgs s_best_path) (defBody s_best_path) (defScope s_best_path) .none kV12 dc12 pm12 an12 cd12 ct12), sl12⟩) (c12 : PySem.W.codeIn K cd12 "best_path" = true) (k12 : PySem.W.keepIn K (.ref f12) = true)
    {f13 : Addr} {od13 an13 : Option Addr} {sl13 : Array (Option Value)} {oc13 kV13 dc13 pm13 cd13 ct13 : Value} (a13 : PySem.W.nsIn K mainGlobals "best_division" = some (some (.ref f13))) (l13 : K.lookup f13 = some ⟨oc13, od13, .func (PySem.W.fnOf "best_division" "best_division" (defArgs s_best_division) (defBody s_best_division) (defScope s_best_division) .none kV13 dc13 pm13 an13 cd13 ct13), sl13⟩) (c13 : PySem.W.codeIn K cd13 "best_division" = true) (k13 : PySem.W.keepIn K (.ref f13) = true)
    {f14 : Addr} {od14 an14 : Option Addr} {sl14 : Array (Option Value)} {oc14 kV14 dc14 pm14 cd14 ct14 : Value} (a14 : PySem.W.nsIn K mainGlobals "is_path" = some (some (.ref f14))) (l14 : K.lookup f14 = some ⟨oc14, od14, .func (PySem.W.fnOf "is_path" "is_path" (defArgs s_is_path) (defBody s_is_path) (defScope s_is_path) .none kV14 dc14 pm14 an14 cd14 ct14), sl14⟩) (c14 : PySem.W.codeIn K cd14 "is_path" = true) (k14 : PySem.W.keepIn K (.ref f14) = true)
    {f15 : Addr} {od15 an15 : Option Addr} {sl15 : Array (Option Value)} {oc15 kV15 dc15 pm15 cd15 ct15 : Value} (a15 : PySem.W.nsIn K mainGlobals "is_division" = some (some (.ref f15))) (l15 : K.lookup f15 = some ⟨oc15, od15, .func (PySem.W.fnOf "is_division" "is_division" (defArgs s_is_division) (defBody s_is_division) (defScope s_is_division) .none kV15 dc15 pm15 an15 cd15 ct15), sl15⟩) (c15 : PySem.W.codeIn K cd15 "is_division" = true) (k15 : PySem.W.keepIn K (.ref f15) = true)
    {f16 : Addr} {od16 an16 : Option Addr} {sl16 : Array (Option Value)} {oc16 kV16 dc16 pm16 cd16 ct16 : Value} (a16 : PySem.W.nsIn K mainGlobals "height_of" = some (some (.ref f16))) (l16 : K.lookup f16 = some ⟨oc16, od16, .func (PySem.W.fnOf "height_of" "height_of" (defArgs s_height_of) (defBody s_height_of) (defScope s_height_of) .none kV16 dc16 pm16 an16 cd16 ct16), sl16⟩) (c16 : PySem.W.codeIn K cd16 "height_of" = true) (k16 : PySem.W.keepIn K (.ref f16) = true)
    {f17 : Addr} {od17 an17 : Option Addr} {sl17 : Array (Option Value)} {oc17 kV17 dc17 pm17 cd17 ct17 : Value} (a17 : PySem.W.nsIn K mainGlobals "width_of" = some (some (.ref f17))) (l17 : K.lookup f17 = some ⟨oc17, od17, .func (PySem.W.fnOf "width_of" "width_of" (defArgs s_width_of) (defBody s_width_of) (defScope s_width_of) .none kV17 dc17 pm17 an17 cd17 ct17), sl17⟩) (c17 : PySem.W.codeIn K cd17 "width_of" = true) (k17 : PySem.W.keepIn K (.ref f17) = true)
    {f18 : Addr} {od18 an18 : Option Addr} {sl18 : Array (Option Value)} {oc18 kV18 dc18 pm18 cd18 ct18 : Value} (a18 : PySem.W.nsIn K mainGlobals "check_join" = some (some (.ref f18))) (l18 : K.lookup f18 = some ⟨oc18, od18, .func (PySem.W.fnOf "check_join" "check_join" (defArgs s_check_join) (defBody s_check_join) (defScope s_check_join) .none kV18 dc18 pm18 an18 cd18 ct18), sl18⟩) (c18 : PySem.W.codeIn K cd18 "check_join" = true) (k18 : PySem.W.keepIn K (.ref f18) = true)
    {f19 : Addr} {od19 an19 : Option Addr} {sl19 : Array (Option Value)} {oc19 kV19 dc19 pm19 cd19 ct19 : Value} (a19 : PySem.W.nsIn K mainGlobals "detour_level" = some (some (.ref f19))) (l19 : K.lookup f19 = some ⟨oc19, od19, .func (PySem.W.fnOf "detour_level" "detour_level" (defArgs s_detour_level) (defBody s_detour_level) (defScope s_detour_level) .none kV19 dc19 pm19 an19 cd19 ct19), sl19⟩) (c19 : PySem.W.codeIn K cd19 "detour_level" = true) (k19 : PySem.W.keepIn K (.ref f19) = true)
    {f20 : Addr} {od20 an20 : Option Addr} {sl20 : Array (Option Value)} {oc20 kV20 dc20 pm20 cd20 ct20 : Value} (a20 : PySem.W.nsIn K mainGlobals "is_within" = some (some (.ref f20))) (l20 : K.lookup f20 = some ⟨oc20, od20, .func (PySem.W.fnOf "is_within" "is_within" (defArgs s_is_within) (defBody s_is_within) (defScope s_is_within) .none kV20 dc20 pm20 an20 cd20 ct20), sl20⟩) (c20 : PySem.W.codeIn K cd20 "is_within" = true) (k20 : PySem.W.keepIn K (.ref f20) = true)
    {f21 : Addr} {od21 an21 : Option Addr} {sl21 : Array (Option Value)} {oc21 kV21 dc21 pm21 cd21 ct21 : Value} (a21 : PySem.W.nsIn K mainGlobals "select_pairs" = some (some (.ref f21))) (l21 : K.lookup f21 = some ⟨oc21, od21, .func (PySem.W.fnOf "select_pairs" "select_pairs" (defArgs s_select_pairs) (defBody s_select_pairs) (defScope s_select_pairs) .none kV21 dc21 pm21 an21 cd21 ct21), sl21⟩) (c21 : PySem.W.codeIn K cd21 "select_pairs" = true) (k21 : PySem.W.keepIn K (.ref f21) = true)
    {f22 : Addr} {od22 an22 : Option Addr} {sl22 : Array (Option Value)} {oc22 kV22 dc22 pm22 cd22 ct22 : Value} (a22 : PySem.W.nsIn K mainGlobals "_law_draws" = some (some (.ref f22))) (l22 : K.lookup f22 = some ⟨oc22, od22, .func (PySem.W.fnOf "_law_draws" "_law_draws" (defArgs s_L_draws) (defBody s_L_draws) (defScope s_L_draws) .none kV22 dc22 pm22 an22 cd22 ct22), sl22⟩) (c22 : PySem.W.codeIn K cd22 "_law_draws" = true) (k22 : PySem.W.keepIn K (.ref f22) = true)
    {f23 : Addr} {od23 an23 : Option Addr} {sl23 : Array (Option Value)} {oc23 kV23 dc23 pm23 cd23 ct23 : Value} (a23 : PySem.W.nsIn K mainGlobals "_law_next" = some (some (.ref f23))) (l23 : K.lookup f23 = some ⟨oc23, od23, .func (PySem.W.fnOf "_law_next" "_law_next" (defArgs s_L_next) (defBody s_L_next) (defScope s_L_next) .none kV23 dc23 pm23 an23 cd23 ct23), sl23⟩) (c23 : PySem.W.codeIn K cd23 "_law_next" = true) (k23 : PySem.W.keepIn K (.ref f23) = true)
    {f24 : Addr} {od24 an24 : Option Addr} {sl24 : Array (Option Value)} {oc24 kV24 dc24 pm24 cd24 ct24 : Value} (a24 : PySem.W.nsIn K mainGlobals "_law_one" = some (some (.ref f24))) (l24 : K.lookup f24 = some ⟨oc24, od24, .func (PySem.W.fnOf "_law_one" "_law_one" (defArgs s_L_one) (defBody s_L_one) (defScope s_L_one) .none kV24 dc24 pm24 an24 cd24 ct24), sl24⟩) (c24 : PySem.W.codeIn K cd24 "_law_one" = true) (k24 : PySem.W.keepIn K (.ref f24) = true)
    {f25 : Addr} {od25 an25 : Option Addr} {sl25 : Array (Option Value)} {oc25 kV25 dc25 pm25 cd25 ct25 : Value} (a25 : PySem.W.nsIn K mainGlobals "_law_odd" = some (some (.ref f25))) (l25 : K.lookup f25 = some ⟨oc25, od25, .func (PySem.W.fnOf "_law_odd" "_law_odd" (defArgs s_L_odd) (defBody s_L_odd) (defScope s_L_odd) .none kV25 dc25 pm25 an25 cd25 ct25), sl25⟩) (c25 : PySem.W.codeIn K cd25 "_law_odd" = true) (k25 : PySem.W.keepIn K (.ref f25) = true)
    {f26 : Addr} {od26 an26 : Option Addr} {sl26 : Array (Option Value)} {oc26 kV26 dc26 pm26 cd26 ct26 : Value} (a26 : PySem.W.nsIn K mainGlobals "_law_count" = some (some (.ref f26))) (l26 : K.lookup f26 = some ⟨oc26, od26, .func (PySem.W.fnOf "_law_count" "_law_count" (defArgs s_L_count) (defBody s_L_count) (defScope s_L_count) .none kV26 dc26 pm26 an26 cd26 ct26), sl26⟩) (c26 : PySem.W.codeIn K cd26 "_law_count" = true) (k26 : PySem.W.keepIn K (.ref f26) = true)
    {f27 : Addr} {od27 an27 : Option Addr} {sl27 : Array (Option Value)} {oc27 kV27 dc27 pm27 cd27 ct27 : Value} (a27 : PySem.W.nsIn K mainGlobals "_law_grades" = some (some (.ref f27))) (l27 : K.lookup f27 = some ⟨oc27, od27, .func (PySem.W.fnOf "_law_grades" "_law_grades" (defArgs s_L_grades) (defBody s_L_grades) (defScope s_L_grades) .none kV27 dc27 pm27 an27 cd27 ct27), sl27⟩) (c27 : PySem.W.codeIn K cd27 "_law_grades" = true) (k27 : PySem.W.keepIn K (.ref f27) = true)
    {f28 : Addr} {od28 an28 : Option Addr} {sl28 : Array (Option Value)} {oc28 kV28 dc28 pm28 cd28 ct28 : Value} (a28 : PySem.W.nsIn K mainGlobals "_law_level" = some (some (.ref f28))) (l28 : K.lookup f28 = some ⟨oc28, od28, .func (PySem.W.fnOf "_law_level" "_law_level" (defArgs s_L_level) (defBody s_L_level) (defScope s_L_level) .none kV28 dc28 pm28 an28 cd28 ct28), sl28⟩) (c28 : PySem.W.codeIn K cd28 "_law_level" = true) (k28 : PySem.W.keepIn K (.ref f28) = true)
    {f29 : Addr} {od29 an29 : Option Addr} {sl29 : Array (Option Value)} {oc29 kV29 dc29 pm29 cd29 ct29 : Value} (a29 : PySem.W.nsIn K mainGlobals "_law_nested" = some (some (.ref f29))) (l29 : K.lookup f29 = some ⟨oc29, od29, .func (PySem.W.fnOf "_law_nested" "_law_nested" (defArgs s_L_nested) (defBody s_L_nested) (defScope s_L_nested) .none kV29 dc29 pm29 an29 cd29 ct29), sl29⟩) (c29 : PySem.W.codeIn K cd29 "_law_nested" = true) (k29 : PySem.W.keepIn K (.ref f29) = true)
    {f30 : Addr} {od30 an30 : Option Addr} {sl30 : Array (Option Value)} {oc30 kV30 dc30 pm30 cd30 ct30 : Value} (a30 : PySem.W.nsIn K mainGlobals "_law_raised" = some (some (.ref f30))) (l30 : K.lookup f30 = some ⟨oc30, od30, .func (PySem.W.fnOf "_law_raised" "_law_raised" (defArgs s_L_raised) (defBody s_L_raised) (defScope s_L_raised) .none kV30 dc30 pm30 an30 cd30 ct30), sl30⟩) (c30 : PySem.W.codeIn K cd30 "_law_raised" = true) (k30 : PySem.W.keepIn K (.ref f30) = true)
    {f31 : Addr} {od31 an31 : Option Addr} {sl31 : Array (Option Value)} {oc31 kV31 dc31 pm31 cd31 ct31 : Value} (a31 : PySem.W.nsIn K mainGlobals "_law_levels" = some (some (.ref f31))) (l31 : K.lookup f31 = some ⟨oc31, od31, .func (PySem.W.fnOf "_law_levels" "_law_levels" (defArgs s_L_levels) (defBody s_L_levels) (defScope s_L_levels) .none kV31 dc31 pm31 an31 cd31 ct31), sl31⟩) (c31 : PySem.W.codeIn K cd31 "_law_levels" = true) (k31 : PySem.W.keepIn K (.ref f31) = true)
    {f32 : Addr} {od32 an32 : Option Addr} {sl32 : Array (Option Value)} {oc32 kV32 dc32 pm32 cd32 ct32 : Value} (a32 : PySem.W.nsIn K mainGlobals "_law_any" = some (some (.ref f32))) (l32 : K.lookup f32 = some ⟨oc32, od32, .func (PySem.W.fnOf "_law_any" "_law_any" (defArgs s_L_any) (defBody s_L_any) (defScope s_L_any) .none kV32 dc32 pm32 an32 cd32 ct32), sl32⟩) (c32 : PySem.W.codeIn K cd32 "_law_any" = true) (k32 : PySem.W.keepIn K (.ref f32) = true)
    {f33 : Addr} {od33 an33 : Option Addr} {sl33 : Array (Option Value)} {oc33 kV33 dc33 pm33 cd33 ct33 : Value} (a33 : PySem.W.nsIn K mainGlobals "_law_table" = some (some (.ref f33))) (l33 : K.lookup f33 = some ⟨oc33, od33, .func (PySem.W.fnOf "_law_table" "_law_table" (defArgs s_L_table) (defBody s_L_table) (defScope s_L_table) .none kV33 dc33 pm33 an33 cd33 ct33), sl33⟩) (c33 : PySem.W.codeIn K cd33 "_law_table" = true) (k33 : PySem.W.keepIn K (.ref f33) = true)
    {f34 : Addr} {od34 an34 : Option Addr} {sl34 : Array (Option Value)} {oc34 kV34 dc34 pm34 cd34 ct34 : Value} (a34 : PySem.W.nsIn K mainGlobals "_law_asked" = some (some (.ref f34))) (l34 : K.lookup f34 = some ⟨oc34, od34, .func (PySem.W.fnOf "_law_asked" "_law_asked" (defArgs s_L_asked) (defBody s_L_asked) (defScope s_L_asked) .none kV34 dc34 pm34 an34 cd34 ct34), sl34⟩) (c34 : PySem.W.codeIn K cd34 "_law_asked" = true) (k34 : PySem.W.keepIn K (.ref f34) = true)
    {f35 : Addr} {od35 an35 : Option Addr} {sl35 : Array (Option Value)} {oc35 kV35 dc35 pm35 cd35 ct35 : Value} (a35 : PySem.W.nsIn K mainGlobals "_law_told" = some (some (.ref f35))) (l35 : K.lookup f35 = some ⟨oc35, od35, .func (PySem.W.fnOf "_law_told" "_law_told" (defArgs s_L_told) (defBody s_L_told) (defScope s_L_told) .none kV35 dc35 pm35 an35 cd35 ct35), sl35⟩) (c35 : PySem.W.codeIn K cd35 "_law_told" = true) (k35 : PySem.W.keepIn K (.ref f35) = true)
    {f36 : Addr} {od36 an36 : Option Addr} {sl36 : Array (Option Value)} {oc36 kV36 dc36 pm36 cd36 ct36 : Value} (a36 : PySem.W.nsIn K mainGlobals "_law_due" = some (some (.ref f36))) (l36 : K.lookup f36 = some ⟨oc36, od36, .func (PySem.W.fnOf "_law_due" "_law_due" (defArgs s_L_due) (defBody s_L_due) (defScope s_L_due) .none kV36 dc36 pm36 an36 cd36 ct36), sl36⟩) (c36 : PySem.W.codeIn K cd36 "_law_due" = true) (k36 : PySem.W.keepIn K (.ref f36) = true)
    {f37 : Addr} {od37 an37 : Option Addr} {sl37 : Array (Option Value)} {oc37 kV37 dc37 pm37 cd37 ct37 : Value} (a37 : PySem.W.nsIn K mainGlobals "_law_named" = some (some (.ref f37))) (l37 : K.lookup f37 = some ⟨oc37, od37, .func (PySem.W.fnOf "_law_named" "_law_named" (defArgs s_L_named) (defBody s_L_named) (defScope s_L_named) .none kV37 dc37 pm37 an37 cd37 ct37), sl37⟩) (c37 : PySem.W.codeIn K cd37 "_law_named" = true) (k37 : PySem.W.keepIn K (.ref f37) = true)
    {f38 : Addr} {od38 an38 : Option Addr} {sl38 : Array (Option Value)} {oc38 kV38 dc38 pm38 cd38 ct38 : Value} (a38 : PySem.W.nsIn K mainGlobals "_law_name" = some (some (.ref f38))) (l38 : K.lookup f38 = some ⟨oc38, od38, .func (PySem.W.fnOf "_law_name" "_law_name" (defArgs s_L_name) (defBody s_L_name) (defScope s_L_name) .none kV38 dc38 pm38 an38 cd38 ct38), sl38⟩) (c38 : PySem.W.codeIn K cd38 "_law_name" = true) (k38 : PySem.W.keepIn K (.ref f38) = true)
    {f39 : Addr} {od39 an39 : Option Addr} {sl39 : Array (Option Value)} {oc39 kV39 dc39 pm39 cd39 ct39 : Value} (a39 : PySem.W.nsIn K mainGlobals "law" = some (some (.ref f39))) (l39 : K.lookup f39 = some ⟨oc39, od39, .func (PySem.W.fnOf "law" "law" (defArgs s_law) (defBody s_law) (defScope s_law) .none kV39 dc39 pm39 an39 cd39 ct39), sl39⟩) (c39 : PySem.W.codeIn K cd39 "law" = true) (k39 : PySem.W.keepIn K (.ref f39) = true)
    {C_MergeError C_NoSuchStep C_InvalidLevel C_InvalidTable C_UnequalSizes : Addr}
    {C_NoSuchItem f_NoSuchItem : Addr} {nm_NoSuchItem q_NoSuchItem : Str} {N_NoSuchItem : Addr} {bs_NoSuchItem : List Value} {sn_NoSuchItem : List Str} {sub_NoSuchItem : List Value} {ab_NoSuchItem : Bool} {col_NoSuchItem : Option Bool} {dd_NoSuchItem : Option Addr} {m0_NoSuchItem m1_NoSuchItem m2_NoSuchItem m3_NoSuchItem m5_NoSuchItem : Option Value} {od_NoSuchItem an_NoSuchItem : Option Addr} {sl_NoSuchItem : Array (Option Value)} {oc_NoSuchItem dc_NoSuchItem pm_NoSuchItem cd_NoSuchItem ct_NoSuchItem : Value}
    (aC_NoSuchItem : PySem.W.nsIn K mainGlobals "NoSuchItem" = some (some (.ref C_NoSuchItem)))
    (xL_NoSuchItem : K.lookup C_NoSuchItem = some (excClassObj nm_NoSuchItem q_NoSuchItem C_NoSuchItem N_NoSuchItem bs_NoSuchItem [.type "LookupError", .type "Exception", .type "BaseException", .type "object"] true sn_NoSuchItem sub_NoSuchItem ab_NoSuchItem col_NoSuchItem dd_NoSuchItem m0_NoSuchItem m1_NoSuchItem m2_NoSuchItem m3_NoSuchItem m5_NoSuchItem "LookupError.__new__"))
    (sa_NoSuchItem : PySem.W.findIn K (.ref C_NoSuchItem) "__setattr__" = some (some (.builtin "object.__setattr__")))
    (ga_NoSuchItem : PySem.W.findIn K (.ref C_NoSuchItem) "__getattribute__" = some (some (.builtin "BaseException.__getattribute__")))
    (gg_NoSuchItem : PySem.W.findIn K (.ref C_NoSuchItem) "__getattr__" = some none)
    (nb_NoSuchItem : PySem.W.findIn K (.ref C_NoSuchItem) "item" = some none)
    (in_NoSuchItem : PySem.W.findIn K (.ref C_NoSuchItem) "__init__" = some (some (.ref f_NoSuchItem)))
    (tf_NoSuchItem : PySem.W.typeIn K (.ref f_NoSuchItem) = some (.type "function"))
    (lf_NoSuchItem : K.lookup f_NoSuchItem = some ⟨oc_NoSuchItem, od_NoSuchItem, .func (PySem.W.fnOf "__init__" "NoSuchItem.__init__" (PySem.Err_NoSuchItem.iA ⟨28, 17, 28, 21⟩ ⟨28, 23, 28, 27⟩) (PySem.Err_NoSuchItem.iB ⟨29, 8, 29, 12⟩ ⟨29, 8, 29, 17⟩ ⟨29, 20, 29, 24⟩ ⟨29, 8, 29, 24⟩) PySem.Err_NoSuchItem.iS .none .none dc_NoSuchItem pm_NoSuchItem an_NoSuchItem cd_NoSuchItem ct_NoSuchItem), sl_NoSuchItem⟩)
    (cf_NoSuchItem : PySem.W.codeIn K cd_NoSuchItem "NoSuchItem.__init__" = true)
    (kC_NoSuchItem : PySem.W.keepIn K (.ref C_NoSuchItem) = true)
    (eC_NoSuchItem : PySem.W.subIn K (.ref C_NoSuchItem) (.type "BaseException") = some true)
    (tC_NoSuchItem : PySem.W.typeIn K (.ref C_NoSuchItem) = some (.type "type"))
    (hC_NoSuchItem : PySem.W.hasDictIn K C_NoSuchItem = true)
    (te_NoSuchItem : PySem.W.exmOne K (.ref C_NoSuchItem) (.ref C_NoSuchItem) = some true)
    (ha_NoSuchItem : PySem.W.findIn K (.ref C_NoSuchItem) "__class__" = some (some (.builtin "object.__class__")))
    (hn_NoSuchItem : PySem.W.specialIn K (.builtin "object.__class__") "__get__" = some (some (.builtin "getset_descriptor.__get__")))
    (ht_NoSuchItem : PySem.W.takesIn K (.builtin "object.__class__") = some true)
    (hm_NoSuchItem : PySem.W.mroIn K C_NoSuchItem (.type "object") = some true)
    {C_SameItem f_SameItem : Addr} {nm_SameItem q_SameItem : Str} {N_SameItem : Addr} {bs_SameItem : List Value} {sn_SameItem : List Str} {sub_SameItem : List Value} {ab_SameItem : Bool} {col_SameItem : Option Bool} {dd_SameItem : Option Addr} {m0_SameItem m1_SameItem m2_SameItem m3_SameItem m5_SameItem : Option Value} {od_SameItem an_SameItem : Option Addr} {sl_SameItem : Array (Option Value)} {oc_SameItem dc_SameItem pm_SameItem cd_SameItem ct_SameItem : Value}
    (aC_SameItem : PySem.W.nsIn K mainGlobals "SameItem" = some (some (.ref C_SameItem)))
    (xL_SameItem : K.lookup C_SameItem = some (excClassObj nm_SameItem q_SameItem C_SameItem N_SameItem bs_SameItem [.ref C_MergeError, .type "ValueError", .type "Exception", .type "BaseException", .type "object"] true sn_SameItem sub_SameItem ab_SameItem col_SameItem dd_SameItem m0_SameItem m1_SameItem m2_SameItem m3_SameItem m5_SameItem "ValueError.__new__"))
    (sa_SameItem : PySem.W.findIn K (.ref C_SameItem) "__setattr__" = some (some (.builtin "object.__setattr__")))
    (ga_SameItem : PySem.W.findIn K (.ref C_SameItem) "__getattribute__" = some (some (.builtin "BaseException.__getattribute__")))
    (gg_SameItem : PySem.W.findIn K (.ref C_SameItem) "__getattr__" = some none)
    (nb_SameItem : PySem.W.findIn K (.ref C_SameItem) "item" = some none)
    (in_SameItem : PySem.W.findIn K (.ref C_SameItem) "__init__" = some (some (.ref f_SameItem)))
    (tf_SameItem : PySem.W.typeIn K (.ref f_SameItem) = some (.type "function"))
    (lf_SameItem : K.lookup f_SameItem = some ⟨oc_SameItem, od_SameItem, .func (PySem.W.fnOf "__init__" "SameItem.__init__" (PySem.Err_SameItem.iA ⟨12, 17, 12, 21⟩ ⟨12, 23, 12, 27⟩) (PySem.Err_SameItem.iB ⟨13, 8, 13, 12⟩ ⟨13, 8, 13, 17⟩ ⟨13, 20, 13, 24⟩ ⟨13, 8, 13, 24⟩) PySem.Err_SameItem.iS .none .none dc_SameItem pm_SameItem an_SameItem cd_SameItem ct_SameItem), sl_SameItem⟩)
    (cf_SameItem : PySem.W.codeIn K cd_SameItem "SameItem.__init__" = true)
    (kC_SameItem : PySem.W.keepIn K (.ref C_SameItem) = true)
    (eC_SameItem : PySem.W.subIn K (.ref C_SameItem) (.type "BaseException") = some true)
    (tC_SameItem : PySem.W.typeIn K (.ref C_SameItem) = some (.type "type"))
    (hC_SameItem : PySem.W.hasDictIn K C_SameItem = true)
    (te_SameItem : PySem.W.exmOne K (.ref C_SameItem) (.ref C_SameItem) = some true)
    (ha_SameItem : PySem.W.findIn K (.ref C_SameItem) "__class__" = some (some (.builtin "object.__class__")))
    (hn_SameItem : PySem.W.specialIn K (.builtin "object.__class__") "__get__" = some (some (.builtin "getset_descriptor.__get__")))
    (ht_SameItem : PySem.W.takesIn K (.builtin "object.__class__") = some true)
    (hm_SameItem : PySem.W.mroIn K C_SameItem (.type "object") = some true)
    {C_UnknownLimit f_UnknownLimit : Addr} {nm_UnknownLimit q_UnknownLimit : Str} {N_UnknownLimit : Addr} {bs_UnknownLimit : List Value} {sn_UnknownLimit : List Str} {sub_UnknownLimit : List Value} {ab_UnknownLimit : Bool} {col_UnknownLimit : Option Bool} {dd_UnknownLimit : Option Addr} {m0_UnknownLimit m1_UnknownLimit m2_UnknownLimit m3_UnknownLimit m5_UnknownLimit : Option Value} {od_UnknownLimit an_UnknownLimit : Option Addr} {sl_UnknownLimit : Array (Option Value)} {oc_UnknownLimit dc_UnknownLimit pm_UnknownLimit cd_UnknownLimit ct_UnknownLimit : Value}
    (aC_UnknownLimit : PySem.W.nsIn K mainGlobals "UnknownLimit" = some (some (.ref C_UnknownLimit)))
    (xL_UnknownLimit : K.lookup C_UnknownLimit = some (excClassObj nm_UnknownLimit q_UnknownLimit C_UnknownLimit N_UnknownLimit bs_UnknownLimit [.ref C_MergeError, .type "ValueError", .type "Exception", .type "BaseException", .type "object"] true sn_UnknownLimit sub_UnknownLimit ab_UnknownLimit col_UnknownLimit dd_UnknownLimit m0_UnknownLimit m1_UnknownLimit m2_UnknownLimit m3_UnknownLimit m5_UnknownLimit "ValueError.__new__"))
    (sa_UnknownLimit : PySem.W.findIn K (.ref C_UnknownLimit) "__setattr__" = some (some (.builtin "object.__setattr__")))
    (ga_UnknownLimit : PySem.W.findIn K (.ref C_UnknownLimit) "__getattribute__" = some (some (.builtin "BaseException.__getattribute__")))
    (gg_UnknownLimit : PySem.W.findIn K (.ref C_UnknownLimit) "__getattr__" = some none)
    (nb_UnknownLimit : PySem.W.findIn K (.ref C_UnknownLimit) "name" = some none)
    (in_UnknownLimit : PySem.W.findIn K (.ref C_UnknownLimit) "__init__" = some (some (.ref f_UnknownLimit)))
    (tf_UnknownLimit : PySem.W.typeIn K (.ref f_UnknownLimit) = some (.type "function"))
    (lf_UnknownLimit : K.lookup f_UnknownLimit = some ⟨oc_UnknownLimit, od_UnknownLimit, .func (PySem.W.fnOf "__init__" "UnknownLimit.__init__" (PySem.Err_UnknownLimit.iA ⟨16, 17, 16, 21⟩ ⟨16, 23, 16, 27⟩) (PySem.Err_UnknownLimit.iB ⟨17, 8, 17, 12⟩ ⟨17, 8, 17, 17⟩ ⟨17, 20, 17, 24⟩ ⟨17, 8, 17, 24⟩) PySem.Err_UnknownLimit.iS .none .none dc_UnknownLimit pm_UnknownLimit an_UnknownLimit cd_UnknownLimit ct_UnknownLimit), sl_UnknownLimit⟩)
    (cf_UnknownLimit : PySem.W.codeIn K cd_UnknownLimit "UnknownLimit.__init__" = true)
    (kC_UnknownLimit : PySem.W.keepIn K (.ref C_UnknownLimit) = true)
    (eC_UnknownLimit : PySem.W.subIn K (.ref C_UnknownLimit) (.type "BaseException") = some true)
    (tC_UnknownLimit : PySem.W.typeIn K (.ref C_UnknownLimit) = some (.type "type"))
    (hC_UnknownLimit : PySem.W.hasDictIn K C_UnknownLimit = true)
    (te_UnknownLimit : PySem.W.exmOne K (.ref C_UnknownLimit) (.ref C_UnknownLimit) = some true)
    (ha_UnknownLimit : PySem.W.findIn K (.ref C_UnknownLimit) "__class__" = some (some (.builtin "object.__class__")))
    (hn_UnknownLimit : PySem.W.specialIn K (.builtin "object.__class__") "__get__" = some (some (.builtin "getset_descriptor.__get__")))
    (ht_UnknownLimit : PySem.W.takesIn K (.builtin "object.__class__") = some true)
    (hm_UnknownLimit : PySem.W.mroIn K C_UnknownLimit (.type "object") = some true)
    (aC_MergeError : PySem.W.nsIn K mainGlobals "MergeError" = some (some (.ref C_MergeError)))
    (aC_NoSuchStep : PySem.W.nsIn K mainGlobals "NoSuchStep" = some (some (.ref C_NoSuchStep)))
    (aC_InvalidLevel : PySem.W.nsIn K mainGlobals "InvalidLevel" = some (some (.ref C_InvalidLevel)))
    (aC_InvalidTable : PySem.W.nsIn K mainGlobals "InvalidTable" = some (some (.ref C_InvalidTable)))
    (aC_UnequalSizes : PySem.W.nsIn K mainGlobals "UnequalSizes" = some (some (.ref C_UnequalSizes)))
    (zf_ValueError : PySem.W.nsIn K mainGlobals "ValueError" = some none)
    (zf_LookupError : PySem.W.nsIn K mainGlobals "LookupError" = some none)
    (xSI : PySem.W.exmOne K (.ref C_SameItem) (.ref C_NoSuchItem) = some false)
    (xSM : PySem.W.exmOne K (.ref C_SameItem) (.ref C_MergeError) = some true)
    (iIL : PySem.W.kitOne K (.ref C_NoSuchItem) (.type "LookupError") = some true)
    (iIA : PySem.W.kitAny K (.ref C_NoSuchItem) [.type "ValueError", .ref C_NoSuchStep] = some false)
    (iSS : PySem.W.kitOne K (.ref C_SameItem) (.ref C_SameItem) = some true)
    (iSA : PySem.W.kitAny K (.ref C_SameItem) [.ref C_InvalidLevel, .ref C_InvalidTable, .ref C_UnequalSizes, .ref C_UnknownLimit, .type "LookupError"] = some false)
    (iUM : PySem.W.kitOne K (.ref C_UnknownLimit) (.ref C_MergeError) = some true)
    (iUV : PySem.W.kitOne K (.ref C_UnknownLimit) (.type "ValueError") = some true)
    (iUA : PySem.W.kitAny K (.ref C_UnknownLimit) [.ref C_SameItem, .ref C_UnequalSizes, .ref C_InvalidTable, .type "LookupError"] = some false)
    {t_LEVEL : Tok} (n_LEVEL : PySem.W.nsIn K mainGlobals "LEVEL" = some (some (.int 1000000000000 t_LEVEL))) {ad_LIMITS : Addr} {di_LIMITS : Option Addr} {sl_LIMITS : Array (Option Value)} {nn_LIMITS : Nat} {tk0_LIMITS : Tok} {tk1_LIMITS : Tok} {tk2_LIMITS : Tok} (n_LIMITS : PySem.W.nsIn K mainGlobals "LIMITS" = some (some (.ref ad_LIMITS))) (m_LIMITS : K.lookup ad_LIMITS = some ⟨.type "tuple", di_LIMITS, .seq #[.str "level" tk0_LIMITS, .str "join" tk1_LIMITS, .str "gap" tk2_LIMITS] nn_LIMITS, sl_LIMITS⟩) (z1 : PySem.W.nsIn K mainGlobals "len" = some none) (z2 : PySem.W.nsIn K mainGlobals "list" = some none) (z3 : PySem.W.nsIn K mainGlobals "int" = some none) (z4 : PySem.W.nsIn K mainGlobals "range" = some none) (z5 : PySem.W.nsIn K mainGlobals "sorted" = some none) (z6 : PySem.W.nsIn K mainGlobals "set" = some none) (z7 : PySem.W.nsIn K mainGlobals "tuple" = some none) (z8 : PySem.W.nsIn K mainGlobals "min" = some none) (z9 : PySem.W.nsIn K mainGlobals "max" = some none) (z10 : PySem.W.nsIn K mainGlobals "isinstance" = some none) (z11 : PySem.W.nsIn K mainGlobals "bool" = some none) (z12 : PySem.W.nsIn K mainGlobals "str" = some none) (z13 : PySem.W.nsIn K mainGlobals "all" = some none) (z14 : PySem.W.nsIn K mainGlobals "zip" = some none) (z15 : PySem.W.nsIn K mainGlobals "repr" = some none) (z16 : PySem.W.nsIn K mainGlobals "enumerate" = some none) (z17 : PySem.W.nsIn K mainGlobals "abs" = some none) (z18 : PySem.W.nsIn K mainGlobals "sum" = some none) (z19 : PySem.W.nsIn K mainGlobals "dict" = some none) :
    ∃ fd : FuncData, (∀ (s : Shared) (v : Value), BindsTo s fd ⟨[v], []⟩ [("_law_script", v)]) ∧ ∀ base : Heap, K.In base → base.Ns mainGlobals mg → GOk l.prog w K mg base 10 fa fd ["_law_script"] (sp_law K) := by
  have e := hfa.symm.trans (PySem.W.mg_of X G a39)
  cases e
  have B : Bi mg := ⟨PySem.W.mg_none_of X G z1, PySem.W.mg_none_of X G z2, PySem.W.mg_none_of X G z3, PySem.W.mg_none_of X G z4, PySem.W.mg_none_of X G z5, PySem.W.mg_none_of X G z6, PySem.W.mg_none_of X G z7, PySem.W.mg_none_of X G z8, PySem.W.mg_none_of X G z9, PySem.W.mg_none_of X G z10, PySem.W.mg_none_of X G z11, PySem.W.mg_none_of X G z12, PySem.W.mg_none_of X G z13, PySem.W.mg_none_of X G z14, PySem.W.mg_none_of X G z15, PySem.W.mg_none_of X G z16, PySem.W.mg_none_of X G z17, PySem.W.mg_none_of X G z18, PySem.W.mg_none_of X G z19⟩
  have g_LEVEL : ∃ t, mg "LEVEL" = some (.int 1000000000000 t) := ⟨_, PySem.W.mg_of X G n_LEVEL⟩
  have g_LIMITS : ∃ (a : Addr) (o : Obj) (its : Array Value) (n : Nat), mg "LIMITS" = some (.ref a) ∧ K.lookup a = some o ∧ o.cls = .type "tuple" ∧ o.data = .seq its n ∧ its.size ≤ sizeLine ∧ Vals [.str "level", .str "join", .str "gap"] its.toList := ⟨_, _, _, _, PySem.W.mg_of X G n_LIMITS, m_LIMITS, rfl, rfl, (by show 3 ≤ sizeLine; decide), .cons ⟨_, rfl⟩ (.cons ⟨_, rfl⟩ (.cons ⟨_, rfl⟩ (.nil)))⟩
  have d_is_whole := df_mk (st := s_is_whole) (ps := ["value"]) X G a1 l1 c1 k1 (fun _ _ _ _ _ _ us hl => match us, hl with | [_], _ => rfl)
  have d_is_item := df_mk (st := s_is_item) (ps := ["table", "value"]) X G a2 l2 c2 k2 (fun _ _ _ _ _ _ us hl => match us, hl with | [_, _], _ => rfl)
  have d_check_items := df_mk (st := s_check_items) (ps := ["table", "one", "other"]) X G a3 l3 c3 k3 (fun _ _ _ _ _ _ us hl => match us, hl with | [_, _, _], _ => rfl)
  have d_check_ends := df_mk (st := s_check_ends) (ps := ["table", "one", "other"]) X G a4 l4 c4 k4 (fun _ _ _ _ _ _ us hl => match us, hl with | [_, _, _], _ => rfl)
  have d_level_between := df_mk (st := s_level_between) (ps := ["table", "one", "other"]) X G a5 l5 c5 k5 (fun _ _ _ _ _ _ us hl => match us, hl with | [_, _, _], _ => rfl)
  have d_pairs_of := df_mk (st := s_pairs_of) (ps := ["table"]) X G a6 l6 c6 k6 (fun _ _ _ _ _ _ us hl => match us, hl with | [_], _ => rfl)
  have d_level_grid := df_mk (st := s_level_grid) (ps := ["table"]) X G a7 l7 c7 k7 (fun _ _ _ _ _ _ us hl => match us, hl with | [_], _ => rfl)
  have d_lowest_grid := df_mk (st := s_lowest_grid) (ps := ["grid"]) X G a8 l8 c8 k8 (fun _ _ _ _ _ _ us hl => match us, hl with | [_], _ => rfl)
  have d_join_grid := df_mk (st := s_join_grid) (ps := ["table"]) X G a9 l9 c9 k9 (fun _ _ _ _ _ _ us hl => match us, hl with | [_], _ => rfl)
  have d_join_level := df_mk (st := s_join_level) (ps := ["table", "one", "other"]) X G a10 l10 c10 k10 (fun _ _ _ _ _ _ us hl => match us, hl with | [_, _, _], _ => rfl)
  have d_longer_paths := df_mk (st := s_longer_paths) (ps := ["table", "paths", "height"]) X G a11 l11 c11 k11 (fun _ _ _ _ _ _ us hl => match us, hl with | [_, _, _], _ => rfl)
  have d_best_path := df_mk (st := s_best_path) (ps := ["table", "one", "other"]) X G a12 l12 c12 k12 (fun _ _ _ _ _ _ us hl => match us, hl with | [_, _, _], _ => rfl)
  have d_best_division := df_mk (st := s_best_division) (ps := ["table", "one", "other"]) X G a13 l13 c13 k13 (fun _ _ _ _ _ _ us hl => match us, hl with | [_, _, _], _ => rfl)
  have d_is_path := df_mk (st := s_is_path) (ps := ["table", "value"]) X G a14 l14 c14 k14 (fun _ _ _ _ _ _ us hl => match us, hl with | [_, _], _ => rfl)
  have d_is_division := df_mk (st := s_is_division) (ps := ["table", "value"]) X G a15 l15 c15 k15 (fun _ _ _ _ _ _ us hl => match us, hl with | [_, _], _ => rfl)
  have d_height_of := df_mk (st := s_height_of) (ps := ["table", "path"]) X G a16 l16 c16 k16 (fun _ _ _ _ _ _ us hl => match us, hl with | [_, _], _ => rfl)
  have d_width_of := df_mk (st := s_width_of) (ps := ["table", "division"]) X G a17 l17 c17 k17 (fun _ _ _ _ _ _ us hl => match us, hl with | [_, _], _ => rfl)
  have d_check_join := df_mk (st := s_check_join) (ps := ["table", "one", "other", "value"]) X G a18 l18 c18 k18 (fun _ _ _ _ _ _ us hl => match us, hl with | [_, _, _, _], _ => rfl)
  have d_detour_level := df_mk (st := s_detour_level) (ps := ["table", "one", "other"]) X G a19 l19 c19 k19 (fun _ _ _ _ _ _ us hl => match us, hl with | [_, _, _], _ => rfl)
  have d_is_within := df_mk (st := s_is_within) (ps := ["level", "join", "limits"]) X G a20 l20 c20 k20 (fun _ _ _ _ _ _ us hl => match us, hl with | [_, _, _], _ => rfl)
  have d_select_pairs : KwDf K mg "select_pairs" s_select_pairs f21 := ⟨PySem.W.mg_of X G a21, k21, _, _, _, _, _, _, _, _, _, l21, c21⟩
  have d_L_draws := df_mk (st := s_L_draws) (ps := ["_law_script"]) X G a22 l22 c22 k22 (fun _ _ _ _ _ _ us hl => match us, hl with | [_], _ => rfl)
  have d_L_next := df_mk (st := s_L_next) (ps := ["_law_drawn", "_law_many"]) X G a23 l23 c23 k23 (fun _ _ _ _ _ _ us hl => match us, hl with | [_, _], _ => rfl)
  have d_L_one := df_mk (st := s_L_one) (ps := ["_law_drawn", "_law_items"]) X G a24 l24 c24 k24 (fun _ _ _ _ _ _ us hl => match us, hl with | [_, _], _ => rfl)
  have d_L_odd := df_mk (st := s_L_odd) (ps := ["_law_drawn"]) X G a25 l25 c25 k25 (fun _ _ _ _ _ _ us hl => match us, hl with | [_], _ => rfl)
  have d_L_count := df_mk (st := s_L_count) (ps := ["_law_drawn", "_law_most"]) X G a26 l26 c26 k26 (fun _ _ _ _ _ _ us hl => match us, hl with | [_, _], _ => rfl)
  have d_L_grades := df_mk (st := s_L_grades) (ps := ["_law_drawn"]) X G a27 l27 c27 k27 (fun _ _ _ _ _ _ us hl => match us, hl with | [_], _ => rfl)
  have d_L_level := df_mk (st := s_L_level) (ps := ["_law_table_here", "_law_one_here", "_law_other"]) X G a28 l28 c28 k28 (fun _ _ _ _ _ _ us hl => match us, hl with | [_, _, _], _ => rfl)
  have d_L_nested := df_mk (st := s_L_nested) (ps := ["_law_drawn", "_law_count_here", "_law_grades_here"]) X G a29 l29 c29 k29 (fun _ _ _ _ _ _ us hl => match us, hl with | [_, _, _], _ => rfl)
  have d_L_raised := df_mk (st := s_L_raised) (ps := ["_law_drawn", "_law_table_here", "_law_grades_here"]) X G a30 l30 c30 k30 (fun _ _ _ _ _ _ us hl => match us, hl with | [_, _, _], _ => rfl)
  have d_L_levels := df_mk (st := s_L_levels) (ps := ["_law_drawn", "_law_many", "_law_grades_here"]) X G a31 l31 c31 k31 (fun _ _ _ _ _ _ us hl => match us, hl with | [_, _, _], _ => rfl)
  have d_L_any := df_mk (st := s_L_any) (ps := ["_law_drawn", "_law_many", "_law_wide"]) X G a32 l32 c32 k32 (fun _ _ _ _ _ _ us hl => match us, hl with | [_, _, _], _ => rfl)
  have d_L_table := df_mk (st := s_L_table) (ps := ["_law_drawn", "_law_count_here"]) X G a33 l33 c33 k33 (fun _ _ _ _ _ _ us hl => match us, hl with | [_, _], _ => rfl)
  have d_L_asked := df_mk (st := s_L_asked) (ps := ["_law_table_here", "_law_door", "_law_one_here", "_law_other", "_law_value"]) X G a34 l34 c34 k34 (fun _ _ _ _ _ _ us hl => match us, hl with | [_, _, _, _, _], _ => rfl)
  have d_L_told := df_mk (st := s_L_told) (ps := ["_law_table_here", "_law_door", "_law_one_here", "_law_other", "_law_value"]) X G a35 l35 c35 k35 (fun _ _ _ _ _ _ us hl => match us, hl with | [_, _, _, _, _], _ => rfl)
  have d_L_due := df_mk (st := s_L_due) (ps := ["_law_table_here", "_law_door", "_law_one_here", "_law_other"]) X G a36 l36 c36 k36 (fun _ _ _ _ _ _ us hl => match us, hl with | [_, _, _, _], _ => rfl)
  have d_L_named := df_mk (st := s_L_named) (ps := ["_law_table_here", "_law_way"]) X G a37 l37 c37 k37 (fun _ _ _ _ _ _ us hl => match us, hl with | [_, _], _ => rfl)
  have d_L_name := df_mk (st := s_L_name) (ps := ["_law_table_here", "_law_way"]) X G a38 l38 c38 k38 (fun _ _ _ _ _ _ us hl => match us, hl with | [_, _], _ => rfl)
  have e_NoSuchItem : PySem.Err_NoSuchItem.Txt K mg C_NoSuchItem f_NoSuchItem :=
    { gC := PySem.W.mg_of X G aC_NoSuchItem, cls := ⟨nm_NoSuchItem, q_NoSuchItem, N_NoSuchItem, bs_NoSuchItem, _, sn_NoSuchItem, sub_NoSuchItem, ab_NoSuchItem, col_NoSuchItem, dd_NoSuchItem, m0_NoSuchItem, m1_NoSuchItem, m2_NoSuchItem, m3_NoSuchItem, m5_NoSuchItem, xL_NoSuchItem, by first | rfl | decide +kernel⟩, sa := sa_NoSuchItem, ga := ga_NoSuchItem, gg := gg_NoSuchItem, noN := nb_NoSuchItem, iC := in_NoSuchItem, tC := tf_NoSuchItem, kC := kC_NoSuchItem, exC := eC_NoSuchItem, tyC := tC_NoSuchItem, hdC := hC_NoSuchItem, te := te_NoSuchItem,
      fn := ⟨_, _, _, _, _, _, _, _, _, _, _, _, _, _, lf_NoSuchItem, cf_NoSuchItem⟩ }
  have x_NoSuchItem : ExcC K C_NoSuchItem := ⟨ga_NoSuchItem, gg_NoSuchItem, eC_NoSuchItem, hC_NoSuchItem, ha_NoSuchItem, hn_NoSuchItem, ht_NoSuchItem, hm_NoSuchItem⟩
  have e_SameItem : PySem.Err_SameItem.Txt K mg C_SameItem f_SameItem :=
    { gC := PySem.W.mg_of X G aC_SameItem, cls := ⟨nm_SameItem, q_SameItem, N_SameItem, bs_SameItem, _, sn_SameItem, sub_SameItem, ab_SameItem, col_SameItem, dd_SameItem, m0_SameItem, m1_SameItem, m2_SameItem, m3_SameItem, m5_SameItem, xL_SameItem, by first | rfl | decide +kernel⟩, sa := sa_SameItem, ga := ga_SameItem, gg := gg_SameItem, noN := nb_SameItem, iC := in_SameItem, tC := tf_SameItem, kC := kC_SameItem, exC := eC_SameItem, tyC := tC_SameItem, hdC := hC_SameItem, te := te_SameItem,
      fn := ⟨_, _, _, _, _, _, _, _, _, _, _, _, _, _, lf_SameItem, cf_SameItem⟩ }
  have x_SameItem : ExcC K C_SameItem := ⟨ga_SameItem, gg_SameItem, eC_SameItem, hC_SameItem, ha_SameItem, hn_SameItem, ht_SameItem, hm_SameItem⟩
  have e_UnknownLimit : PySem.Err_UnknownLimit.Txt K mg C_UnknownLimit f_UnknownLimit :=
    { gC := PySem.W.mg_of X G aC_UnknownLimit, cls := ⟨nm_UnknownLimit, q_UnknownLimit, N_UnknownLimit, bs_UnknownLimit, _, sn_UnknownLimit, sub_UnknownLimit, ab_UnknownLimit, col_UnknownLimit, dd_UnknownLimit, m0_UnknownLimit, m1_UnknownLimit, m2_UnknownLimit, m3_UnknownLimit, m5_UnknownLimit, xL_UnknownLimit, by first | rfl | decide +kernel⟩, sa := sa_UnknownLimit, ga := ga_UnknownLimit, gg := gg_UnknownLimit, noN := nb_UnknownLimit, iC := in_UnknownLimit, tC := tf_UnknownLimit, kC := kC_UnknownLimit, exC := eC_UnknownLimit, tyC := tC_UnknownLimit, hdC := hC_UnknownLimit, te := te_UnknownLimit,
      fn := ⟨_, _, _, _, _, _, _, _, _, _, _, _, _, _, lf_UnknownLimit, cf_UnknownLimit⟩ }
  have x_UnknownLimit : ExcC K C_UnknownLimit := ⟨ga_UnknownLimit, gg_UnknownLimit, eC_UnknownLimit, hC_UnknownLimit, ha_UnknownLimit, hn_UnknownLimit, ht_UnknownLimit, hm_UnknownLimit⟩
  have g_MergeError : mg "MergeError" = some (.ref C_MergeError) := PySem.W.mg_of X G aC_MergeError
  have g_NoSuchStep : mg "NoSuchStep" = some (.ref C_NoSuchStep) := PySem.W.mg_of X G aC_NoSuchStep
  have g_InvalidLevel : mg "InvalidLevel" = some (.ref C_InvalidLevel) := PySem.W.mg_of X G aC_InvalidLevel
  have g_InvalidTable : mg "InvalidTable" = some (.ref C_InvalidTable) := PySem.W.mg_of X G aC_InvalidTable
  have g_UnequalSizes : mg "UnequalSizes" = some (.ref C_UnequalSizes) := PySem.W.mg_of X G aC_UnequalSizes
  have gz_ValueError : mg "ValueError" = none := PySem.W.mg_none_of X G zf_ValueError
  have gz_LookupError : mg "LookupError" = none := PySem.W.mg_none_of X G zf_LookupError
  have TD : DrawDefs K mg := ⟨B, ⟨_, _, d_L_next⟩, ⟨_, _, d_L_one⟩, ⟨_, _, d_L_count⟩, ⟨_, _, d_L_grades⟩, ⟨_, _, d_L_level⟩, ⟨_, _, d_L_nested⟩, ⟨_, _, d_L_raised⟩, ⟨_, _, d_L_levels⟩, ⟨_, _, d_L_any⟩⟩
  have J : JoinDefs K mg := ⟨B, ⟨_, _, d_level_between⟩, ⟨_, _, d_is_whole⟩, ⟨_, _, d_is_item⟩, ⟨_, _, d_check_items⟩, ⟨_, _, d_level_grid⟩, ⟨_, _, d_lowest_grid⟩, ⟨_, _, d_join_grid⟩⟩
  have TC : CjDefs K mg := ⟨B, ⟨_, _, d_level_between⟩, ⟨_, _, d_is_whole⟩, ⟨_, _, d_is_item⟩, ⟨_, _, d_check_items⟩, ⟨_, _, d_check_ends⟩, ⟨_, _, d_is_path⟩, ⟨_, _, d_is_division⟩, ⟨_, _, d_height_of⟩, ⟨_, _, d_width_of⟩⟩
  have DD : DoorDefs K mg C_NoSuchItem f_NoSuchItem C_SameItem f_SameItem := ⟨J, TC, e_NoSuchItem, e_SameItem, g_LEVEL, ⟨_, _, d_is_whole⟩, ⟨_, _, d_is_item⟩, ⟨_, _, d_check_items⟩, ⟨_, _, d_check_ends⟩, ⟨_, _, d_join_level⟩, ⟨_, _, d_longer_paths⟩, ⟨_, _, d_best_path⟩, ⟨_, _, d_best_division⟩, ⟨_, _, d_check_join⟩, ⟨_, _, d_detour_level⟩⟩
  have T : LawDefs K mg := ⟨TD, ⟨_, _, _, _, _, _, _, _, _, _, ⟨DD, x_NoSuchItem, x_SameItem, g_MergeError, g_InvalidLevel, g_InvalidTable, g_UnequalSizes, e_UnknownLimit.gC, g_NoSuchStep, gz_ValueError, gz_LookupError, xSI, xSM, iIL, iIA, iSS, iSA⟩⟩,
    ⟨_, _, _, _, _, _, ⟨⟨B, e_UnknownLimit, g_LIMITS⟩, x_UnknownLimit, ⟨_, d_select_pairs⟩, g_MergeError, e_SameItem.gC, g_UnequalSizes, g_InvalidTable, gz_ValueError, gz_LookupError, iUM, iUV, iUA⟩⟩,
    ⟨_, _, d_L_draws⟩, ⟨_, _, d_L_odd⟩, ⟨_, _, d_L_table⟩, ⟨_, _, d_L_asked⟩, ⟨_, _, d_L_told⟩, ⟨_, _, d_L_due⟩, ⟨_, _, d_L_named⟩, ⟨_, _, d_L_name⟩⟩
  exact ⟨PySem.W.fnOf "law" "law" (defArgs s_law) (defBody s_law) (defScope s_law) .none kV39 dc39 pm39 an39 cd39 ct39, fun s v => .of_eq rfl, fun base _ _ => ok_law (fun_mk l39 c39 k39) T⟩
end Ml
open PySem PySem.W PyProof.Rows
set_option maxHeartbeats 0 in
theorem PySem.Challenge.cw_mergelevels_k15_errors_of_paths_holds : PySem.Challenge.rw_mergelevels_k15_errors_of_paths.Holds := by
  w_on; o_law; k_head; (case hw => w_witness2)
  k_fill
  refine Ml.walk_G (l := PySem.Challenge.rw_mergelevels_k15_errors_of_paths) (n := 63) (k := 10) (x := "_law_script") (sp := Ml.sp_law) rfl (by decide) rfl ⟨rfl, by decide, by decide⟩ (fun w h Y => PySem.W.kIn_of Y) ?F (fun K H a ns hl hS => ⟨a, ns, rfl, hS, hl, fun _ => rfl⟩)
  case F =>
    intro w mg fa h KX G hmg
    refine' Ml.all_mk KX G hmg ?a1 ?l1 ?c1 ?k1 ?a2 ?l2 ?c2 ?k2 ?a3 ?l3 ?c3 ?k3 ?a4 ?l4 ?c4 ?k4 ?a5 ?l5 ?c5 ?k5 ?a6 ?l6 ?c6 ?k6 ?a7 ?l7 ?c7 ?k7 ?a8 ?l8 ?c8 ?k8 ?a9 ?l9 ?c9 ?k9 ?a10 ?l10 ?c10 ?k10 ?a11 ?l11 ?c11 ?k11 ?a12 ?l12 ?c12 ?k12 ?a13 ?l13 ?c13 ?k13 ?a14 ?l14 ?c14 ?k14 ?a15 ?l15 ?c15 ?k15 ?a16 ?l16 ?c16 ?k16 ?a17 ?l17 ?c17 ?k17 ?a18 ?l18 ?c18 ?k18 ?a19 ?l19 ?c19 ?k19 ?a20 ?l20 ?c20 ?k20 ?a21 ?l21 ?c21 ?k21 ?a22 ?l22 ?c22 ?k22 ?a23 ?l23 ?c23 ?k23 ?a24 ?l24 ?c24 ?k24 ?a25 ?l25 ?c25 ?k25 ?a26 ?l26 ?c26 ?k26 ?a27 ?l27 ?c27 ?k27 ?a28 ?l28 ?c28 ?k28 ?a29 ?l29 ?c29 ?k29 ?a30 ?l30 ?c30 ?k30 ?a31 ?l31 ?c31 ?k31 ?a32 ?l32 ?c32 ?k32 ?a33 ?l33 ?c33 ?k33 ?a34 ?l34 ?c34 ?k34 ?a35 ?l35 ?c35 ?k35 ?a36 ?l36 ?c36 ?k36 ?a37 ?l37 ?c37 ?k37 ?a38 ?l38 ?c38 ?k38 ?a39 ?l39 ?c39 ?k39 ?aC_NoSuchItem ?xL_NoSuchItem ?sa_NoSuchItem ?ga_NoSuchItem ?gg_NoSuchItem ?nb_NoSuchItem ?in_NoSuchItem ?tf_NoSuchItem ?lf_NoSuchItem ?cf_NoSuchItem ?kC_NoSuchItem ?eC_NoSuchItem ?tC_NoSuchItem ?hC_NoSuchItem ?te_NoSuchItem ?ha_NoSuchItem ?hn_NoSuchItem ?ht_NoSuchItem ?hm_NoSuchItem ?aC_SameItem ?xL_SameItem ?sa_SameItem ?ga_SameItem ?gg_SameItem ?nb_SameItem ?in_SameItem ?tf_SameItem ?lf_SameItem ?cf_SameItem ?kC_SameItem ?eC_SameItem ?tC_SameItem ?hC_SameItem ?te_SameItem ?ha_SameItem ?hn_SameItem ?ht_SameItem ?hm_SameItem ?aC_UnknownLimit ?xL_UnknownLimit ?sa_UnknownLimit ?ga_UnknownLimit ?gg_UnknownLimit ?nb_UnknownLimit ?in_UnknownLimit ?tf_UnknownLimit ?lf_UnknownLimit ?cf_UnknownLimit ?kC_UnknownLimit ?eC_UnknownLimit ?tC_UnknownLimit ?hC_UnknownLimit ?te_UnknownLimit ?ha_UnknownLimit ?hn_UnknownLimit ?ht_UnknownLimit ?hm_UnknownLimit ?aC_MergeError ?aC_NoSuchStep ?aC_InvalidLevel ?aC_InvalidTable ?aC_UnequalSizes ?zf_ValueError ?zf_LookupError ?xSI ?xSM ?iIL ?iIA ?iSS ?iSA ?iUM ?iUV ?iUA ?n_LEVEL ?n_LIMITS ?m_LIMITS ?z1 ?z2 ?z3 ?z4 ?z5 ?z6 ?z7 ?z8 ?z9 ?z10 ?z11 ?z12 ?z13 ?z14 ?z15 ?z16 ?z17 ?z18 ?z19
    (case a1 => k_is)
    (case l1 => k_is)
    (case c1 => k_is)
    (case k1 => k_is)
    (case a2 => k_is)
    (case l2 => k_is)
    (case c2 => k_is)
    (case k2 => k_is)
    (case a3 => k_is)
    (case l3 => k_is)
    (case c3 => k_is)
    (case k3 => k_is)
    (case a4 => k_is)
    (case l4 => k_is)
    (case c4 => k_is)
    (case k4 => k_is)
    (case a5 => k_is)
    (case l5 => k_is)
    (case c5 => k_is)
    (case k5 => k_is)
    (case a6 => k_is)
    (case l6 => k_is)
    (case c6 => k_is)
    (case k6 => k_is)
    (case a7 => k_is)
    (case l7 => k_is)
    (case c7 => k_is)
    (case k7 => k_is)
    (case a8 => k_is)
    (case l8 => k_is)
    (case c8 => k_is)
    (case k8 => k_is)
    (case a9 => k_is)
    (case l9 => k_is)
    (case c9 => k_is)
    (case k9 => k_is)
    (case a10 => k_is)
    (case l10 => k_is)
    (case c10 => k_is)
    (case k10 => k_is)
    (case a11 => k_is)
    (case l11 => k_is)
    (case c11 => k_is)
    (case k11 => k_is)
    (case a12 => k_is)
    (case l12 => k_is)
    (case c12 => k_is)
    (case k12 => k_is)
    (case a13 => k_is)
    (case l13 => k_is)
    (case c13 => k_is)
    (case k13 => k_is)
    (case a14 => k_is)
    (case l14 => k_is)
    (case c14 => k_is)
    (case k14 => k_is)
    (case a15 => k_is)
    (case l15 => k_is)
    (case c15 => k_is)
    (case k15 => k_is)
    (case a16 => k_is)
    (case l16 => k_is)
    (case c16 => k_is)
    (case k16 => k_is)
    (case a17 => k_is)
    (case l17 => k_is)
    (case c17 => k_is)
    (case k17 => k_is)
    (case a18 => k_is)
    (case l18 => k_is)
    (case c18 => k_is)
    (case k18 => k_is)
    (case a19 => k_is)
    (case l19 => k_is)
    (case c19 => k_is)
    (case k19 => k_is)
    (case a20 => k_is)
    (case l20 => k_is)
    (case c20 => k_is)
    (case k20 => k_is)
    (case a21 => k_is)
    (case l21 => k_is)
    (case c21 => k_is)
    (case k21 => k_is)
    (case a22 => k_is)
    (case l22 => k_is)
    (case c22 => k_is)
    (case k22 => k_is)
    (case a23 => k_is)
    (case l23 => k_is)
    (case c23 => k_is)
    (case k23 => k_is)
    (case a24 => k_is)
    (case l24 => k_is)
    (case c24 => k_is)
    (case k24 => k_is)
    (case a25 => k_is)
    (case l25 => k_is)
    (case c25 => k_is)
    (case k25 => k_is)
    (case a26 => k_is)
    (case l26 => k_is)
    (case c26 => k_is)
    (case k26 => k_is)
    (case a27 => k_is)
    (case l27 => k_is)
    (case c27 => k_is)
    (case k27 => k_is)
    (case a28 => k_is)
    (case l28 => k_is)
    (case c28 => k_is)
    (case k28 => k_is)
    (case a29 => k_is)
    (case l29 => k_is)
    (case c29 => k_is)
    (case k29 => k_is)
    (case a30 => k_is)
    (case l30 => k_is)
    (case c30 => k_is)
    (case k30 => k_is)
    (case a31 => k_is)
    (case l31 => k_is)
    (case c31 => k_is)
    (case k31 => k_is)
    (case a32 => k_is)
    (case l32 => k_is)
    (case c32 => k_is)
    (case k32 => k_is)
    (case a33 => k_is)
    (case l33 => k_is)
    (case c33 => k_is)
    (case k33 => k_is)
    (case a34 => k_is)
    (case l34 => k_is)
    (case c34 => k_is)
    (case k34 => k_is)
    (case a35 => k_is)
    (case l35 => k_is)
    (case c35 => k_is)
    (case k35 => k_is)
    (case a36 => k_is)
    (case l36 => k_is)
    (case c36 => k_is)
    (case k36 => k_is)
    (case a37 => k_is)
    (case l37 => k_is)
    (case c37 => k_is)
    (case k37 => k_is)
    (case a38 => k_is)
    (case l38 => k_is)
    (case c38 => k_is)
    (case k38 => k_is)
    (case a39 => k_is)
    (case l39 => k_is)
    (case c39 => k_is)
    (case k39 => k_is)
    (case aC_NoSuchItem => first | rfl | k_is | k_exc)
    (case xL_NoSuchItem => first | rfl | k_is | k_exc)
    (case sa_NoSuchItem => first | rfl | k_is | k_exc)
    (case ga_NoSuchItem => first | rfl | k_is | k_exc)
    (case gg_NoSuchItem => first | rfl | k_is | k_exc)
    (case nb_NoSuchItem => first | rfl | k_is | k_exc)
    (case in_NoSuchItem => first | rfl | k_is | k_exc)
    (case tf_NoSuchItem => first | rfl | k_is | k_exc)
    (case lf_NoSuchItem => first | rfl | k_is | k_exc)
    (case cf_NoSuchItem => first | rfl | k_is | k_exc)
    (case kC_NoSuchItem => first | rfl | k_is | k_exc)
    (case eC_NoSuchItem => first | rfl | k_is | k_exc)
    (case tC_NoSuchItem => first | rfl | k_is | k_exc)
    (case hC_NoSuchItem => first | rfl | k_is | k_exc)
    (case te_NoSuchItem => first | rfl | k_is | k_exc)
    (case ha_NoSuchItem => first | rfl | k_is | k_exc)
    (case hn_NoSuchItem => first | rfl | k_is | k_exc)
    (case ht_NoSuchItem => first | rfl | k_is | k_exc)
    (case hm_NoSuchItem => first | rfl | k_is | k_exc)
    (case aC_SameItem => first | rfl | k_is | k_exc)
    (case xL_SameItem => first | rfl | k_is | k_exc)
    (case sa_SameItem => first | rfl | k_is | k_exc)
    (case ga_SameItem => first | rfl | k_is | k_exc)
    (case gg_SameItem => first | rfl | k_is | k_exc)
    (case nb_SameItem => first | rfl | k_is | k_exc)
    (case in_SameItem => first | rfl | k_is | k_exc)
    (case tf_SameItem => first | rfl | k_is | k_exc)
    (case lf_SameItem => first | rfl | k_is | k_exc)
    (case cf_SameItem => first | rfl | k_is | k_exc)
    (case kC_SameItem => first | rfl | k_is | k_exc)
    (case eC_SameItem => first | rfl | k_is | k_exc)
    (case tC_SameItem => first | rfl | k_is | k_exc)
    (case hC_SameItem => first | rfl | k_is | k_exc)
    (case te_SameItem => first | rfl | k_is | k_exc)
    (case ha_SameItem => first | rfl | k_is | k_exc)
    (case hn_SameItem => first | rfl | k_is | k_exc)
    (case ht_SameItem => first | rfl | k_is | k_exc)
    (case hm_SameItem => first | rfl | k_is | k_exc)
    (case aC_UnknownLimit => first | rfl | k_is | k_exc)
    (case xL_UnknownLimit => first | rfl | k_is | k_exc)
    (case sa_UnknownLimit => first | rfl | k_is | k_exc)
    (case ga_UnknownLimit => first | rfl | k_is | k_exc)
    (case gg_UnknownLimit => first | rfl | k_is | k_exc)
    (case nb_UnknownLimit => first | rfl | k_is | k_exc)
    (case in_UnknownLimit => first | rfl | k_is | k_exc)
    (case tf_UnknownLimit => first | rfl | k_is | k_exc)
    (case lf_UnknownLimit => first | rfl | k_is | k_exc)
    (case cf_UnknownLimit => first | rfl | k_is | k_exc)
    (case kC_UnknownLimit => first | rfl | k_is | k_exc)
    (case eC_UnknownLimit => first | rfl | k_is | k_exc)
    (case tC_UnknownLimit => first | rfl | k_is | k_exc)
    (case hC_UnknownLimit => first | rfl | k_is | k_exc)
    (case te_UnknownLimit => first | rfl | k_is | k_exc)
    (case ha_UnknownLimit => first | rfl | k_is | k_exc)
    (case hn_UnknownLimit => first | rfl | k_is | k_exc)
    (case ht_UnknownLimit => first | rfl | k_is | k_exc)
    (case hm_UnknownLimit => first | rfl | k_is | k_exc)
    (case aC_MergeError => first | rfl | k_is | k_exc)
    (case aC_NoSuchStep => first | rfl | k_is | k_exc)
    (case aC_InvalidLevel => first | rfl | k_is | k_exc)
    (case aC_InvalidTable => first | rfl | k_is | k_exc)
    (case aC_UnequalSizes => first | rfl | k_is | k_exc)
    (case zf_ValueError => first | rfl | k_is | k_exc)
    (case zf_LookupError => first | rfl | k_is | k_exc)
    (case xSI => first | rfl | k_is | k_exc)
    (case xSM => first | rfl | k_is | k_exc)
    (case iIL => first | rfl | k_is | k_exc)
    (case iIA => first | rfl | k_is | k_exc)
    (case iSS => first | rfl | k_is | k_exc)
    (case iSA => first | rfl | k_is | k_exc)
    (case iUM => first | rfl | k_is | k_exc)
    (case iUV => first | rfl | k_is | k_exc)
    (case iUA => first | rfl | k_is | k_exc)
    (case n_LEVEL => k_is)
    (case n_LIMITS => k_is)
    (case m_LIMITS => k_is)
    (case z1 => k_is)
    (case z2 => k_is)
    (case z3 => k_is)
    (case z4 => k_is)
    (case z5 => k_is)
    (case z6 => k_is)
    (case z7 => k_is)
    (case z8 => k_is)
    (case z9 => k_is)
    (case z10 => k_is)
    (case z11 => k_is)
    (case z12 => k_is)
    (case z13 => k_is)
    (case z14 => k_is)
    (case z15 => k_is)
    (case z16 => k_is)
    (case z17 => k_is)
    (case z18 => k_is)
    (case z19 => k_is)

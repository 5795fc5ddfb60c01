import PyProof.Rows.All
import Wide.All
import OpenK.AllK
import Wide.FinOn
import HandS.ForMost
import HandS.Codes
import HandS.IsInst
import HandS.Walk
import HandS.TupLe
import HandS.DeepEq
import HandS.TupAny
import HandS.Deep
import HandS.FStr
import HandS.StrMore
import HandS.TryMany
import HandS.NoneIn
import HandS.ForExc
import HandS.ExcInit
import HandS.ExcField
import HandS.ExcIs
import KE.KExcIs
import KE.KRevSl
import PyProof.StrLawsRepr
import HandS.Flow
import HandS.OwnEq
import HandS.Defaults
import HandS.MakeKw
import HandS.MakeKwOnly
import HandS.SortRule
import HandS.NamedTupSort
import KE.GoesRaise
import HandS.HotCalls
import HandS.DictComp
import HandS.IterVal
import HandS.Property
import KE.DataCmp
import KE.SortCalls
import KE.SortData
import KE.GoesEnum
import HandS.Zip
import KE.KDictKeyed
import HandS.Strs
import KE.DataMinMax
import HandS.ForDict
import HandS.Iter
import HandS.SetKeys
import HandS.BoundList
import PySem.Challenge.RW_afterleaves_k50_corrections_judged
set_option Elab.async false
set_option linter.all false
set_option maxRecDepth 100000
set_option maxHeartbeats 4000000
namespace K50
open PySem PySem.Spec PyProof.Rows L2
/-! ### the text -/
def topS (i : Nat) : Stmt := PySem.Challenge.pw_afterleaves_k50_corrections_judged.main.body.getD i (.Pass ⟨0, 0, 0, 0⟩)
abbrev s_BadCorrection_init : Stmt := inClass (topS 10) 0
abbrev N_BadCorrection_init : List Str := ["self", "place"]
theorem sc_BadCorrection_init : FnScope N_BadCorrection_init ["self", "place"] (defScope s_BadCorrection_init) := ⟨rfl, rfl, rfl, by decide +kernel, rfl, by decide +kernel, by decide +kernel⟩
abbrev s_TooMany_init : Stmt := inClass (topS 12) 0
abbrev N_TooMany_init : List Str := ["self", "word"]
theorem sc_TooMany_init : FnScope N_TooMany_init ["self", "word"] (defScope s_TooMany_init) := ⟨rfl, rfl, rfl, by decide +kernel, rfl, by decide +kernel, by decide +kernel⟩
abbrev s_is_integer : Stmt := topS 14
abbrev N_is_integer : List Str := ["thing"]
theorem sc_is_integer : FnScope N_is_integer ["thing"] (defScope s_is_integer) := ⟨rfl, rfl, rfl, by decide +kernel, rfl, by decide +kernel, by decide +kernel⟩
abbrev s_is_within : Stmt := topS 15
abbrev N_is_within : List Str := ["thing", "least", "most"]
theorem sc_is_within : FnScope N_is_within ["thing", "least", "most"] (defScope s_is_within) := ⟨rfl, rfl, rfl, by decide +kernel, rfl, by decide +kernel, by decide +kernel⟩
abbrev s_is_tuple : Stmt := topS 16
abbrev N_is_tuple : List Str := ["thing"]
theorem sc_is_tuple : FnScope N_is_tuple ["thing"] (defScope s_is_tuple) := ⟨rfl, rfl, rfl, by decide +kernel, rfl, by decide +kernel, by decide +kernel⟩
abbrev s_is_sized : Stmt := topS 17
abbrev N_is_sized : List Str := ["thing", "least", "most"]
theorem sc_is_sized : FnScope N_is_sized ["thing", "least", "most"] (defScope s_is_sized) := ⟨rfl, rfl, rfl, by decide +kernel, rfl, by decide +kernel, by decide +kernel⟩
abbrev s_kept_label : Stmt := topS 20
abbrev N_kept_label : List Str := ["thing", "part"]
theorem sc_kept_label : FnScope N_kept_label ["thing"] (defScope s_kept_label) := ⟨rfl, rfl, rfl, by decide +kernel, rfl, by decide +kernel, by decide +kernel⟩
abbrev s_kept_page : Stmt := topS 22
abbrev N_kept_page : List Str := ["thing", "label"]
theorem sc_kept_page : FnScope N_kept_page ["thing"] (defScope s_kept_page) := ⟨rfl, rfl, rfl, by decide +kernel, rfl, by decide +kernel, by decide +kernel⟩
abbrev s_is_token : Stmt := topS 29
abbrev N_is_token : List Str := ["thing"]
theorem sc_is_token : FnScope N_is_token ["thing"] (defScope s_is_token) := ⟨rfl, rfl, rfl, by decide +kernel, rfl, by decide +kernel, by decide +kernel⟩
abbrev s_Errata_init : Stmt := inClass (topS 42) 0
abbrev N_Errata_init : List Str := ["self", "corrections"]
theorem sc_Errata_init : FnScope N_Errata_init ["self", "corrections"] (defScope s_Errata_init) := ⟨rfl, rfl, rfl, by decide +kernel, rfl, by decide +kernel, by decide +kernel⟩
abbrev s_Errata_len : Stmt := inClass (topS 42) 6
abbrev N_Errata_len : List Str := ["self"]
theorem sc_Errata_len : FnScope N_Errata_len ["self"] (defScope s_Errata_len) := ⟨rfl, rfl, rfl, by decide +kernel, rfl, by decide +kernel, by decide +kernel⟩
abbrev s_Errata_iter : Stmt := inClass (topS 42) 7
abbrev N_Errata_iter : List Str := ["self"]
theorem sc_Errata_iter : FnScope N_Errata_iter ["self"] (defScope s_Errata_iter) := ⟨rfl, rfl, rfl, by decide +kernel, rfl, by decide +kernel, by decide +kernel⟩
abbrev s_Errata_eq : Stmt := inClass (topS 42) 8
abbrev N_Errata_eq : List Str := ["self", "other"]
theorem sc_Errata_eq : FnScope N_Errata_eq ["self", "other"] (defScope s_Errata_eq) := ⟨rfl, rfl, rfl, by decide +kernel, rfl, by decide +kernel, by decide +kernel⟩
abbrev s_turns_at_places : Stmt := topS 44
abbrev N_turns_at_places : List Str := ["corrections", "turns", "page", "row", "word", "old", "new"]
theorem sc_turns_at_places : FnScope N_turns_at_places ["corrections"] (defScope s_turns_at_places) := ⟨rfl, rfl, rfl, by decide +kernel, rfl, by decide +kernel, by decide +kernel⟩
abbrev s_judged_corrections : Stmt := topS 45
abbrev N_judged_corrections : List Str := ["corrections", "kept", "thing"]
theorem sc_judged_corrections : FnScope N_judged_corrections ["corrections"] (defScope s_judged_corrections) := ⟨rfl, rfl, rfl, by decide +kernel, rfl, by decide +kernel, by decide +kernel⟩
abbrev s_kept_correction : Stmt := topS 46
abbrev N_kept_correction : List Str := ["thing", "page", "row", "word", "old", "new"]
theorem sc_kept_correction : FnScope N_kept_correction ["thing"] (defScope s_kept_correction) := ⟨rfl, rfl, rfl, by decide +kernel, rfl, by decide +kernel, by decide +kernel⟩
abbrev s_source : Stmt := topS 48
abbrev N_source : List Str := ["_law_script", "_law_k", "_law_cell", "_law_number", "_law_great"]
theorem sc_source : FnScope N_source ["_law_script", "_law_k"] (defScope s_source) := ⟨rfl, rfl, rfl, by decide +kernel, rfl, by decide +kernel, by decide +kernel⟩
abbrev s_pick : Stmt := topS 49
abbrev N_pick : List Str := ["_law_source_here", "_law_many", "_law_taken"]
theorem sc_pick : FnScope N_pick ["_law_source_here", "_law_many"] (defScope s_pick) := ⟨rfl, rfl, rfl, by decide +kernel, rfl, by decide +kernel, by decide +kernel⟩
abbrev s_law_is_integer : Stmt := topS 50
abbrev N_law_is_integer : List Str := ["_law_actual"]
theorem sc_law_is_integer : FnScope N_law_is_integer ["_law_actual"] (defScope s_law_is_integer) := ⟨rfl, rfl, rfl, by decide +kernel, rfl, by decide +kernel, by decide +kernel⟩
abbrev s_token : Stmt := topS 51
abbrev N_token : List Str := ["_law_source_here", "_law_most", "_law_signs", "_law_size", "_law_word", "_law_k", "_law_at"]
theorem sc_token : FnScope N_token ["_law_source_here", "_law_most"] (defScope s_token) := ⟨rfl, rfl, rfl, by decide +kernel, rfl, by decide +kernel, by decide +kernel⟩
abbrev s_other : Stmt := topS 52
abbrev N_other : List Str := ["_law_token_here"]
theorem sc_other : FnScope N_other ["_law_token_here"] (defScope s_other) := ⟨rfl, rfl, rfl, by decide +kernel, rfl, by decide +kernel, by decide +kernel⟩
abbrev s_label : Stmt := topS 53
abbrev N_label : List Str := ["_law_source_here", "_law_most", "_law_size", "_law_parts", "_law_k"]
theorem sc_label : FnScope N_label ["_law_source_here"] (defScope s_label) := ⟨rfl, rfl, rfl, by decide +kernel, rfl, by decide +kernel, by decide +kernel⟩
abbrev s_correction : Stmt := topS 54
abbrev N_correction : List Str := ["_law_source_here", "_law_label_here", "_law_page", "_law_row", "_law_word", "_law_most", "_law_old", "_law_new"]
theorem sc_correction : FnScope N_correction ["_law_source_here"] (defScope s_correction) := ⟨rfl, rfl, rfl, by decide +kernel, rfl, by decide +kernel, by decide +kernel⟩
abbrev s_spoilt_page : Stmt := topS 55
abbrev N_spoilt_page : List Str := ["_law_page", "_law_way", "_law_label_here", "_law_side", "_law_pages"]
theorem sc_spoilt_page : FnScope N_spoilt_page ["_law_page", "_law_way"] (defScope s_spoilt_page) := ⟨rfl, rfl, rfl, by decide +kernel, rfl, by decide +kernel, by decide +kernel⟩
abbrev s_spoilt : Stmt := topS 56
abbrev N_spoilt : List Str := ["_law_source_here", "_law_one", "_law_page", "_law_row", "_law_word", "_law_old", "_law_new", "_law_odd", "_law_group", "_law_things"]
theorem sc_spoilt : FnScope N_spoilt ["_law_source_here", "_law_one"] (defScope s_spoilt) := ⟨rfl, rfl, rfl, by decide +kernel, rfl, by decide +kernel, by decide +kernel⟩
abbrev s_shaped : Stmt := topS 57
abbrev N_shaped : List Str := ["_law_thing", "_law_way", "_law_parts", "_law_part"]
theorem sc_shaped : FnScope N_shaped ["_law_thing", "_law_way"] (defScope s_shaped) := ⟨rfl, rfl, rfl, by decide +kernel, rfl, by decide +kernel, by decide +kernel⟩
abbrev s_made : Stmt := topS 58
abbrev N_made : List Str := ["_law_thing", "_law_made_here", "e", "_law_kinds"]
theorem sc_made : FnScope N_made ["_law_thing"] (defScope s_made) := ⟨rfl, rfl, rfl, by decide +kernel, rfl, by decide +kernel, by decide +kernel⟩
abbrev s_keeps : Stmt := topS 59
abbrev N_keeps : List Str := ["_law_made_here", "_law_rows", "_law_one"]
theorem sc_keeps : FnScope N_keeps ["_law_made_here", "_law_rows"] (defScope s_keeps) := ⟨rfl, rfl, rfl, by decide +kernel, rfl, by decide +kernel, by decide +kernel⟩
abbrev s_equals : Stmt := topS 60
abbrev N_equals : List Str := ["_law_made_here", "_law_rows", "_law_mirror", "_law_other_here"]
theorem sc_equals : FnScope N_equals ["_law_made_here", "_law_rows"] (defScope s_equals) := ⟨rfl, rfl, rfl, by decide +kernel, rfl, by decide +kernel, by decide +kernel⟩
abbrev s_odd_thing : Stmt := topS 61
abbrev N_odd_thing : List Str := ["_law_source_here", "_law_rows", "_law_way", "_law_things"]
theorem sc_odd_thing : FnScope N_odd_thing ["_law_source_here", "_law_rows"] (defScope s_odd_thing) := ⟨rfl, rfl, rfl, by decide +kernel, rfl, by decide +kernel, by decide +kernel⟩
abbrev s_good_asked : Stmt := topS 62
abbrev N_good_asked : List Str := ["_law_rows", "_law_way", "_law_handed", "_law_before", "_law_made_here", "_law_inner", "_law_page"]
theorem sc_good_asked : FnScope N_good_asked ["_law_rows", "_law_way"] (defScope s_good_asked) := ⟨rfl, rfl, rfl, by decide +kernel, rfl, by decide +kernel, by decide +kernel⟩
abbrev s_law : Stmt := topS 63
abbrev N_law : List Str := ["_law_script", "_law_source_here", "_law_many", "_law_rows", "_law_spoiler", "_law_way", "_law_bad", "_law_least", "_law_k", "_law_at", "_law_thing", "_law_due"]
theorem sc_law : FnScope N_law ["_law_script"] (defScope s_law) := ⟨rfl, rfl, rfl, by decide +kernel, rfl, by decide +kernel, by decide +kernel⟩
structure Tab (K : PySem.W.Frag) (mg : Str → Option Value) where
  C_AfterError : Addr
  C_BadForm : Addr
  C_BadErrata : Addr
  C_BadCorrection : Addr
  C_TooMany : Addr
  C_Errata : Addr
  f_BadCorrection_init : Addr
  d_BadCorrection_init : FuncData
  F_BadCorrection_init : Fun K "__init__" "BadCorrection.__init__" s_BadCorrection_init f_BadCorrection_init d_BadCorrection_init
  b_BadCorrection_init : Binds K d_BadCorrection_init ["self", "place"] []
  g_BadCorrection_init : PySem.W.findIn K (.ref C_BadCorrection) "__init__" = some (some (.ref f_BadCorrection_init))
  f_TooMany_init : Addr
  d_TooMany_init : FuncData
  F_TooMany_init : Fun K "__init__" "TooMany.__init__" s_TooMany_init f_TooMany_init d_TooMany_init
  b_TooMany_init : Binds K d_TooMany_init ["self", "word"] []
  g_TooMany_init : PySem.W.findIn K (.ref C_TooMany) "__init__" = some (some (.ref f_TooMany_init))
  f_is_integer : Addr
  d_is_integer : FuncData
  F_is_integer : Fun K "is_integer" "is_integer" s_is_integer f_is_integer d_is_integer
  b_is_integer : Binds K d_is_integer ["thing"] []
  g_is_integer : mg "is_integer" = some (.ref f_is_integer)
  f_is_within : Addr
  d_is_within : FuncData
  F_is_within : Fun K "is_within" "is_within" s_is_within f_is_within d_is_within
  b_is_within : Binds K d_is_within ["thing", "least", "most"] []
  g_is_within : mg "is_within" = some (.ref f_is_within)
  f_is_tuple : Addr
  d_is_tuple : FuncData
  F_is_tuple : Fun K "is_tuple" "is_tuple" s_is_tuple f_is_tuple d_is_tuple
  b_is_tuple : Binds K d_is_tuple ["thing"] []
  g_is_tuple : mg "is_tuple" = some (.ref f_is_tuple)
  f_is_sized : Addr
  d_is_sized : FuncData
  F_is_sized : Fun K "is_sized" "is_sized" s_is_sized f_is_sized d_is_sized
  b_is_sized : Binds K d_is_sized ["thing", "least", "most"] []
  g_is_sized : mg "is_sized" = some (.ref f_is_sized)
  f_kept_label : Addr
  d_kept_label : FuncData
  F_kept_label : Fun K "kept_label" "kept_label" s_kept_label f_kept_label d_kept_label
  b_kept_label : Binds K d_kept_label ["thing"] []
  g_kept_label : mg "kept_label" = some (.ref f_kept_label)
  f_kept_page : Addr
  d_kept_page : FuncData
  F_kept_page : Fun K "kept_page" "kept_page" s_kept_page f_kept_page d_kept_page
  b_kept_page : Binds K d_kept_page ["thing"] []
  g_kept_page : mg "kept_page" = some (.ref f_kept_page)
  f_is_token : Addr
  d_is_token : FuncData
  F_is_token : Fun K "is_token" "is_token" s_is_token f_is_token d_is_token
  b_is_token : Binds K d_is_token ["thing"] []
  g_is_token : mg "is_token" = some (.ref f_is_token)
  f_Errata_init : Addr
  d_Errata_init : FuncData
  F_Errata_init : Fun K "__init__" "Errata.__init__" s_Errata_init f_Errata_init d_Errata_init
  b_Errata_init : Binds K d_Errata_init ["self", "corrections"] []
  g_Errata_init : PySem.W.findIn K (.ref C_Errata) "__init__" = some (some (.ref f_Errata_init))
  f_Errata_len : Addr
  d_Errata_len : FuncData
  F_Errata_len : Fun K "__len__" "Errata.__len__" s_Errata_len f_Errata_len d_Errata_len
  b_Errata_len : Binds K d_Errata_len ["self"] []
  g_Errata_len : PySem.W.findIn K (.ref C_Errata) "__len__" = some (some (.ref f_Errata_len))
  f_Errata_iter : Addr
  d_Errata_iter : FuncData
  F_Errata_iter : Fun K "__iter__" "Errata.__iter__" s_Errata_iter f_Errata_iter d_Errata_iter
  b_Errata_iter : Binds K d_Errata_iter ["self"] []
  g_Errata_iter : PySem.W.findIn K (.ref C_Errata) "__iter__" = some (some (.ref f_Errata_iter))
  f_Errata_eq : Addr
  d_Errata_eq : FuncData
  F_Errata_eq : Fun K "__eq__" "Errata.__eq__" s_Errata_eq f_Errata_eq d_Errata_eq
  b_Errata_eq : Binds K d_Errata_eq ["self", "other"] []
  g_Errata_eq : PySem.W.findIn K (.ref C_Errata) "__eq__" = some (some (.ref f_Errata_eq))
  f_turns_at_places : Addr
  d_turns_at_places : FuncData
  F_turns_at_places : Fun K "_turns_at_places" "_turns_at_places" s_turns_at_places f_turns_at_places d_turns_at_places
  b_turns_at_places : Binds K d_turns_at_places ["corrections"] []
  g_turns_at_places : mg "_turns_at_places" = some (.ref f_turns_at_places)
  f_judged_corrections : Addr
  d_judged_corrections : FuncData
  F_judged_corrections : Fun K "_judged_corrections" "_judged_corrections" s_judged_corrections f_judged_corrections d_judged_corrections
  b_judged_corrections : Binds K d_judged_corrections ["corrections"] []
  g_judged_corrections : mg "_judged_corrections" = some (.ref f_judged_corrections)
  f_kept_correction : Addr
  d_kept_correction : FuncData
  F_kept_correction : Fun K "_kept_correction" "_kept_correction" s_kept_correction f_kept_correction d_kept_correction
  b_kept_correction : Binds K d_kept_correction ["thing"] []
  g_kept_correction : mg "_kept_correction" = some (.ref f_kept_correction)
  f_source : Addr
  d_source : FuncData
  F_source : Fun K "_law_source" "_law_source" s_source f_source d_source
  b_source : Binds K d_source ["_law_script", "_law_k"] []
  g_source : mg "_law_source" = some (.ref f_source)
  f_pick : Addr
  d_pick : FuncData
  F_pick : Fun K "_law_pick" "_law_pick" s_pick f_pick d_pick
  b_pick : Binds K d_pick ["_law_source_here", "_law_many"] []
  g_pick : mg "_law_pick" = some (.ref f_pick)
  f_law_is_integer : Addr
  d_law_is_integer : FuncData
  F_law_is_integer : Fun K "_law_is_integer" "_law_is_integer" s_law_is_integer f_law_is_integer d_law_is_integer
  b_law_is_integer : Binds K d_law_is_integer ["_law_actual"] []
  g_law_is_integer : mg "_law_is_integer" = some (.ref f_law_is_integer)
  f_token : Addr
  d_token : FuncData
  F_token : Fun K "_law_token" "_law_token" s_token f_token d_token
  b_token : Binds K d_token ["_law_source_here", "_law_most"] []
  g_token : mg "_law_token" = some (.ref f_token)
  f_other : Addr
  d_other : FuncData
  F_other : Fun K "_law_other" "_law_other" s_other f_other d_other
  b_other : Binds K d_other ["_law_token_here"] []
  g_other : mg "_law_other" = some (.ref f_other)
  f_label : Addr
  d_label : FuncData
  F_label : Fun K "_law_label" "_law_label" s_label f_label d_label
  b_label : Binds K d_label ["_law_source_here"] []
  g_label : mg "_law_label" = some (.ref f_label)
  f_correction : Addr
  d_correction : FuncData
  F_correction : Fun K "_law_correction" "_law_correction" s_correction f_correction d_correction
  b_correction : Binds K d_correction ["_law_source_here"] []
  g_correction : mg "_law_correction" = some (.ref f_correction)
  f_spoilt_page : Addr
  d_spoilt_page : FuncData
  F_spoilt_page : Fun K "_law_spoilt_page" "_law_spoilt_page" s_spoilt_page f_spoilt_page d_spoilt_page
  b_spoilt_page : Binds K d_spoilt_page ["_law_page", "_law_way"] []
  g_spoilt_page : mg "_law_spoilt_page" = some (.ref f_spoilt_page)
  f_spoilt : Addr
  d_spoilt : FuncData
  F_spoilt : Fun K "_law_spoilt" "_law_spoilt" s_spoilt f_spoilt d_spoilt
  b_spoilt : Binds K d_spoilt ["_law_source_here", "_law_one"] []
  g_spoilt : mg "_law_spoilt" = some (.ref f_spoilt)
  f_shaped : Addr
  d_shaped : FuncData
  F_shaped : Fun K "_law_shaped" "_law_shaped" s_shaped f_shaped d_shaped
  b_shaped : Binds K d_shaped ["_law_thing", "_law_way"] []
  g_shaped : mg "_law_shaped" = some (.ref f_shaped)
  f_made : Addr
  d_made : FuncData
  F_made : Fun K "_law_made" "_law_made" s_made f_made d_made
  b_made : Binds K d_made ["_law_thing"] []
  g_made : mg "_law_made" = some (.ref f_made)
  f_keeps : Addr
  d_keeps : FuncData
  F_keeps : Fun K "_law_keeps" "_law_keeps" s_keeps f_keeps d_keeps
  b_keeps : Binds K d_keeps ["_law_made_here", "_law_rows"] []
  g_keeps : mg "_law_keeps" = some (.ref f_keeps)
  f_equals : Addr
  d_equals : FuncData
  F_equals : Fun K "_law_equals" "_law_equals" s_equals f_equals d_equals
  b_equals : Binds K d_equals ["_law_made_here", "_law_rows"] []
  g_equals : mg "_law_equals" = some (.ref f_equals)
  f_odd_thing : Addr
  d_odd_thing : FuncData
  F_odd_thing : Fun K "_law_odd_thing" "_law_odd_thing" s_odd_thing f_odd_thing d_odd_thing
  b_odd_thing : Binds K d_odd_thing ["_law_source_here", "_law_rows"] []
  g_odd_thing : mg "_law_odd_thing" = some (.ref f_odd_thing)
  f_good_asked : Addr
  d_good_asked : FuncData
  F_good_asked : Fun K "_law_good_asked" "_law_good_asked" s_good_asked f_good_asked d_good_asked
  b_good_asked : Binds K d_good_asked ["_law_rows", "_law_way"] []
  g_good_asked : mg "_law_good_asked" = some (.ref f_good_asked)
  f_law : Addr
  d_law : FuncData
  F_law : Fun K "law" "law" s_law f_law d_law
  b_law : Binds K d_law ["_law_script"] []
  g_law : mg "law" = some (.ref f_law)
  cg_Errata : mg "Errata" = some (.ref C_Errata)
  cg_AfterError : mg "AfterError" = some (.ref C_AfterError)
  cg_BadForm : mg "BadForm" = some (.ref C_BadForm)
  cg_BadErrata : mg "BadErrata" = some (.ref C_BadErrata)
  cg_BadCorrection : mg "BadCorrection" = some (.ref C_BadCorrection)
  cg_TooMany : mg "TooMany" = some (.ref C_TooMany)
  x_BadErrata : PySem.W.excIn K C_BadErrata [.type "ValueError", .type "Exception", .type "BaseException", .type "object"] "ValueError.__new__" = true
  k_BadErrata : PySem.W.keepIn K (.ref C_BadErrata) = true
  t_BadErrata : PySem.W.typeIn K (.ref C_BadErrata) = some (.type "type")
  hg_BadErrata : PySem.W.findIn K (.ref C_BadErrata) "__getattribute__" = some (some (.builtin "BaseException.__getattribute__"))
  hk_BadErrata : PySem.W.findIn K (.ref C_BadErrata) "__getattr__" = some none
  hs_BadErrata : PySem.W.subIn K (.ref C_BadErrata) (.type "BaseException") = some true
  hd_BadErrata : PySem.W.hasDictIn K C_BadErrata = true
  ha_BadErrata : PySem.W.findIn K (.ref C_BadErrata) "__class__" = some (some (.builtin "object.__class__"))
  hn_BadErrata : PySem.W.specialIn K (.builtin "object.__class__") "__get__" = some (some (.builtin "getset_descriptor.__get__"))
  ht_BadErrata : PySem.W.takesIn K (.builtin "object.__class__") = some true
  hm_BadErrata : PySem.W.mroIn K C_BadErrata (.type "object") = some true
  hg_TooMany : PySem.W.findIn K (.ref C_TooMany) "__getattribute__" = some (some (.builtin "BaseException.__getattribute__"))
  hk_TooMany : PySem.W.findIn K (.ref C_TooMany) "__getattr__" = some none
  hs_TooMany : PySem.W.subIn K (.ref C_TooMany) (.type "BaseException") = some true
  hd_TooMany : PySem.W.hasDictIn K C_TooMany = true
  ha_TooMany : PySem.W.findIn K (.ref C_TooMany) "__class__" = some (some (.builtin "object.__class__"))
  hn_TooMany : PySem.W.specialIn K (.builtin "object.__class__") "__get__" = some (some (.builtin "getset_descriptor.__get__"))
  ht_TooMany : PySem.W.takesIn K (.builtin "object.__class__") = some true
  hm_TooMany : PySem.W.mroIn K C_TooMany (.type "object") = some true
  hg_BadCorrection : PySem.W.findIn K (.ref C_BadCorrection) "__getattribute__" = some (some (.builtin "BaseException.__getattribute__"))
  hk_BadCorrection : PySem.W.findIn K (.ref C_BadCorrection) "__getattr__" = some none
  hs_BadCorrection : PySem.W.subIn K (.ref C_BadCorrection) (.type "BaseException") = some true
  hd_BadCorrection : PySem.W.hasDictIn K C_BadCorrection = true
  ha_BadCorrection : PySem.W.findIn K (.ref C_BadCorrection) "__class__" = some (some (.builtin "object.__class__"))
  hn_BadCorrection : PySem.W.specialIn K (.builtin "object.__class__") "__get__" = some (some (.builtin "getset_descriptor.__get__"))
  ht_BadCorrection : PySem.W.takesIn K (.builtin "object.__class__") = some true
  hm_BadCorrection : PySem.W.mroIn K C_BadCorrection (.type "object") = some true
  o_TooMany : OexC K C_TooMany
  n_TooMany_word : PySem.W.findIn K (.ref C_TooMany) "word" = some none
  i_TooMany : PySem.W.typeIn K (.ref f_TooMany_init) = some (.type "function")
  o_BadCorrection : OexC K C_BadCorrection
  n_BadCorrection_place : PySem.W.findIn K (.ref C_BadCorrection) "place" = some none
  i_BadCorrection : PySem.W.typeIn K (.ref f_BadCorrection_init) = some (.type "function")
  cl_Errata : Cls K C_Errata
  ms_Errata : PySem.W.makesIn K C_Errata = true
  kc_Errata : PySem.W.keepIn K (.ref C_Errata) = true
  ca_Errata : PySem.W.findIn K (.ref C_Errata) "__class__" = some (some (.builtin "object.__class__"))
  cn_Errata : PySem.W.specialIn K (.builtin "object.__class__") "__get__" = some (some (.builtin "getset_descriptor.__get__"))
  ct_Errata : PySem.W.takesIn K (.builtin "object.__class__") = some true
  cm_Errata : PySem.W.mroIn K C_Errata (.type "object") = some true
  ic_Errata : PySem.W.isClsIn K C_Errata = true
  tc_Errata : PySem.W.typeIn K (.ref C_Errata) = some (.type "type")
  na_Errata_corrections : NoAttr K C_Errata "corrections"
  na_Errata__turns : NoAttr K C_Errata "_turns"
  ns_Errata_tuple : PySem.W.subIn K (.type "tuple") (.ref C_Errata) = some false
  ns_Errata_int : PySem.W.subIn K (.type "int") (.ref C_Errata) = some false
  ns_Errata_list : PySem.W.subIn K (.type "list") (.ref C_Errata) = some false
  fn_Errata_init : PySem.W.isFn K (.ref f_Errata_init) = true
  fn_Errata_len : PySem.W.isFn K (.ref f_Errata_len) = true
  fn_Errata_iter : PySem.W.isFn K (.ref f_Errata_iter) = true
  fn_Errata_eq : PySem.W.isFn K (.ref f_Errata_eq) = true
  q_BadErrata_BadErrata : PySem.W.kitOne K (.ref C_BadErrata) (.ref C_BadErrata) = some true
  q_BadErrata_TooMany : PySem.W.kitOne K (.ref C_BadErrata) (.ref C_TooMany) = some false
  q_BadErrata_BadCorrection : PySem.W.kitOne K (.ref C_BadErrata) (.ref C_BadCorrection) = some false
  q_BadErrata_ValueError : PySem.W.kitOne K (.ref C_BadErrata) (.type "ValueError") = some true
  q_BadErrata_BadForm : PySem.W.kitOne K (.ref C_BadErrata) (.ref C_BadForm) = some true
  q_TooMany_BadErrata : PySem.W.kitOne K (.ref C_TooMany) (.ref C_BadErrata) = some false
  q_TooMany_TooMany : PySem.W.kitOne K (.ref C_TooMany) (.ref C_TooMany) = some true
  q_TooMany_BadCorrection : PySem.W.kitOne K (.ref C_TooMany) (.ref C_BadCorrection) = some false
  q_TooMany_ValueError : PySem.W.kitOne K (.ref C_TooMany) (.type "ValueError") = some true
  q_TooMany_BadForm : PySem.W.kitOne K (.ref C_TooMany) (.ref C_BadForm) = some false
  q_BadCorrection_BadErrata : PySem.W.kitOne K (.ref C_BadCorrection) (.ref C_BadErrata) = some false
  q_BadCorrection_TooMany : PySem.W.kitOne K (.ref C_BadCorrection) (.ref C_TooMany) = some false
  q_BadCorrection_BadCorrection : PySem.W.kitOne K (.ref C_BadCorrection) (.ref C_BadCorrection) = some true
  q_BadCorrection_ValueError : PySem.W.kitOne K (.ref C_BadCorrection) (.type "ValueError") = some true
  q_BadCorrection_BadForm : PySem.W.kitOne K (.ref C_BadCorrection) (.ref C_BadForm) = some true
  q_Errata_tuple : PySem.W.kitOne K (.ref C_Errata) (.type "tuple") = some false
  q_Errata_list : PySem.W.kitOne K (.ref C_Errata) (.type "list") = some false
  e_BadErrata_AfterError : PySem.W.exmOne K (.ref C_BadErrata) (.ref C_AfterError) = some true
  e_TooMany_AfterError : PySem.W.exmOne K (.ref C_TooMany) (.ref C_AfterError) = some true
  e_BadCorrection_AfterError : PySem.W.exmOne K (.ref C_BadCorrection) (.ref C_AfterError) = some true
  t_MOST_CORRECTIONS : Tok
  c_MOST_CORRECTIONS : mg "MOST_CORRECTIONS" = some (.int 60 t_MOST_CORRECTIONS)
  t_MOST_PARTS : Tok
  c_MOST_PARTS : mg "MOST_PARTS" = some (.int 3 t_MOST_PARTS)
  t_MOST_ROWS : Tok
  c_MOST_ROWS : mg "MOST_ROWS" = some (.int 12 t_MOST_ROWS)
  t_MOST_SIGNS : Tok
  c_MOST_SIGNS : mg "MOST_SIGNS" = some (.int 20 t_MOST_SIGNS)
  t_MOST_TOKENS : Tok
  c_MOST_TOKENS : mg "MOST_TOKENS" = some (.int 30 t_MOST_TOKENS)
  m_ValueError : mg "ValueError" = none
  m_abs : mg "abs" = none
  m_all : mg "all" = none
  m_bool : mg "bool" = none
  m_int : mg "int" = none
  m_isinstance : mg "isinstance" = none
  m_iter : mg "iter" = none
  m_len : mg "len" = none
  m_list : mg "list" = none
  m_max : mg "max" = none
  m_min : mg "min" = none
  m_range : mg "range" = none
  m_repr : mg "repr" = none
  m_str : mg "str" = none
  m_sum : mg "sum" = none
  m_tuple : mg "tuple" = none
/-! ### heaps and sources -/
theorem un2 {k : Nat} {A : Around} (r : Room k A) : A.units + 65 < cLine := by have := r.un; omega
theorem same_upd {H : Hp} {p : Addr} {o : HO} (h : H p = none) : Same H (upd H p o) := fun b x e => by
  rw [upd_ne (ne_of_none e h)]
  exact e
/-- all but a stand as they stood -/
def But (a : Addr) (H H' : Hp) : Prop := ∀ b o, b ≠ a → H b = some o → H' b = some o
theorem But.refl (a : Addr) (H : Hp) : But a H H := fun _ _ _ e => e
theorem But.trans {a : Addr} {H H1 H2 : Hp} (x : But a H H1) (y : But a H1 H2) : But a H H2 := fun b o n e => y b o n (x b o n e)
theorem But.of {a : Addr} {H H1 : Hp} (x : Same H H1) : But a H H1 := fun b o _ e => x b o e
theorem But.upd {a : Addr} {H : Hp} (o : HO) : But a H (upd H a o) := fun b u n e => by
  rw [upd_ne n]
  exact e
/-- what changes is not there at first -/
theorem But.same {a : Addr} {H0 H H' : Hp} (n : H0 a = none) (s : Same H0 H) (x : But a H H') : Same H0 H' := fun b o e => x b o (ne_of_none e n) (s b o e)
/-- a source of numbers: three ints -/
def Src (H : Hp) (a : Addr) : Prop := ∃ g x c : Int, H a = some (.lst [.int g, .int x, .int c])
theorem cut_map (ns : List Int) (lo hi : Option Int) : ∃ ms : List Int, cutV (ns.map V.int) lo hi = ms.map V.int := by
  unfold cutV
  exact ⟨_, by rw [← List.map_drop, ← List.map_take]⟩
theorem at_of' {α : Type} {xs : List α} {z : Int} {j : Nat} {v : α} (e : z = (j : Int)) (h : xs[j]? = some v) : atI xs z = some v := by
  subst e
  exact atI_nat h
theorem str_len_snoc (z : Str) (c : Nat) : (z ++ (⟨#[c]⟩ : Str)).length = z.length + 1 := by
  show (z.cps ++ #[c]).size = z.cps.size + 1
  rw [Array.size_append]
  rfl
theorem But.none {a D : Addr} {H H3 : Hp} (x : But a H H3) (n : H3 D = .none) (h : D ≠ a) : H D = .none := by
  cases e : H D with
  | none => rfl
  | some o =>
    rw [x D o h e] at n
    cases n
theorem But.put {a D : Addr} {H H' : Hp} (x : But a H H') (n : H D = .none) (o : HO) : But a H (L2.upd H' D o) := fun b u nb e => by
  rw [upd_ne (ne_of_none e n)]
  exact x b u nb e
theorem Src.put {a D : Addr} {H : Hp} (x : Src H a) (n : a ≠ D) (o : HO) : Src (upd H D o) a := by
  obtain ⟨g, y, c, e⟩ := x
  exact ⟨g, y, c, by rw [upd_ne n]; exact e⟩
theorem Src.ne {a D : Addr} {H : Hp} (x : Src H a) (n : H D = .none) : a ≠ D := by
  obtain ⟨g, y, c, e⟩ := x
  exact ne_of_none e n
theorem get_map {xs : List Str} {i : Nat} {x : V} (h : (xs.map V.str)[i]? = some x) : ∃ z, x = .str z ∧ xs[i]? = some z := by
  rw [List.getElem?_map] at h
  cases e : xs[i]? with
  | none => rw [e] at h; cases h
  | some z => rw [e] at h; exact ⟨z, (Option.some.inj h).symm, rfl⟩
theorem get_mapR {xs : List Addr} {i : Nat} {x : V} (h : (xs.map V.ref)[i]? = some x) : ∃ z, x = .ref z ∧ z ∈ xs := by
  rw [List.getElem?_map] at h
  cases e : xs[i]? with
  | none => rw [e] at h; cases h
  | some z => rw [e] at h; exact ⟨z, (Option.some.inj h).symm, List.mem_of_getElem? e⟩
section
variable {X : Cx} {tg e : Expr} {w1 w2 : TI}
theorem pi_or (a : PI X tg e w1) (b : PI X tg e w2) : PI X tg e (fun σ H R => w1 σ H R ∨ w2 σ H R) :=
  ⟨fun pins s σ H R I h => h.elim (fun h => a.run pins s σ H R I h) (fun h => b.run pins s σ H R I h)⟩
theorem op_rep_str : OpR X (binaryOp .Mult) (fun x y H Q => ∃ z n, x = .str z ∧ y = .int n ∧ PySem.MulOk z n ∧ Q (.str (Txt.mul z n)) H) := by
  intro pins s σ H x y v u Q I rx ry h
  obtain ⟨z, n, rfl, rfl, hm, q⟩ := h
  obtain ⟨t, rfl⟩ := rx
  obtain ⟨t', rfl⟩ := ry
  exact PySem.SB.mul hm (fun t' tk => ⟨.str _, H, I.tok _, ⟨_, rfl⟩, q⟩)
end
theorem eq_strs {K : PySem.W.Frag} {H : Hp} : ∀ zs : List Str, Paired (EqV K H 1) (zs.map V.str) (zs.map V.str)
  | [] => .nil
  | z :: r => .cons (.inl ⟨rfl, rfl⟩) (eq_strs r)
theorem same_seqT {K : PySem.W.Frag} {H H' : Hp} {a : Addr} {xs : List V} (e : Same H H') (h : SqT K H a xs) : SqT K H' a xs :=
  h.elim (fun r => .inl (r.elim (fun e1 => .inl (e _ _ e1)) (fun ⟨o, e1⟩ => .inr ⟨o, e _ _ e1⟩))) .inr
theorem same_sq {K : PySem.W.Frag} {H H' : Hp} {a : Addr} {xs : List V} (e : Same H H') (h : SqL K H a xs ∨ SqT K H a xs) : SqL K H' a xs ∨ SqT K H' a xs :=
  h.elim (fun h => .inl (e.seq h)) (fun h => .inr (same_seqT e h))
theorem same_put {H H' : Hp} {b : Addr} (x : Same H H') (n : H b = .none) (o : HO) : Same H (upd H' b o) := fun c u e => by
  rw [upd_ne (ne_of_none e n)]
  exact x c u e
/-! ### == of rows of texts and of numbers -/
theorem dp_strs {K : PySem.W.Frag} {H : Hp} : ∀ zs : List Str, DpAll K H (zs.map V.str) (zs.map PyData.str)
  | [] => .nil
  | z :: r => .cons (.str z) (dp_strs r)
theorem dp_ints {K : PySem.W.Frag} {H : Hp} : ∀ zs : List Int, DpAll K H (zs.map V.int) (zs.map PyData.int)
  | [] => .nil
  | z :: r => .cons (.int z) (dp_ints r)
theorem can_strs : ∀ zs : List Str, (∀ z ∈ zs, PyData.strOk z = true) → PyData.canLayAll0 (zs.map PyData.str) = true
  | [], _ => rfl
  | z :: r, h => by
    show (PyData.strOk z && PyData.canLayAll0 (r.map PyData.str)) = true
    rw [can_strs r fun y hy => h y (List.mem_cons_of_mem _ hy), Bool.and_true]
    exact h z (List.mem_cons_self ..)
theorem can_ints : ∀ zs : List Int, PyData.canLayAll0 (zs.map PyData.int) = true
  | [] => rfl
  | z :: r => by
    show (true && PyData.canLayAll0 (r.map PyData.int)) = true
    rw [can_ints r]
    rfl
theorem depth_strs : ∀ zs : List Str, PyData.depthAll (zs.map PyData.str) = 0
  | [] => rfl
  | z :: r => by
    show max 0 (PyData.depthAll (r.map PyData.str)) = 0
    rw [depth_strs r]
    rfl
theorem depth_ints : ∀ zs : List Int, PyData.depthAll (zs.map PyData.int) = 0
  | [] => rfl
  | z :: r => by
    show max 0 (PyData.depthAll (r.map PyData.int)) = 0
    rw [depth_ints r]
    rfl
theorem shaped_l (zs : List Str) (h : ∀ z ∈ zs, PyData.strOk z = true) : SeqAt.shaped (.list (zs.map PyData.str)) = true := by
  unfold SeqAt.shaped
  rw [Bool.and_eq_true]
  refine ⟨can_strs zs h, decide_eq_true ?_⟩
  show PyData.depthAll (zs.map PyData.str) + 1 ≤ 64
  rw [depth_strs]
  decide
theorem shaped_t (zs : List Str) (h : ∀ z ∈ zs, PyData.strOk z = true) : SeqAt.shaped (.tuple (zs.map PyData.str)) = true := by
  unfold SeqAt.shaped
  rw [Bool.and_eq_true]
  refine ⟨can_strs zs h, decide_eq_true ?_⟩
  show PyData.depthAll (zs.map PyData.str) + 1 ≤ 64
  rw [depth_strs]
  decide
theorem shaped_il (zs : List Int) : SeqAt.shaped (.list (zs.map PyData.int)) = true := by
  unfold SeqAt.shaped
  rw [Bool.and_eq_true]
  refine ⟨can_ints zs, decide_eq_true ?_⟩
  show PyData.depthAll (zs.map PyData.int) + 1 ≤ 64
  rw [depth_ints]
  decide
theorem shaped_it (zs : List Int) : SeqAt.shaped (.tuple (zs.map PyData.int)) = true := by
  unfold SeqAt.shaped
  rw [Bool.and_eq_true]
  refine ⟨can_ints zs, decide_eq_true ?_⟩
  show PyData.depthAll (zs.map PyData.int) + 1 ≤ 64
  rw [depth_ints]
  decide
theorem eqv_strs : ∀ xs ys : List Str, PyData.eqvAll (xs.map PyData.str) (ys.map PyData.str) = decide (xs = ys)
  | [], [] => rfl
  | [], y :: s => rfl
  | x :: r, [] => rfl
  | x :: r, y :: s => by
    show ((x == y) && PyData.eqvAll (r.map PyData.str) (s.map PyData.str)) = decide (x :: r = y :: s)
    rw [eqv_strs r s]
    by_cases h : x = y
    · subst h
      simp
    · simp [h]
theorem eqv_ints : ∀ xs ys : List Int, PyData.eqvAll (xs.map PyData.int) (ys.map PyData.int) = decide (xs = ys)
  | [], [] => rfl
  | [], y :: s => rfl
  | x :: r, [] => rfl
  | x :: r, y :: s => by
    show ((x == y) && PyData.eqvAll (r.map PyData.int) (s.map PyData.int)) = decide (x :: r = y :: s)
    rw [eqv_ints r s]
    by_cases h : x = y
    · subst h
      simp
    · simp [h]
theorem ok_app (a b : Str) (ha : PyData.strOk a = true) (hb : PyData.strOk b = true) : PyData.strOk (a ++ b) = true := by
  show (a.cps ++ b.cps).all (· < 0x110000) = true
  rw [Array.all_append]
  exact Bool.and_eq_true_iff.mpr ⟨ha, hb⟩
/-! ### labels, pages, ranges as words -/
def rdN : List Nat → Option Int
  | [a] => if 48 ≤ a ∧ a ≤ 57 then some ((a : Int) - 48) else none
  | [a, b] => if (48 < a ∧ a ≤ 57) ∧ (48 ≤ b ∧ b ≤ 57) then some (((a : Int) - 48) * 10 + ((b : Int) - 48)) else none
  | _ => none
def rdI (z : Str) : Option Int := rdN z.cps.toList
def allSome : List (Option Int) → Option (List Int)
  | [] => some []
  | none :: _ => none
  | some i :: r => match allSome r with | some L => some (i :: L) | none => none
def keep (os : List (Option Int)) : Option (List Int) :=
  match allSome os with
  | some L => if L.length ≤ 3 ∧ L.getLastD 0 ≠ 0 then some L else none
  | none => none
def rdL (z : Str) : Option (List Int) := keep ((Txt.split z ".").map rdI)
abbrev Pg := List Int × Int
def rdP (z : Str) : Option Pg :=
  match z.cps.toList.getLast? with
  | some c => if c = 97 ∨ c = 98 then (match rdL (cutS z none (some (-1))) with | some L => some (L, (c : Int) - 97) | none => none) else none
  | none => none
def rdR (z : Str) : Option (Pg × Pg) :=
  match (Txt.split z "-").map rdP with
  | [some p] => some (p, p)
  | [some p, some q] => some (p, q)
  | _ => none
def rdR2 : List (Option Pg) → Option (Pg × Pg)
  | [some p] => some (p, p)
  | [some p, some q] => some (p, q)
  | _ => none
theorem rdR_eq (z : Str) : rdR z = rdR2 ((Txt.split z "-").map rdP) := by
  unfold rdR
  generalize (Txt.split z "-").map rdP = ps
  match ps with
  | [] => rfl
  | [none] => rfl
  | [some p] => rfl
  | [none, b] => rfl
  | [some p, none] => rfl
  | [some p, some q] => rfl
  | none :: b :: c :: r => rfl
  | some a :: none :: c :: r => rfl
  | some a :: some b :: c :: r => rfl
def okL (L : List Int) : Prop := L.length ≤ 3 ∧ L.getLastD 0 ≠ 0 ∧ ∀ i ∈ L, 0 ≤ i ∧ i ≤ 99
def okP (p : Pg) : Prop := okL p.1 ∧ (p.2 = 0 ∨ p.2 = 1)
def fL (L : List Int) : Str := Txt.join "." (L.map fun i => (toString i : Str))
def fP (p : Pg) : Str := fL p.1 ++ (if p.2 = 0 then ("a" : Str) else "b")
def fR (p q : Pg) : Str := if fP p = fP q then fP p else fP p ++ "-" ++ fP q
def dL (L : List Int) : PyData := .tuple (L.map PyData.int)
def dP (p : Pg) : PyData := .tuple [dL p.1, .int p.2]
def dR (r : Pg × Pg) : PyData := .tuple [dP r.1, dP r.2]
def oD {α : Type} (f : α → PyData) : Option α → PyData
  | none => .none
  | some x => f x
def optI : Option Int → V
  | none => .non
  | some i => .int i
theorem num_all : ((List.range 100).all fun i => decide (((toString (i : Int) : Str)).length ≤ 2) && decide (1 ≤ ((toString (i : Int) : Str)).length) && ((toString (i : Int) : Str)).cps.toList.all (fun c => decide (48 ≤ c ∧ c ≤ 57)) && decide (rdI (toString (i : Int)) = some (i : Int))) = true := by decide +kernel
theorem num_ok {i : Int} (h0 : 0 ≤ i) (h1 : i ≤ 99) : ((toString i : Str)).length ≤ 2 ∧ 1 ≤ ((toString i : Str)).length ∧ (∀ c ∈ ((toString i : Str)).cps.toList, 48 ≤ c ∧ c ≤ 57) ∧ rdI (toString i) = some i := by
  have h := List.all_eq_true.mp num_all i.toNat (List.mem_range.mpr (by omega))
  rw [Int.toNat_of_nonneg h0] at h
  simp only [Bool.and_eq_true, decide_eq_true_eq, List.all_eq_true] at h
  exact ⟨h.1.1.1, h.1.1.2, h.1.2, h.2⟩
theorem int_all : ((List.range 10).all fun i => decide (PySem.intText? (⟨#[48 + i]⟩ : Str) = some (i : Int)) && (List.range 10).all fun j => decide (PySem.intText? (⟨#[48 + i, 48 + j]⟩ : Str) = some ((i : Int) * 10 + (j : Int)))) = true := by decide +kernel
theorem int1 {a : Nat} (h : 48 ≤ a ∧ a ≤ 57) : PySem.intText? (⟨#[a]⟩ : Str) = some ((a : Int) - 48) := by
  have h1 := List.all_eq_true.mp int_all (a - 48) (List.mem_range.mpr (by omega))
  simp only [Bool.and_eq_true, decide_eq_true_eq] at h1
  have h2 := h1.1
  rw [show 48 + (a - 48) = a by omega] at h2
  rw [h2]
  congr 1
  omega
theorem int2 {a b : Nat} (h : 48 ≤ a ∧ a ≤ 57) (hb : 48 ≤ b ∧ b ≤ 57) : PySem.intText? (⟨#[a, b]⟩ : Str) = some (((a : Int) - 48) * 10 + ((b : Int) - 48)) := by
  have h1 := List.all_eq_true.mp int_all (a - 48) (List.mem_range.mpr (by omega))
  simp only [Bool.and_eq_true, decide_eq_true_eq] at h1
  have h2 := List.all_eq_true.mp h1.2 (b - 48) (List.mem_range.mpr (by omega))
  simp only [decide_eq_true_eq] at h2
  rw [show 48 + (a - 48) = a by omega, show 48 + (b - 48) = b by omega] at h2
  rw [h2]
  congr 1
  omega
theorem rd_bound {z : Str} {i : Int} (h : rdI z = some i) : 0 ≤ i ∧ i ≤ 99 := by
  unfold rdI at h
  match e : z.cps.toList with
  | [] => rw [e] at h; cases h
  | [a] =>
    rw [e] at h
    simp only [rdN] at h
    split at h
    · injection h with h; omega
    · cases h
  | [a, b] =>
    rw [e] at h
    simp only [rdN] at h
    split at h
    · injection h with h; omega
    · cases h
  | a :: b :: c :: r => rw [e] at h; cases h
theorem allSome_map (L : List Int) : allSome (L.map some) = some L := by
  induction L with
  | nil => rfl
  | cons i r ih => rw [List.map_cons]; unfold allSome; rw [ih]
theorem keep_ok {L : List Int} (h : okL L) : keep (L.map some) = some L := by
  unfold keep
  rw [allSome_map]
  simp only
  rw [if_pos ⟨h.1, h.2.1⟩]
theorem okL_ne {L : List Int} (h : okL L) : L ≠ [] := fun e => by
  subst e
  exact h.2.1 rfl
theorem rdL_fL {L : List Int} (h : okL L) : rdL (fL L) = some L := by
  unfold rdL fL
  rw [TL.split_join (s := 46) (S := []) (by rfl) (by decide +kernel) (fun e => okL_ne h (List.map_eq_nil_iff.mp e)) fun p hp => ?_]
  · rw [List.map_map]
    have e : L.map (rdI ∘ fun i => (toString i : Str)) = L.map some := List.map_congr_left fun i hi => (num_ok (h.2.2 i hi).1 (h.2.2 i hi).2).2.2.2
    rw [e, keep_ok h]
  · obtain ⟨i, hi, rfl⟩ := List.mem_map.mp hp
    intro hc
    have := (num_ok (h.2.2 i hi).1 (h.2.2 i hi).2).2.2.1 46 hc
    omega
theorem cut_m1 (z : Str) (c : Nat) : cutS (z ++ (⟨#[c]⟩ : Str)) none (some (-1)) = z := by
  unfold cutS
  have e : (z ++ (⟨#[c]⟩ : Str)).cps.toList = z.cps.toList ++ [c] := cps_toList_append z _
  have l : (z ++ (⟨#[c]⟩ : Str)).length = z.length + 1 := str_len_snoc z c
  rw [e, HT.sIx_none, List.drop_zero, l]
  rw [show HT.sIx (z.length + 1) (z.length + 1) (some (-1)) = z.length by
    show ((-1 : Int) + ((z.length + 1 : Nat) : Int)).toNat = z.length
    omega]
  rw [Nat.sub_zero, List.take_left' (show z.cps.toList.length = z.length from rfl)]
theorem rdP_fP {p : Pg} (h : okP p) : rdP (fP p) = some p := by
  obtain ⟨L, s⟩ := p
  obtain ⟨hL, hs⟩ := h
  have key : ∀ c : Nat, rdP (fL L ++ (⟨#[c]⟩ : Str)) = if c = 97 ∨ c = 98 then some (L, (c : Int) - 97) else none := fun c => by
    unfold rdP
    rw [show (fL L ++ (⟨#[c]⟩ : Str)).cps.toList = (fL L).cps.toList ++ [c] from cps_toList_append _ _, List.getLast?_append, cut_m1, rdL_fL hL]
    rfl
  rcases hs with rfl | rfl
  · exact key 97
  · exact key 98
theorem fP_inj {p q : Pg} (hp : okP p) (hq : okP q) (e : fP p = fP q) : p = q := by
  have h := rdP_fP hp
  rw [e, rdP_fP hq] at h
  exact (Option.some.inj h).symm
theorem fL_free {L : List Int} (h : okL L) : ∀ c ∈ (fL L).cps.toList, c ≠ 45 := by
  intro c hc e
  subst e
  unfold fL at hc
  rw [TL.join_eq] at hc
  rcases (mem_join _ _ _).mp hc with ⟨t, ht, h1⟩ | ⟨_, h1⟩
  · obtain ⟨i, hi, rfl⟩ := List.mem_map.mp ht
    have := (num_ok (h.2.2 i hi).1 (h.2.2 i hi).2).2.2.1 45 h1
    omega
  · revert h1
    decide +kernel
theorem fP_free {p : Pg} (h : okP p) : 45 ∉ TL.tl (fP p) := by
  intro hc
  have hc2 : 45 ∈ (fP p).cps.toList := hc
  unfold fP at hc2
  rw [cps_toList_append] at hc2
  rcases List.mem_append.mp hc2 with h1 | h1
  · exact fL_free h.1 45 h1 rfl
  · split at h1 <;> (revert h1; decide +kernel)
theorem rdR_two {p q : Pg} (hp : okP p) (hq : okP q) : rdR (fP p ++ "-" ++ fP q) = some (p, q) := by
  unfold rdR
  have e : fP p ++ "-" ++ fP q = Txt.join "-" [fP p, fP q] := by rw [TL.join_eq]; rfl
  rw [e, TL.split_join (s := 45) (S := []) (by rfl) (by decide +kernel) (by simp) fun z hz => ?_]
  · simp only [List.map_cons, List.map_nil, rdP_fP hp, rdP_fP hq]
  · rcases List.mem_cons.mp hz with h | h
    · rw [h]; exact fP_free hp
    · rw [List.mem_singleton.mp h]; exact fP_free hq
theorem rdR_one {p : Pg} (hp : okP p) : rdR (fP p) = some (p, p) := by
  unfold rdR
  have e : fP p = Txt.join "-" [fP p] := by rw [TL.join_eq]; rfl
  rw [e, TL.split_join (s := 45) (S := []) (by rfl) (by decide +kernel) (by simp) fun z hz => ?_]
  · simp only [List.map_cons, List.map_nil]
    rw [rdP_fP hp]
  · rw [List.mem_singleton.mp hz]; exact fP_free hp
theorem rdR_fR {p q : Pg} (hp : okP p) (hq : okP q) : rdR (fR p q) = some (p, q) := by
  unfold fR
  split
  · rename_i e
    rw [← fP_inj hp hq e]
    exact rdR_one hp
  · exact rdR_two hp hq
theorem fL_len {L : List Int} (h : okL L) : (fL L).length ≤ 8 ∧ 1 ≤ (fL L).length := by
  have hn := okL_ne h
  have l1 : ("." : Str).length = 1 := by decide +kernel
  have ap : ∀ x y : Str, (x ++ y).length = x.length + y.length := fun x y => by
    show (x.cps ++ y.cps).size = _
    rw [Array.size_append]; rfl
  have nn := fun i hi => num_ok (h.2.2 i hi).1 (h.2.2 i hi).2
  unfold fL
  rw [TL.join_eq]
  match L, h, hn, nn with
  | [a], _, _, nn =>
    have := nn a (List.mem_singleton.mpr rfl)
    show ((toString a : Str)).length ≤ 8 ∧ 1 ≤ ((toString a : Str)).length
    omega
  | [a, b], _, _, nn =>
    have h1 := nn a (by simp)
    have h2 := nn b (by simp)
    show ((toString a : Str) ++ "." ++ (toString b : Str)).length ≤ 8 ∧ 1 ≤ ((toString a : Str) ++ "." ++ (toString b : Str)).length
    rw [ap, ap, l1]
    omega
  | [a, b, c], _, _, nn =>
    have h1 := nn a (by simp)
    have h2 := nn b (by simp)
    have h3 := nn c (by simp)
    show ((toString a : Str) ++ "." ++ ((toString b : Str) ++ "." ++ (toString c : Str))).length ≤ 8 ∧ 1 ≤ ((toString a : Str) ++ "." ++ ((toString b : Str) ++ "." ++ (toString c : Str))).length
    rw [ap, ap, ap, ap, l1]
    omega
  | a :: b :: c :: d :: r, h, _, _ => have := h.1; simp only [List.length_cons] at this; omega
theorem fP_len {p : Pg} (h : okP p) : (fP p).length ≤ 9 ∧ 2 ≤ (fP p).length := by
  have h1 := fL_len h.1
  have ap : ∀ x y : Str, (x ++ y).length = x.length + y.length := fun x y => by
    show (x.cps ++ y.cps).size = _
    rw [Array.size_append]; rfl
  unfold fP
  rw [ap]
  have : (if p.2 = 0 then ("a" : Str) else "b").length = 1 := by split <;> decide +kernel
  omega
/-! ### data in the heap -/
def Seq (K : PySem.W.Frag) (H : Hp) (a : Addr) (xs : List V) : Prop := SqL K H a xs ∨ SqT K H a xs
def PageAt (K : PySem.W.Frag) (H : Hp) (v : V) (p : Pg) : Prop := ∃ a l : Addr, v = .ref a ∧ Seq K H a [.ref l, .int p.2] ∧ Seq K H l (p.1.map V.int)
theorem ty_L {K : PySem.W.Frag} {H : Hp} {a : Addr} {xs : List V} (h : SqL K H a xs) : TyX K H (.ref a) (.type "list") := by
  rcases h with (h | ⟨o, h⟩) | ⟨o, its, n, h, c, _⟩
  · exact .base (.lst h)
  · exact .base (.frz h)
  · exact .kList h c
theorem ty_T {K : PySem.W.Frag} {H : Hp} {a : Addr} {xs : List V} (h : SqT K H a xs) : TyX K H (.ref a) (.type "tuple") := by
  rcases h with (h | ⟨o, h⟩) | ⟨o, its, n, h, c, _⟩
  · exact .base (.tup h)
  · exact .fTuple h
  · exact .kTuple h c
theorem kit2_T {K : PySem.W.Frag} : PySem.W.kitAny K (.type "tuple") [.type "tuple", .type "list"] = some true :=
  kitAny_cons (kit_ty (r := true) (by decide +kernel)) (fun h => nomatch h) (fun _ => rfl)
theorem kit2_L {K : PySem.W.Frag} : PySem.W.kitAny K (.type "list") [.type "tuple", .type "list"] = some true :=
  kitAny_cons (kit_ty (r := false) (by decide +kernel)) (fun _ => kitAny_cons (kit_ty (r := true) (by decide +kernel)) (fun h => nomatch h) (fun _ => rfl)) (fun h => nomatch h)
mutual
theorem dp_same {K : PySem.W.Frag} {H H' : Hp} (e : Same H H') : ∀ {v : V} {d : PyData}, Dp K H v d → Dp K H' v d
  | _, _, .non => .non
  | _, _, .bl b => .bl b
  | _, _, .int i => .int i
  | _, _, .str x => .str x
  | _, _, .lst h a => .lst (e.seq h) (dpAll_same e a)
  | _, _, .tup h a => .tup (same_seqT e h) (dpAll_same e a)
theorem dpAll_same {K : PySem.W.Frag} {H H' : Hp} (e : Same H H') : ∀ {vs : List V} {ds : List PyData}, DpAll K H vs ds → DpAll K H' vs ds
  | _, _, .nil => .nil
  | _, _, .cons h a => .cons (dp_same e h) (dpAll_same e a)
end
theorem dpL {K : PySem.W.Frag} {H : Hp} {a : Addr} {L : List Int} (h : SqT K H a (L.map V.int)) : Dp K H (.ref a) (dL L) := .tup h (dp_ints L)
theorem dp_ints_inv {K : PySem.W.Frag} {H : Hp} : ∀ {L : List Int} {vs : List V}, DpAll K H vs (L.map PyData.int) → vs = L.map V.int
  | [], _, .nil => rfl
  | i :: r, _, .cons h a => by
    cases h
    rw [dp_ints_inv a]
    rfl
theorem dL_inv {K : PySem.W.Frag} {H : Hp} {v : V} {L : List Int} (h : Dp K H v (dL L)) : ∃ a, v = .ref a ∧ SqT K H a (L.map V.int) := by
  cases h with
  | tup h a =>
    rw [dp_ints_inv a] at h
    exact ⟨_, rfl, h⟩
theorem dP_inv {K : PySem.W.Frag} {H : Hp} {v : V} {p : Pg} (h : Dp K H v (dP p)) : ∃ a l, v = .ref a ∧ SqT K H a [.ref l, .int p.2] ∧ SqT K H l (p.1.map V.int) := by
  cases h with
  | tup h a =>
    cases a with
    | cons h1 a =>
      cases a with
      | cons h2 a =>
        cases a
        cases h2
        obtain ⟨l, rfl, hl⟩ := dL_inv h1
        exact ⟨_, l, rfl, h, hl⟩
theorem dR_inv {K : PySem.W.Frag} {H : Hp} {v : V} {r : Pg × Pg} (h : Dp K H v (dR r)) : ∃ a x y, v = .ref a ∧ SqT K H a [x, y] ∧ Dp K H x (dP r.1) ∧ Dp K H y (dP r.2) := by
  cases h with
  | tup h a =>
    cases a with
    | cons h1 a =>
      cases a with
      | cons h2 a =>
        cases a
        exact ⟨_, _, _, rfl, h, h1, h2⟩
theorem pageAt_of {K : PySem.W.Frag} {H : Hp} {v : V} {p : Pg} (h : Dp K H v (dP p)) : PageAt K H v p := by
  obtain ⟨a, l, rfl, h1, h2⟩ := dP_inv h
  exact ⟨a, l, rfl, .inr h1, .inr h2⟩
theorem pageAt_same {K : PySem.W.Frag} {H H' : Hp} (e : Same H H') {v : V} {p : Pg} (h : PageAt K H v p) : PageAt K H' v p := by
  obtain ⟨a, l, rfl, h1, h2⟩ := h
  exact ⟨a, l, rfl, same_sq e h1, same_sq e h2⟩
theorem dp_opt {K : PySem.W.Frag} {H : Hp} {v : V} {α : Type} {f : α → PyData} (h : Dp K H v (oD f none)) : v = .non := by
  cases h
  rfl
theorem log_small {n : Nat} (h : n ≤ 99) : n.log2 < 1920 := Nat.lt_of_le_of_lt (Nat.log2_le_self n) (by omega)
section
variable {X : Cx} {e : Expr} {t u : TG}
theorem pg_or (a : PG X e t) (b : PG X e u) : PG X e (fun v σ H Q => t v σ H Q ∨ u v σ H Q) :=
  ⟨fun pins s σ H v w Q I r h => h.elim (fun h => a.run pins s σ H v w Q I r h) (fun h => b.run pins s σ H v w Q I r h)⟩
end
def dg (c : Nat) : Bool := decide (48 ≤ c ∧ c ≤ 57)
theorem dig_in (c : Nat) : decide (c ∈ ("0123456789" : Str).cps.toList) = dg c := by
  have e : ("0123456789" : Str).cps.toList = [48, 49, 50, 51, 52, 53, 54, 55, 56, 57] := by decide +kernel
  unfold dg
  rw [e]
  apply decide_eq_decide.mpr
  simp only [List.mem_cons, List.not_mem_nil, or_false]
  omega
theorem str1 {z : Str} {a : Nat} (h : z.cps.toList = [a]) : z = ⟨#[a]⟩ := TL.ext_tl h
theorem str2 {z : Str} {a b : Nat} (h : z.cps.toList = [a, b]) : z = ⟨#[a, b]⟩ := TL.ext_tl h
theorem len_cps (z : Str) : z.length = z.cps.toList.length := rfl
theorem zero_ne2 (a b : Nat) : (V.str ⟨#[a, b]⟩ = V.str "0") = False := by
  apply propext
  refine ⟨fun h => ?_, False.elim⟩
  injection h with h
  have := congrArg (fun s : Str => s.cps.size) h
  cases this
theorem zero_eq1 (a : Nat) : (V.str ⟨#[a]⟩ = V.str "0") = (a = 48) := by
  apply propext
  refine ⟨fun h => ?_, fun h => by subst h; rfl⟩
  injection h with h
  injection h with h
  exact (List.cons.inj (congrArg Array.toList h)).1
theorem split_cnt (x y : Str) (hy : 1 ≤ y.length) : (Txt.split x y).length ≤ x.length + 1 := by
  have := split_weight x y hy
  omega
theorem mem_sum {zs : List Str} {z : Str} (h : z ∈ zs) : z.length + zs.length ≤ (zs.map (·.length)).sum + zs.length := by
  have : z.length ≤ (zs.map (·.length)).sum := by
    induction zs with
    | nil => cases h
    | cons y r ih =>
      rw [List.map_cons, List.sum_cons]
      rcases List.mem_cons.mp h with e | e
      · rw [e]; omega
      · have := ih e; omega
  omega
theorem split_part (x y : Str) (hy : 1 ≤ y.length) {z : Str} (h : z ∈ Txt.split x y) : z.length ≤ x.length := by
  have h1 := split_weight x y hy
  have h2 := mem_sum h
  have h3 : 1 ≤ (Txt.split x y).length := List.length_pos_of_mem h
  omega
theorem rdI_some {os : List Str} {i : Int} (h : some i ∈ os.map rdI) : 0 ≤ i ∧ i ≤ 99 := by
  obtain ⟨z, _, e⟩ := List.mem_map.mp h
  exact rd_bound e
theorem some_bound {L : List Int} (h : okL L) {i : Int} (hi : some i ∈ L.map some) : 0 ≤ i ∧ i ≤ 99 := by
  obtain ⟨j, hj, e⟩ := List.mem_map.mp hi
  injection e with e
  subst e
  exact h.2.2 _ hj
theorem optI_map (L : List Int) : (L.map some).map optI = L.map V.int := by
  rw [List.map_map]
  rfl
theorem num_fit {L : List Int} (h : okL L) : ((L.map fun i => (toString i : Str)).map (·.length)).sum + (L.map fun i => (toString i : Str)).length * ("." : Str).length ≤ 16777216 := by
  have l1 : ("." : Str).length = 1 := by decide +kernel
  have h1 : ((L.map fun i => (toString i : Str)).map (·.length)).sum ≤ 2 * L.length := by
    have hb := h.2.2
    clear h
    induction L with
    | nil => exact Nat.le_refl _
    | cons i r ih =>
      have hi := num_ok (hb i (List.mem_cons_self ..)).1 (hb i (List.mem_cons_self ..)).2
      have := ih fun j hj => hb j (List.mem_cons_of_mem _ hj)
      simp only [List.map_cons, List.sum_cons, List.length_cons]
      omega
  have h2 := h.1
  rw [l1, List.length_map]
  omega
theorem split_ne (x y : Str) : Txt.split x y ≠ [] := by
  unfold Txt.split
  split
  · simp
  · split
    · simp
    · rw [StrLaws.partsBetween_eq]
      intro h
      generalize Builtin.Str.occurrences x y 0 x.length (x.length + 1) = cuts at h
      cases cuts with
      | nil => cases h
      | cons c r => cases h
theorem seqT_but {K : PySem.W.Frag} {H H' : Hp} {a p : Addr} {xs ys : List V} (ha : H a = some (.lst xs)) (b : But a H H') (h : SqT K H p ys) : SqT K H' p ys :=
  h.elim (fun r => .inl (r.elim (fun e => .inl (b p _ (ne_of e ha (by intro z; cases z)) e)) (fun ⟨o, e⟩ => .inr ⟨o, b p _ (ne_of e ha (by intro z; cases z)) e⟩))) .inr
/-- nothing, ints, tuples -/
def Pn : Nat → PyData → Prop
  | _, .none => True
  | _, .int _ => True
  | n + 1, .tuple ds => ∀ d ∈ ds, Pn n d
  | _, _ => False
mutual
theorem dp_but {K : PySem.W.Frag} {H H' : Hp} {a : Addr} {xs : List V} (ha : H a = some (.lst xs)) (b : But a H H') : ∀ {v : V} {d : PyData}, Dp K H v d → (∃ n, Pn n d) → Dp K H' v d
  | _, _, .non, _ => .non
  | _, _, .bl b, _ => .bl b
  | _, _, .int i, _ => .int i
  | _, _, .str x, _ => .str x
  | _, _, .lst _ _, ⟨n, h⟩ => by cases n <;> exact h.elim
  | _, _, .tup h k, ⟨0, z⟩ => z.elim
  | _, _, .tup h k, ⟨n + 1, z⟩ => .tup (seqT_but ha b h) (dpAll_but ha b k fun d hd => ⟨n, z d hd⟩)
theorem dpAll_but {K : PySem.W.Frag} {H H' : Hp} {a : Addr} {xs : List V} (ha : H a = some (.lst xs)) (b : But a H H') : ∀ {vs : List V} {ds : List PyData}, DpAll K H vs ds → (∀ d ∈ ds, ∃ n, Pn n d) → DpAll K H' vs ds
  | _, _, .nil, _ => .nil
  | _, _, .cons h k, z => .cons (dp_but ha b h (z _ (List.mem_cons_self ..))) (dpAll_but ha b k fun d hd => z d (List.mem_cons_of_mem _ hd))
end
theorem dpAll_snoc {K : PySem.W.Frag} {H : Hp} : ∀ {vs : List V} {ds : List PyData} {v : V} {d : PyData}, DpAll K H vs ds → Dp K H v d → DpAll K H (vs ++ [v]) (ds ++ [d])
  | _, _, _, _, .nil, h => .cons h .nil
  | _, _, _, _, .cons k r, h => .cons k (dpAll_snoc r h)
theorem dpAll_len {K : PySem.W.Frag} {H : Hp} : ∀ {vs : List V} {ds : List PyData}, DpAll K H vs ds → vs.length = ds.length
  | _, _, .nil => rfl
  | _, _, .cons _ r => congrArg (· + 1) (dpAll_len r)
theorem pn_L (L : List Int) : Pn 1 (dL L) := fun d hd => by
  obtain ⟨i, _, rfl⟩ := List.mem_map.mp hd
  trivial
theorem pn_P (p : Pg) : Pn 2 (dP p) := fun d hd => by
  rcases List.mem_cons.mp hd with h | h
  · rw [h]; exact pn_L p.1
  · rw [List.mem_singleton.mp h]; trivial
theorem pn_oL : ∀ o : Option (List Int), Pn 1 (oD dL o)
  | none => trivial
  | some L => pn_L L
theorem pn_oP : ∀ o : Option Pg, Pn 2 (oD dP o)
  | none => trivial
  | some p => pn_P p
theorem lay_pn : ∀ (n : Nat) (d : PyData), Pn n d → d.canLay0 = true ∧ d.depth ≤ n
  | _, .none, _ => ⟨rfl, Nat.zero_le _⟩
  | _, .int _, _ => ⟨rfl, Nat.zero_le _⟩
  | 0, .tuple ds, h => h.elim
  | n + 1, .tuple ds, h => by
    have key : ∀ es : List PyData, (∀ d ∈ es, Pn n d) → PyData.canLayAll0 es = true ∧ PyData.depthAll es ≤ n := by
      intro es
      induction es with
      | nil => exact fun _ => ⟨rfl, Nat.zero_le _⟩
      | cons d r ih =>
        intro hh
        have h1 := lay_pn n d (hh d (List.mem_cons_self ..))
        have h2 := ih fun e he => hh e (List.mem_cons_of_mem _ he)
        refine ⟨?_, ?_⟩
        · show (d.canLay0 && PyData.canLayAll0 r) = true
          rw [h1.1, h2.1]
          rfl
        · show max d.depth (PyData.depthAll r) ≤ n
          omega
    have := key ds h
    exact ⟨this.1, Nat.succ_le_succ this.2⟩
  | _, .bool _, h => by simp [Pn] at h
  | _, .str _, h => by simp [Pn] at h
  | _, .list _, h => by simp [Pn] at h
  | _, .dict _, h => by simp [Pn] at h
theorem shaped_pn {n : Nat} {d : PyData} (h : Pn n d) (hn : n ≤ 64) : SeqAt.shaped d = true := by
  have := lay_pn n d h
  unfold SeqAt.shaped
  rw [Bool.and_eq_true]
  exact ⟨this.1, decide_eq_true (by omega)⟩
theorem shaped_pnl {n : Nat} {ds : List PyData} (h : ∀ d ∈ ds, Pn n d) (hn : n ≤ 63) : SeqAt.shaped (.list ds) = true := by
  have := lay_pn (n + 1) (.tuple ds) h
  unfold SeqAt.shaped
  rw [Bool.and_eq_true]
  exact ⟨this.1, decide_eq_true (by have := this.2; show PyData.depthAll ds + 1 ≤ 64; have e : (PyData.tuple ds).depth = PyData.depthAll ds + 1 := rfl; omega)⟩
theorem none_in (os : List (Option Pg)) : ((os.map (oD dP)).any fun z => PyData.eqv z .none) = os.any (·.isNone) := by
  induction os with
  | nil => rfl
  | cons o r ih =>
    rw [List.map_cons, List.any_cons, List.any_cons, ih]
    cases o <;> rfl
theorem cut_end (z : Str) : (z.cps.toList = [] ∧ cutS z (some (-1)) none = Str.empty) ∨ ∃ c, z.cps.toList.getLast? = some c ∧ cutS z (some (-1)) none = ⟨#[c]⟩ := by
  cases e : z.cps.toList.getLast? with
  | none =>
    have h := List.getLast?_eq_none_iff.mp e
    refine .inl ⟨h, ?_⟩
    unfold cutS
    rw [h]
    simp [Str.empty]
  | some c =>
    refine .inr ⟨c, rfl, ?_⟩
    obtain ⟨l, hl⟩ := List.getLast?_eq_some_iff.mp e
    unfold cutS
    have hz : z.length = l.length + 1 := by
      show z.cps.toList.length = _
      rw [hl, List.length_append]
      rfl
    rw [hz, HT.sIx_none, show HT.sIx (l.length + 1) 0 (some (-1)) = l.length by
      show ((-1 : Int) + ((l.length + 1 : Nat) : Int)).toNat = l.length
      omega, hl, List.drop_left' rfl]
    rw [show l.length + 1 - l.length = 1 by omega]
    rfl
theorem ab_in (y : Str) : inV (.str y) [.str "a", .str "b"] = decide (y = ⟨#[97]⟩ ∨ y = ⟨#[98]⟩) := by
  show ((("a" : Str) == y) || ((("b" : Str) == y) || false)) = _
  have ea : ("a" : Str) = ⟨#[97]⟩ := rfl
  have eb : ("b" : Str) = ⟨#[98]⟩ := rfl
  rw [ea, eb, Bool.or_false]
  by_cases h1 : y = ⟨#[97]⟩
  · subst h1; simp
  · by_cases h2 : y = ⟨#[98]⟩
    · subst h2; simp
    · have h1' : ¬ (⟨#[97]⟩ : Str) = y := fun e => h1 e.symm
      have h2' : ¬ (⟨#[98]⟩ : Str) = y := fun e => h2 e.symm
      simp [h1, h2, h1', h2']
theorem one_inj {a b : Nat} (h : (⟨#[a]⟩ : Str) = ⟨#[b]⟩) : a = b := by
  injection h with h
  exact (List.cons.inj (congrArg Array.toList h)).1
theorem eqv_dP (p q : Pg) : PyData.eqv (dP p) (dP q) = decide (p = q) := by
  show (PyData.eqvAll (p.1.map PyData.int) (q.1.map PyData.int) && ((p.2 == q.2) && true)) = _
  rw [eqv_ints, Bool.and_true]
  obtain ⟨a, b⟩ := p
  obtain ⟨c, d⟩ := q
  by_cases h1 : a = c
  · by_cases h2 : b = d
    · subst h1; subst h2; simp
    · simp [h1, h2]
  · simp [h1]
theorem allSome_none {os : List (Option Int)} (h : none ∈ os) : allSome os = none := by
  induction os with
  | nil => cases h
  | cons o r ih =>
    rcases o with _ | i
    · rfl
    · have h2 : none ∈ r := (List.mem_cons.mp h).resolve_left (by simp)
      unfold allSome
      rw [ih h2]
theorem keep_none {os : List (Option Int)} (h : none ∈ os) : keep os = none := by
  unfold keep
  rw [allSome_none h]
theorem keep_map (L : List Int) : keep (L.map some) = if L.length ≤ 3 ∧ L.getLastD 0 ≠ 0 then some L else none := by
  unfold keep
  rw [allSome_map]
/-! ### data that was laid since -/
mutual
inductive Fd (H0 H : Hp) : V → PyData → Prop
  | int (i : Int) : Fd H0 H (.int i) (.int i)
  | lst {a : Addr} {vs : List V} {ds : List PyData} (h : H a = some (.lst vs)) (n : H0 a = none) (r : FdAll H0 H vs ds) : Fd H0 H (.ref a) (.list ds)
inductive FdAll (H0 H : Hp) : List V → List PyData → Prop
  | nil : FdAll H0 H [] []
  | cons {v : V} {vs : List V} {d : PyData} {ds : List PyData} (h : Fd H0 H v d) (r : FdAll H0 H vs ds) : FdAll H0 H (v :: vs) (d :: ds)
end
mutual
theorem fd_to {H0 H H0' H' : Hp} (hm : ∀ a o, H0 a = none → H a = some o → H0' a = none ∧ H' a = some o) : ∀ {v : V} {d : PyData}, Fd H0 H v d → Fd H0' H' v d
  | _, _, .int i => .int i
  | _, _, .lst h n r => .lst (hm _ _ n h).2 (hm _ _ n h).1 (fdAll_to hm r)
theorem fdAll_to {H0 H H0' H' : Hp} (hm : ∀ a o, H0 a = none → H a = some o → H0' a = none ∧ H' a = some o) : ∀ {vs : List V} {ds : List PyData}, FdAll H0 H vs ds → FdAll H0' H' vs ds
  | _, _, .nil => .nil
  | _, _, .cons h r => .cons (fd_to hm h) (fdAll_to hm r)
end
mutual
theorem fd_dp {K : PySem.W.Frag} {H0 H : Hp} : ∀ {v : V} {d : PyData}, Fd H0 H v d → Dp K H v d
  | _, _, .int i => .int i
  | _, _, .lst h _ r => .lst (.inl (.inl h)) (fdAll_dp r)
theorem fdAll_dp {K : PySem.W.Frag} {H0 H : Hp} : ∀ {vs : List V} {ds : List PyData}, FdAll H0 H vs ds → DpAll K H vs ds
  | _, _, .nil => .nil
  | _, _, .cons h r => .cons (fd_dp h) (fdAll_dp r)
end
theorem fdAll_snoc {H0 H : Hp} : ∀ {vs : List V} {ds : List PyData} {v : V} {d : PyData}, FdAll H0 H vs ds → Fd H0 H v d → FdAll H0 H (vs ++ [v]) (ds ++ [d])
  | _, _, _, _, .nil, h => .cons h .nil
  | _, _, _, _, .cons k r, h => .cons k (fdAll_snoc r h)
theorem fdAll_len {H0 H : Hp} : ∀ {vs : List V} {ds : List PyData}, FdAll H0 H vs ds → vs.length = ds.length
  | _, _, .nil => rfl
  | _, _, .cons _ r => congrArg (· + 1) (fdAll_len r)
theorem fdAll_same {H0 H H' : Hp} (s : Same H H') {vs : List V} {ds : List PyData} (h : FdAll H0 H vs ds) : FdAll H0 H' vs ds := fdAll_to (fun a o n e => ⟨n, s a o e⟩) h
theorem dpAll_get {K : PySem.W.Frag} {H : Hp} : ∀ {vs : List V} {ds : List PyData} {i : Nat} {v : V}, DpAll K H vs ds → vs[i]? = some v → ∃ d, ds[i]? = some d ∧ Dp K H v d
  | _, _, _, _, .nil, e => nomatch e
  | _, _, 0, _, .cons h r, e => by
    injection e with e
    subst e
    exact ⟨_, rfl, h⟩
  | _, _, i + 1, _, .cons h r, e => by
    obtain ⟨d, e1, e2⟩ := dpAll_get (i := i) r e
    exact ⟨d, e1, e2⟩
theorem dpAll_get2 {K : PySem.W.Frag} {H : Hp} {vs : List V} {ds : List PyData} {i : Nat} {d : PyData} (h : DpAll K H vs ds) (e : ds[i]? = some d) : ∃ v, vs[i]? = some v ∧ Dp K H v d := by
  have hi := (List.getElem?_eq_some_iff.mp e).1
  rw [← dpAll_len h] at hi
  have e1 := List.getElem?_eq_getElem hi
  obtain ⟨d', e2, e3⟩ := dpAll_get h e1
  rw [e] at e2
  injection e2 with e2
  subst e2
  exact ⟨_, e1, e3⟩
theorem ixN_end (R : List Int) (x : Int) : ixN ((R ++ [x]).map V.int).length (-1) = some R.length := by
  unfold ixN
  rw [List.length_map, List.length_append, List.length_singleton, if_neg (by decide), if_pos (by omega)]
  congr 1
  omega
theorem set_end (R : List Int) (x v : Int) : ((R ++ [x]).map V.int).set R.length (.int v) = (R ++ [v]).map V.int := by
  rw [List.map_append, List.map_append, List.set_append_right _ _ (by rw [List.length_map]; exact Nat.le_refl _), List.length_map, Nat.sub_self]
  rfl
theorem at_end (R : List Int) (x : Int) : atI ((R ++ [x]).map V.int) (-1) = some (.int x) := by
  rw [List.map_append]
  exact atI_last _ _
/-- a page that was laid apart from a -/
def PT (a : Addr) (H : Hp) (o : Addr) (p : Pg) : Prop := ∃ l, l ≠ a ∧ o ≠ a ∧ H o = some (.tup [.ref l, .int p.2]) ∧ H l = some (.tup (p.1.map V.int))
theorem PT.but {a o : Addr} {H H' : Hp} {p : Pg} (h : PT a H o p) (b : But a H H') : PT a H' o p := by
  obtain ⟨l, h1, h2, h3, h4⟩ := h
  exact ⟨l, h1, h2, b _ _ h2 h3, b _ _ h1 h4⟩
theorem PT.dp {K : PySem.W.Frag} {a o : Addr} {H : Hp} {p : Pg} (h : PT a H o p) : Dp K H (.ref o) (dP p) := by
  obtain ⟨l, h1, h2, h3, h4⟩ := h
  exact .tup (.inl (.inl h3)) (.cons (dpL (.inl (.inl h4))) (.cons (.int _) .nil))
theorem cut_to (z : Str) (k : Int) (h0 : 0 ≤ k) (h1 : k ≤ (z.length : Int)) : (cutS z none (some k)).length = k.toNat := by
  obtain ⟨n, rfl⟩ := Int.eq_ofNat_of_zero_le h0
  show (((z.cps.toList.drop 0).take (HT.sIx z.length z.length (some (n : Int)) - 0)).toArray).size = _
  rw [HT.sIx_nat, List.size_toArray, List.length_take, List.drop_zero, Array.length_toList]
  show min (min n z.length - 0) z.length = _
  omega
theorem cut_from (z : Str) (k : Int) (h0 : 0 ≤ k) : (cutS z (some k) none).length = z.length - k.toNat := by
  obtain ⟨n, rfl⟩ := Int.eq_ofNat_of_zero_le h0
  show (((z.cps.toList.drop (HT.sIx z.length 0 (some (n : Int)))).take (z.length - HT.sIx z.length 0 (some (n : Int)))).toArray).size = _
  rw [HT.sIx_nat, List.size_toArray, List.length_take, List.length_drop, Array.length_toList]
  show min (z.length - min n z.length) (z.length - min n z.length) = _
  omega
theorem at_some {α : Type} (xs : List α) (k : Int) (h0 : 0 ≤ k) (h1 : k < (xs.length : Int)) : ∃ c, atI xs k = some c := by
  obtain ⟨n, rfl⟩ := Int.eq_ofNat_of_zero_le h0
  exact ⟨_, atI_nat (List.getElem?_eq_getElem (show n < xs.length by omega))⟩
/-! ### == and != of lists of plain values that are the same -/
section
variable {X : Cx}
/-- two lists of the same plain values -/
def rSameL (K : PySem.W.Frag) (b : Bool) : R2 := fun x y H Q => ∃ (p q : Addr) (zs : List V), x = .ref p ∧ y = .ref q ∧ H p = some (.lst zs) ∧ H q = some (.lst zs) ∧ (∀ z ∈ zs, flatB z = true) ∧ Q (.bl b) H
theorem same_items {A : Around} {s : Shared} : ∀ {zs : List V} {us ws : List Value}, Vals zs us → Vals zs ws → (∀ z ∈ zs, flatB z = true) → ∀ j (h1 : j < us.length) (h2 : j < ws.length), SeqAt.EqAt A s us[j] ws[j] true
  | [], _, _, .nil, _, _, j, h1, _ => absurd h1 (Nat.not_lt_zero j)
  | z :: r, _, _, .cons a1 b1, .cons a2 b2, f, j, h1, h2 => by
    cases j with
    | zero => exact eqAt_same a1 a2 (f z (List.mem_cons_self ..))
    | succ j => exact same_items b1 b2 (fun y hy => f y (List.mem_cons_of_mem _ hy)) j (Nat.lt_of_succ_lt_succ h1) (Nat.lt_of_succ_lt_succ h2)
theorem op_neS (hu : X.A.units + 64 < cLine) : OpR X (compareOp .NotEq) (rSameL X.K false) := by
  intro pins s σ H x y v u Q I rx ry h
  obtain ⟨p, q, zs, rfl, rfl, hp, hq, hf, k⟩ := h
  obtain rfl : v = Value.ref p := rx
  obtain rfl : u = Value.ref q := ry
  obtain ⟨us, r1, p1, _⟩ := I.list (.inl (.inl hp))
  obtain ⟨ws, r2, p2, _⟩ := I.list (.inl (.inl hq))
  have hsz : us.toArray.size = ws.toArray.size := by
    rw [List.size_toArray, List.size_toArray, ← r1.length, ← r2.length]
  refine SeqAt.RcNeAt.lists (e := fun _ => true) p1.isList p2.isList hsz (by omega) (fun j h1 h2 => ?_) _ _ _ _ ?_
  · have k := same_items (A := X.A.in1) (s := s) r1 r2 hf j (by simpa using h1) (by simpa using h2)
    simpa using k
  · rw [show ((List.range us.toArray.size).all fun _ => true) = true from List.all_eq_true.mpr fun _ _ => rfl]
    exact ⟨.bl false, H, I, rfl, k⟩
end
/-! ### a def that is called where no object is being shown: its promise may count on that (repr) -/
structure GnOk (P : Program) (w : World) (K : PySem.W.Frag) (mg : Str → Option Value) (base : Heap) (CX : CXT) (k : Nat) (f : Addr) (fd : FuncData) (ps : List Str) (sp : Sp) : Prop where
  size : ∀ vs H Q E, sp vs H Q E → vs.length = ps.length
  go : ∀ (A : Around) (outer : List Env) (s : Shared) (H : Hp) (args : Args) (us : List Value) (vs : List V) (Q : VK) (E : XK), Room k A → A.guards = some [] → Env0 P w K mg base A outer s H →
    BindsTo s fd args (ps.zip us) → Vals vs us → sp vs H Q E → codeAny (model P w) A (.call (.ref f) args) (CR CX outer P w H s Q E) s
section
variable {P : Program} {w : World} {K : PySem.W.Frag} {mg : Str → Option Value} {base : Heap}
theorem ce_of {X : Cx} {Q : VK} {σ : L2.St} {H H1 : Hp} {s s1 : Shared} {v : V} {u : Value} (J : Inv X [] σ H1 s1) (r : RelV v u) (q : Q v H1) (e1 : s1.os = s.os) (e2 : Un (frs X.outer) [] H H1 s.heap s1.heap) :
    CE X.outer X.prog X.w H s Q u s1 := ⟨v, H1, e1, J.bare, e2, J.hok, r, q⟩
theorem gn_of {CX : CXT} {k : Nat} {x qual : Str} {st : Stmt} {f : Addr} {fd : FuncData} {N ps : List Str} {sp : Sp} (F : Fun K x qual st f fd) (S : FnScope N ps (defScope st)) (len : ∀ vs H Q E, sp vs H Q E → vs.length = ps.length)
    (body : ∀ (cdv : Value) (A : Around) (outer : List Env) (s : Shared) (H : Hp) (vs : List V) (Q : VK) (E : XK), Room k (A.deeper (envOfC qual (defScope st) s.heap.objs.size f cdv)) → A.guards = some [] → sp vs H Q E →
      ∃ t, PSs (cxOf CX P w K mg base N qual (defScope st) f cdv A outer s H E) (defBody st) t ∧ t { nx := fun _ H' => Q .non H', rt := Q } (start N vs) H) : GnOk P w K mg base CX (k + 1) f fd ps sp := by
  obtain ⟨oc, od, kV, doc, pm, an, cdv, ct, osl, rfl, lk, hcd⟩ := F.ex
  constructor
  · exact len
  intro A outer s H args us vs Q E hr hg env0 bind rel hsp
  have up := env0.bs
  have KX : K.In s.heap := env0.mod.kin.keeps (fun b o e => (up b o e).1)
  refine codeAny_call_function (hroom := hr.depth) (KX _ _ lk) rfl S.co S.gen rfl (PySem.W.codeRec_of KX hcd) (bind _ _ _ _ ?_)
  have kinds : ∀ y ∈ ps.zip us, (defScope st).names.lookup y.1 = some .local ∨
      ((defScope st).names.lookup y.1 = some .cell ∧ ((cellsFrom (s.heap.objs.size + 1) (defScope st).names []).lookup y.1).isSome = true) := by
    rintro ⟨n, v⟩ hy
    exact (S.par n (List.of_mem_zip hy).1).elim .inl (fun q => .inr ⟨q, PySem.W.cellsFrom_some _ _ _ (.inl q)⟩)
  refine wpAny_newFunctionEnv_cells S.kind kinds (fun env he s1 fresh => ?_)
  subst he
  refine ⟨(env0.mod.nolimit.keeps (fun b o e => (up b o e).1)).keeps fresh.toInCall.keep, codeAny_func ?_⟩
  obtain ⟨t, walk, want⟩ := body cdv A outer s H vs Q E (hr.deeper _) hg hsp
  have J := inv_start (CX := CX) (E := E) S hr.hd env0 (len _ _ _ _ hsp) rel fresh
  refine wpAny_mono (walk.run [] s1 (start N vs) H _ J want) ?_ (fun _ _ z => z)
  rintro (_ | _ | _ | u) s2 h
  · obtain ⟨σ2, H2, J2, q⟩ := h
    exact ⟨.non, H2, J2.os, J2.bare, J2.base, J2.hok, rfl, q⟩
  · obtain ⟨_, _, _, q⟩ := h
    exact q.elim
  · obtain ⟨_, _, _, q⟩ := h
    exact q.elim
  · obtain ⟨v, σ2, H2, J2, r, q⟩ := h
    exact ⟨v, H2, J2.os, J2.bare, J2.base, J2.hok, r, q⟩
end
section
variable {X : Cx} {CX : CXT} {k : Nat} {f : Addr} {fd : FuncData} {ps : List Str} {sp : Sp} {E : XK} {x : Str} {p pos : Pos} {e : Expr} {es : List Expr} {t : TA}
/-- such a def is called by its name -/
theorem pe_callG (F : GnOk X.prog X.w X.K X.mg X.base CX k f fd ps sp) (hr : Room k X.A) (hg : X.A.guards = some []) (gl : Gl X x) (hm : X.mg x = some (.ref f)) (hk : PySem.W.keepIn X.K (.ref f) = true) (hb : Binds X.K fd ps []) (hx : Passes CX X E)
    (ha : PA X (e :: es) t) (hdb : (x == ("__debug__" : Str)) = false := by decide) (he : starEach (e :: es) X.env = (false, eval e X.env) :: starEach es X.env := by rfl) (hpl : (backTo pos (starEach es X.env)).any (·.1) = false := by rfl) :
    PE X (.Call (.Name x p) (e :: es) [] pos) (tCall sp [] E t) := by
  constructor
  intro pins s σ H Q I h
  refine wpAny_Call_Name_kw (ld_glob I gl hm ?_ hdb)
  refine PySem.W.callWith_K (h₀ := X.base) I.ok.mod.kin hk ?_ he hpl
  refine thn (ha.run pos pins s σ H _ I h) ?_
  rintro us s1 ⟨vs, H1, I1, rel, q⟩
  refine ⟨I1.kIn, ?_⟩
  have q : sp vs H1 Q E := by rw [List.append_nil] at q; exact q
  have bd := hb s1 us I1.kIn (by rw [List.append_nil, ← rel.length]; exact F.size _ _ _ _ q)
  rw [List.append_nil] at bd
  refine wpAny_call (codeAny_mono (F.go X.A X.stack s1 H1 _ us vs Q E hr hg I1.env0 bd rel q) ?_)
  rintro (er | fl) s2 h2
  · exact hx pins σ H1 s1 er s2 I1 h2
  · rcases fl with _ | _ | _ | u
    · exact h2.elim
    · exact h2.elim
    · exact h2.elim
    · exact I1.after h2
end
section
variable {P : Program} {w : World} {K : PySem.W.Frag} {mg mb : Str → Option Value} {CX : CXT} {k : Nat} {fa a : Addr} {fd : FuncData} {x : Str} {sp : Sp} {s₁ : Shared} {vs : List Value} {ns : List Int}
/-- what the top asks of the law's call -/
def Ended (s₁ : Shared) (r : Result) (s' : Shared) : Prop := r = .ok (.ret (.bool true)) ∧ OldK s₁.heap s'.heap ∧ s'.os = s₁.os ∧ AllBare s'.gens
theorem only_at {H : Hp} (hA : ∀ b, H b ≠ none → b = a) {b : Addr} {u : HO} (q : H b = some u) : b = a := hA b (fun z => by rw [q] at z; cases z)
theorem go_with {H : Hp} (KX : K.In s₁.heap) (hns : s₁.heap.Ns mainGlobals mg) (hb : s₁.heap.Ns builtinsNs mb) (hbb : ∀ x : Str, x ≠ "__name__" → mb x = bootBuiltins x) (hlim : s₁.heap.NoLimit) (hg : s₁.gens = #[])
    (ha : s₁.heap.get? a = some { cls := .type "list", data := .seq vs.toArray }) (hr : Room k callerA) (F : ∀ base : Heap, K.In base → base.Ns mainGlobals mg → GnOk P w K mg base CX k fa fd [x] sp)
    (hbind : ∀ (s : Shared) (u : Value), BindsTo s fd ⟨[u], []⟩ [(x, u)]) (hO : Only H) (hok : HOk P w H s₁.heap) (hA : ∀ b, H b ≠ none → b = a) (hK : H a ≠ none → K.lookup a = none)
    (hsp : sp [.ref a] H (fun v _ => v = .bl true) fun _ _ _ => False) (hCX : ∀ e s', CX [] H s₁ (fun _ _ _ => False) e s' → False) : codeAny (model P w) callerA (.call (.ref fa) ⟨[.ref a], []⟩) (Ended s₁) s₁ := by
  -- a dict, and what is written, is not the script: it stands in the rest too
  have dicts : ∀ {b : Addr} {m : Str → Option Value}, s₁.heap.Ns b m → (hidT s₁.heap H).Ns b m := by
    rintro b m ⟨o, es, ep, e, d, r⟩
    refine ⟨o, es, ep, hidT_get e ?_, d, r⟩
    cases q : H b with
    | none => rfl
    | some u =>
      have z := only_at hA q
      rw [z, ha] at e
      cases e
      have d2 : Data.seq vs.toArray _ = Data.dict es ep := d
      cases d2
  have written : K.In (hidT s₁.heap H) := by
    intro b o e
    refine hidT_get (KX b o e) ?_
    cases q : H b with
    | none => rfl
    | some u =>
      have z := only_at hA q
      subst z
      rw [hK (fun z => by rw [q] at z; cases z)] at e
      cases e
  obtain ⟨mc, l1, l2⟩ := hlim
  have M : Mod K mg (hidT s₁.heap H) := ⟨written, dicts hns, ⟨mb, dicts hb, hbb⟩, ⟨mc, dicts l1, l2⟩⟩
  have env0 : Env0 P w K mg (hidT s₁.heap H) callerA [] s₁ H := { frames := rfl, mod := M, bs := fun b o e => of_hidT e, bsz := Nat.le_of_eq (hidT_size _ _), funs := trivial, frf := (fun b z => by cases z), hok := hok, bare := .of_eq hg }
  have run := (F _ written (dicts hns)).go callerA [] s₁ H ⟨[.ref a], []⟩ [.ref a] [.ref a] _ _ hr rfl env0 (hbind s₁ (.ref a)) (.cons rfl .nil) hsp
  refine codeAny_mono run ?_
  rintro (e | _ | _ | _ | u) s' h
  · exact (hCX e s' h).elim
  · exact h.elim
  · exact h.elim
  · exact h.elim
  obtain ⟨v, H', os, bare, un, hok', r', q⟩ := h
  obtain rfl : v = .bl true := q
  obtain rfl : u = Value.bool true := r'
  refine ⟨rfl, OldK.of_keep ?_, os, bare⟩
  intro b o e
  cases q : H b with
  | none => exact un.keep b o e q (fun z => by cases z) (fun z => by cases z)
  | some u =>
    rcases hO b with z | ⟨ob, xs, z⟩
    · rw [q] at z
      cases z
    · obtain ⟨e1, _⟩ := hok b _ z
      obtain ⟨e2, _⟩ := hok' b _ (un.frzs b ob _ z)
      rw [e] at e1
      cases e1
      exact e2
/-- the script alone is tracked -/
def script (a : Addr) (vs : List Value) (ns : List Int) : Hp := fun b => if b = a then some (.frz { cls := .type "list", data := .seq vs.toArray } (.lst (ns.map V.int))) else Option.none
theorem script_at : script a vs ns a = some (.frz { cls := .type "list", data := .seq vs.toArray } (.lst (ns.map V.int))) := if_pos rfl
theorem script_ne {b : Addr} (h : b ≠ a) : script a vs ns b = Option.none := if_neg h
theorem law_goG (KX : K.In s₁.heap) (hns : s₁.heap.Ns mainGlobals mg) (hb : s₁.heap.Ns builtinsNs mb) (hbb : ∀ x : Str, x ≠ "__name__" → mb x = bootBuiltins x) (hlim : s₁.heap.NoLimit) (hg : s₁.gens = #[])
    (ha : s₁.heap.get? a = some { cls := .type "list", data := .seq vs.toArray }) (hi : IntsAre vs ns) (hl : ns.length ≤ sizeLine) (hr : Room k callerA) (F : ∀ base : Heap, K.In base → base.Ns mainGlobals mg → GnOk P w K mg base CX k fa fd [x] sp)
    (hbind : ∀ (s : Shared) (u : Value), BindsTo s fd ⟨[u], []⟩ [(x, u)]) (hsp : ∀ H : Hp, Only H → SqL K H a (ns.map V.int) → sp [.ref a] H (fun v _ => v = .bl true) fun _ _ _ => False)
    (hCX : ∀ H e s', CX [] H s₁ (fun _ _ _ => False) e s' → False) : codeAny (model P w) callerA (.call (.ref fa) ⟨[.ref a], []⟩) (Ended s₁) s₁ := by
  have rv := vals_ints hi
  cases hk : K.lookup a with
  | some o =>
    have e := (KX a o hk).symm.trans ha
    cases e
    have hO : Only (fun _ => Option.none) := fun _ => .inl rfl
    have hS : SqL K (fun _ => Option.none) a (ns.map V.int) := .inr ⟨_, vs.toArray, _, hk, rfl, rfl, rfl, by rw [List.size_toArray, hi.length]; exact hl, by simpa using rv⟩
    exact go_with KX hns hb hbb hlim hg ha hr F hbind hO (fun b u z => by have z' : (Option.none : Option HO) = some u := z; cases z') (fun b z => absurd rfl z) (fun z => absurd rfl z) (hsp _ hO hS) (hCX _)
  | none =>
    have hO : Only (script a vs ns) := fun b => by
      by_cases q : b = a
      · subst q
        exact .inr ⟨_, _, script_at⟩
      · exact .inl (script_ne q)
    refine go_with KX hns hb hbb hlim hg ha hr F hbind hO ?_ ?_ (fun _ => hk) (hsp _ hO (.inl (.inr ⟨_, script_at⟩))) (hCX _)
    · intro b u z
      by_cases q : b = a
      · subst q
        rw [script_at] at z
        cases z
        exact ⟨ha, by rw [List.length_map]; exact hl, vs, _, rv, ha⟩
      · rw [script_ne q] at z
        cases z
    · intro b z
      by_cases q : b = a
      · exact q
      · exact absurd (script_ne q) z
end
/-- the goal behind k_head, for a law whose def counts on it -/
theorem walk_ofG {l : PySem.W.OpenLaw} {n k : Nat} {q : Program} {loose : List Str} {XP : (Str → Option Value) → Heap → Prop} {YP : World → Heap → Prop} {d : DefRec} {K : Params → PySem.W.Frag} {CX : World → CXT} {sp : World → Sp} {x : Str}
    (hn : l.most = some n) (hn2 : n ≤ sizeLine) (hdf : d.params.defaults = []) (hr : Room k callerA) (hY : ∀ (w : World) (h : Heap), YP w h → (K w.params).In h)
    (F : ∀ (w : World) (mg : Str → Option Value) (fa : Addr) (h : Heap), (K w.params).In h → h.Ns mainGlobals mg → mg d.name = some (.ref fa) → ∃ fd : FuncData, (∀ (s : Shared) (u : Value), BindsTo s fd ⟨[u], []⟩ [(x, u)]) ∧
      ∀ base : Heap, (K w.params).In base → base.Ns mainGlobals mg → GnOk l.prog w (K w.params) mg base (CX w) k fa fd [x] (sp w))
    (hsp : ∀ (w : World) (H : Hp) (a : Addr) (ns : List Int), ns.length ≤ n → Only H → SqL (K w.params) H a (ns.map V.int) → sp w [.ref a] H (fun v _ => v = .bl true) fun _ _ _ => False)
    (hCX : ∀ (w : World) (H : Hp) (s : Shared) (e : Value) (s' : Shared), CX w [] H s (fun _ _ _ => False) e s' → False) : PySem.W.WalkO q loose XP YP l.row.toRowW d [] (fun f vs => PySem.call f vs) := by
  refine Att.attach_call hn hdf ?_
  intro w s₀ s₁ mg mb fa o pm cd doc a vs ns G Y ho hd hcd hmg hobj hints hlen hg
  obtain ⟨fd, hb, hF⟩ := F w mg fa _ (hY w _ Y) G.T.g hmg
  exact law_goG (hY w _ Y) G.T.g G.T.b G.T.builtins G.T.nolimit hg hobj hints (Nat.le_trans hlen hn2) hr hF hb (fun H h1 h2 => hsp w H a ns hlen h1 h2) (fun H e s' => hCX w H s₁ e s')
/-- for a def that nothing leaves -/
theorem gn_ok {P : Program} {w : World} {K : PySem.W.Frag} {mg : Str → Option Value} {base : Heap} {k : Nat} {x qual : Str} {st : Stmt} {f : Addr} {fd : FuncData} {N ps : List Str} {sp : Sp} (F : Fun K x qual st f fd) (S : FnScope N ps (defScope st))
    (len : ∀ vs H Q E, sp vs H Q E → vs.length = ps.length) (body : ∀ (cdv : Value) (A : Around) (outer : List Env) (s : Shared) (H : Hp) (vs : List V) (Q : VK) (E : XK), Room k (A.deeper (envOfC qual (defScope st) s.heap.objs.size f cdv)) → A.guards = some [] → sp vs H Q E →
      ∃ t, PSs (cxOf CX0 P w K mg base N qual (defScope st) f cdv A outer s H E).nox (defBody st) t ∧ t { nx := fun _ H' => Q .non H', rt := Q } (start N vs) H) : GnOk P w K mg base CX0 (k + 1) f fd ps sp :=
  gn_of F S len (fun cdv A outer s H vs Q E hr hg h => (body cdv A outer s H vs Q E hr hg h).elim fun t z => ⟨t, z.1.nox, z.2⟩)
theorem un20 {k : Nat} {A : Around} (r : Room k A) : A.units + 20 < cLine := by have := r.un; omega
/-! ### repr of data, where no object is being shown -/
def rReprD (K : PySem.W.Frag) : List V → Hp → VK → Prop := fun xs H Q => ∃ (v : V) (d : PyData), xs = [v] ∧ Dp K H v d ∧ d.showable = true ∧ d.hasDict = false ∧ d.depth ≤ 8 ∧ d.shown.length ≤ sizeLine ∧ Q (.str d.shown) H
theorem call_reprD {X : Cx} (hg : X.A.guards = some []) (hu : X.A.units + 20 < cLine) : CallR X (.builtin "repr") (rReprD X.K) := by
  intro pins s σ H xs us Q I r h
  obtain ⟨v, d, rfl, hd, h1, h2, h3, h4, q⟩ := h
  obtain ⟨u, rfl, ru⟩ := vals1 r
  obtain ⟨as, R⟩ := Dp.reads I d v u hd ru
  cases v with
  | ref a =>
    obtain rfl : u = Value.ref a := ru
    refine repr_of_reads' R h1 (fun z => by rw [h2] at z; cases z) hg (by omega) (fun _ _ z => z) (fun h' u tk hk => ?_) h4
    exact ⟨.str _, H, I.kept (t' := tk) hk, ⟨_, rfl⟩, q⟩
  | non =>
    cases hd
    cases ru
    exact PySem.P.repr_of_none ⟨.str _, H, I.tok _, ⟨_, rfl⟩, q⟩
  | bl b =>
    cases hd
    cases ru
    exact PySem.P.repr_of_bool ⟨.str _, H, I.tok _, ⟨_, rfl⟩, q⟩
  | int i =>
    cases hd
    obtain ⟨t, rfl⟩ := ru
    have hz : i.natAbs.log2 < 1920 := of_decide_eq_true h1
    exact PySem.P.repr_of_int hz ⟨.str _, H, I.tok _, ⟨_, rfl⟩, q⟩
  | str z =>
    cases hd
    obtain ⟨t, rfl⟩ := ru
    exact PySem.P.repr_of_str ⟨.str _, H, I.tok _, ⟨_, rfl⟩, q⟩ h4
  | _ => cases hd
theorem call_reprS {X : Cx} {a : Addr} {oe : Obj} {pn : List (Addr × Obj)} (hg : X.A.guards = some []) (hu : X.A.units + 20 < cLine) : CallR (X.suite a ((a, oe) :: pn)) (.builtin "repr") (rReprD X.K) := call_reprD (X := X.suite a ((a, oe) :: pn)) hg hu
/-! ### what is kept of a thing as a label -/
def ok99 (L : List Int) : Prop := ∀ i ∈ L, 0 ≤ i ∧ i ≤ 99
theorem getD_99 {L : List Int} (h : ok99 L) (n : Nat) : 0 ≤ L.getD n 0 ∧ L.getD n 0 ≤ 99 := by
  rw [List.getD_eq_getElem?_getD]
  cases e : L[n]? with
  | none => exact ⟨by decide, by decide⟩
  | some i => exact h i (List.mem_of_getElem? e)
def items : PyData → Option (List PyData)
  | .list ds => some ds
  | .tuple ds => some ds
  | _ => none
def isI : PyData → Bool
  | .int _ => true
  | _ => false
def toO : PyData → Option Int
  | .int i => if 0 ≤ i ∧ i ≤ 99 then some i else none
  | _ => none
def keptD (d : PyData) : Option (List Int) := match items d with
  | some ds => keep (ds.map toO)
  | none => none
def wI (l m : Int) : PyData → Bool
  | .int i => decide (l ≤ i ∧ i ≤ m)
  | _ => false
theorem toO_some (d : PyData) : (toO d).isSome = wI 0 99 d := by
  cases d with
  | int i =>
    show (if 0 ≤ i ∧ i ≤ 99 then some i else none).isSome = decide (0 ≤ i ∧ i ≤ 99)
    by_cases h : 0 ≤ i ∧ i ≤ 99
    · rw [if_pos h, decide_eq_true h]; rfl
    · rw [if_neg h, decide_eq_false h]; rfl
  | _ => rfl
theorem toO_ints {L : List Int} (h : ok99 L) : (L.map PyData.int).map toO = L.map some := by
  rw [List.map_map]
  exact List.map_congr_left fun i hi => if_pos (h i hi)

/-- no lists in it -/
def Nl : Nat → PyData → Prop
  | _, .none => True
  | _, .int _ => True
  | _, .bool _ => True
  | _, .str _ => True
  | n + 1, .tuple ds => ∀ d ∈ ds, Nl n d
  | _, _ => False
mutual
theorem dp_butN {K : PySem.W.Frag} {H H' : Hp} {a : Addr} {xs : List V} (ha : H a = some (.lst xs)) (b : But a H H') : ∀ {v : V} {d : PyData}, Dp K H v d → (∃ n, Nl n d) → Dp K H' v d
  | _, _, .non, _ => .non
  | _, _, .bl b, _ => .bl b
  | _, _, .int i, _ => .int i
  | _, _, .str x, _ => .str x
  | _, _, .lst _ _, ⟨n, h⟩ => by cases n <;> exact h.elim
  | _, _, .tup h k, ⟨0, z⟩ => z.elim
  | _, _, .tup h k, ⟨n + 1, z⟩ => .tup (seqT_but ha b h) (dpAll_butN ha b k fun d hd => ⟨n, z d hd⟩)
theorem dpAll_butN {K : PySem.W.Frag} {H H' : Hp} {a : Addr} {xs : List V} (ha : H a = some (.lst xs)) (b : But a H H') : ∀ {vs : List V} {ds : List PyData}, DpAll K H vs ds → (∀ d ∈ ds, ∃ n, Nl n d) → DpAll K H' vs ds
  | _, _, .nil, _ => .nil
  | _, _, .cons h k, z => .cons (dp_butN ha b h (z _ (List.mem_cons_self ..))) (dpAll_butN ha b k fun d hd => z d (List.mem_cons_of_mem _ hd))
end
theorem kit2_no {K : PySem.W.Frag} {t : String} (h1 : kitB t "tuple" = some false) (h2 : kitB t "list" = some false) : PySem.W.kitAny K (.type t) [.type "tuple", .type "list"] = some false :=
  kitAny_cons (kit_ty h1) (fun _ => kitAny_cons (kit_ty h2) (fun _ => rfl) (fun z => by cases z)) (fun z => by cases z)
theorem allSome_all : ∀ {os : List (Option Int)} {L : List Int}, allSome os = some L → os = L.map some
  | [], L, h => by
    cases h
    rfl
  | none :: r, L, h => by cases h
  | some i :: r, L, h => by
    unfold allSome at h
    split at h
    · rename_i L' e
      cases h
      rw [allSome_all e]
      rfl
    · cases h
theorem map_bl (ds : List PyData) : (ds.map fun d => V.bl (wI 0 99 d)) = (ds.map (wI 0 99)).map V.bl := (List.map_map ..).symm
theorem all_bl (ds : List PyData) : (ds.map (wI 0 99)).all id = ds.all (wI 0 99) := by
  rw [List.all_map]
  rfl
theorem all_ints : ∀ {ds : List PyData}, ds.all (wI 0 99) = true → ∃ L : List Int, ds = L.map PyData.int ∧ ok99 L
  | [], _ => ⟨[], rfl, fun _ h => nomatch h⟩
  | d :: r, h => by
    rw [List.all_cons, Bool.and_eq_true] at h
    obtain ⟨L, e, hL⟩ := all_ints h.2
    cases d with
    | int i =>
      have hi := of_decide_eq_true h.1
      refine ⟨i :: L, by rw [e]; rfl, fun j hj => ?_⟩
      rcases List.mem_cons.mp hj with z | z
      · rw [z]; exact hi
      · exact hL j z
    | _ => cases h.1
theorem not_all {ds : List PyData} (h : ds.all (wI 0 99) = false) : none ∈ ds.map toO := by
  obtain ⟨d, hd, e⟩ := List.all_eq_false.mp h
  refine List.mem_map.mpr ⟨d, hd, ?_⟩
  cases q : toO d with
  | none => rfl
  | some i =>
    have := toO_some d
    rw [q] at this
    exact absurd this.symm e
/-- what stands behind an own error that was made: its dict alone is new -/
theorem toO_bd {d : PyData} {i : Int} (h : toO d = some i) : 0 ≤ i ∧ i ≤ 99 := by
  cases d with
  | int j =>
    have h : (if 0 ≤ j ∧ j ≤ 99 then some j else none) = some i := h
    by_cases hj : 0 ≤ j ∧ j ≤ 99
    · rw [if_pos hj] at h
      cases h
      exact hj
    · rw [if_neg hj] at h
      cases h
  | _ => cases h
theorem keep_some {os : List (Option Int)} {L : List Int} (h : keep os = some L) : os = L.map some ∧ L.length ≤ 3 ∧ L.getLastD 0 ≠ 0 := by
  unfold keep at h
  cases e : allSome os with
  | none => rw [e] at h; cases h
  | some M =>
    rw [e] at h
    simp only at h
    split at h
    · rename_i hM
      cases h
      exact ⟨allSome_all e, hM⟩
    · cases h
theorem kept_okL {d : PyData} {L : List Int} (h : keptD d = some L) : okL L := by
  unfold keptD at h
  cases e : items d with
  | none => rw [e] at h; cases h
  | some ds =>
    rw [e] at h
    simp only at h
    obtain ⟨h1, h2, h3⟩ := keep_some h
    refine ⟨h2, h3, fun i hi => ?_⟩
    have : some i ∈ ds.map toO := by rw [h1]; exact List.mem_map_of_mem hi
    obtain ⟨d, _, q⟩ := List.mem_map.mp this
    exact toO_bd q
theorem kept_ok {d : PyData} {L : List Int} (h : keptD d = some L) : ok99 L ∧ L.length ≤ 3 ∧ L ≠ [] := by
  have := kept_okL h
  exact ⟨this.2.2, this.1, okL_ne this⟩
theorem cutV_to (xs : List V) (n : Nat) : cutV xs none (some (n : Int)) = xs.take n := by
  unfold cutV
  rw [HT.sIx_none, HT.sIx_nat, List.drop_zero, Nat.sub_zero]
  by_cases h : n ≤ xs.length
  · rw [Nat.min_eq_left h]
  · rw [Nat.min_eq_right (by omega), List.take_length, List.take_of_length_le (by omega)]
theorem okL_snoc {R : List Int} {z : Int} (h : ok99 R) (l : R.length ≤ 2) (h1 : 1 ≤ z) (h9 : z ≤ 99) : okL (R ++ [z]) := by
  refine ⟨by rw [List.length_append]; show R.length + 1 ≤ 3; omega, ?_, fun i hi => ?_⟩
  · rw [List.getLastD_eq_getLast?, List.getLast?_append]
    show z ≠ 0
    omega
  · rcases List.mem_append.mp hi with e | e
    · exact h i e
    · rw [List.mem_singleton.mp e]; omega
theorem okL_split {L : List Int} (h : okL L) : ∃ R z, L = R ++ [z] ∧ ok99 R ∧ R.length ≤ 2 ∧ 1 ≤ z ∧ z ≤ 99 := by
  have hne := okL_ne h
  obtain ⟨R, z, rfl⟩ : ∃ R z, L = R ++ [z] := ⟨_, _, (List.dropLast_concat_getLast hne).symm⟩
  have hz := h.2.2 z (by simp)
  have hz0 : z ≠ 0 := by
    have := h.2.1
    rw [List.getLastD_eq_getLast?, List.getLast?_append] at this
    exact this
  have hl := h.1
  rw [List.length_append] at hl
  exact ⟨R, z, rfl, fun i hi => h.2.2 i (List.mem_append_left _ hi), by have : R.length + 1 ≤ 3 := hl; omega, by omega, hz.2⟩
theorem src_lst {H : Hp} {a : Addr} (s : Src H a) : ∃ xs, H a = some (.lst xs) := by
  obtain ⟨g, x, c, e⟩ := s
  exact ⟨_, e⟩
theorem sqT_src {K : PySem.W.Frag} {H H' : Hp} {a p : Addr} {ys : List V} (s : Src H a) (b : But a H H') (h : SqT K H p ys) : SqT K H' p ys := by
  obtain ⟨xs, e⟩ := src_lst s
  exact seqT_but e b h
theorem dpN_src {K : PySem.W.Frag} {H H' : Hp} {a : Addr} {v : V} {d : PyData} (s : Src H a) (b : But a H H') (h : Dp K H v d) (n : ∃ n, Nl n d) : Dp K H' v d := by
  obtain ⟨xs, e⟩ := src_lst s
  exact dp_butN e b h n
theorem nl_L (L : List Int) : ∃ n, Nl n (dL L) := ⟨1, fun d hd => by
  obtain ⟨i, _, rfl⟩ := List.mem_map.mp hd
  trivial⟩
theorem nl_O (o : Option (List Int)) : ∃ n, Nl n (oD dL o) := by
  cases o with
  | none => exact ⟨0, trivial⟩
  | some L => exact nl_L L
theorem srcN {H : Hp} {a p : Addr} (s : Src H a) (n : H p = none) (o : HO) : Src (upd H p o) a := s.put (s.ne n) o
theorem sIx_m1 (n : Nat) : HT.sIx n n (some (-1)) = n - 1 := by
  show ((-1 : Int) + (n : Int)).toNat = n - 1
  omega
theorem cut_last (xs : List V) : cutV xs none (some (-1)) = xs.dropLast := by
  unfold cutV
  rw [sIx_m1, HT.sIx_none, List.drop_zero, Nat.sub_zero, List.dropLast_eq_take]
/-! ### refused things: short, without lists -/
theorem cat_go {K : PySem.W.Frag} {H : Hp} {Q : VK} {a b : Addr} {xs ys : List V} (ha : SqT K H a xs) (hb : SqT K H b ys) (hl : xs.length + ys.length ≤ 1000) (h : ∀ c H', Same H H' → SqT K H' c (xs ++ ys) → Q (.ref c) H') : rCatA K (.ref a) (.ref b) H Q :=
  ⟨a, b, xs, ys, rfl, rfl, ha, hb, Nat.le_of_lt (small1000 hl), fun e => h b H (Same.refl H) (by rw [e]; exact hb), fun _ e => h a H (Same.refl H) (by rw [e, List.append_nil]; exact ha), fun _ _ p np => h p _ (same_upd np) (.inl (.inl upd_same))⟩
theorem cut_whole {xs : List V} {lo hi : Option Int} (h : HT.sIx xs.length 0 lo = 0 ∧ HT.sIx xs.length xs.length hi = xs.length) : cutV xs lo hi = xs := by
  unfold cutV
  rw [h.1, h.2, List.drop_zero, Nat.sub_zero, List.take_length]
theorem sl_go {K : PySem.W.Frag} {H : Hp} {Q : VK} {a : Addr} {xs : List V} {lo hi : Option Int} (ha : SqT K H a xs) (h : ∀ c H', Same H H' → SqT K H' c (cutV xs lo hi) → Q (.ref c) H') : rSlA K (.ref a) lo hi H Q :=
  ⟨a, xs, rfl, ha, fun e => h a H (Same.refl H) (by rw [cut_whole e]; exact ha), fun _ p np => h p _ (same_upd np) (.inl (.inl upd_same))⟩
theorem cutV_from (xs : List V) (k : Nat) : cutV xs (some (k : Int)) none = xs.drop k := by
  unfold cutV
  rw [HT.sIx_nat]
  have e : HT.sIx xs.length xs.length none = xs.length := HT.sIx_none ..
  rw [e]
  by_cases h : k ≤ xs.length
  · rw [Nat.min_eq_left h, List.take_of_length_le]
    rw [List.length_drop]
    omega
  · rw [Nat.min_eq_right (by omega), Nat.sub_self, List.take_zero, List.drop_eq_nil_of_le (by omega)]
theorem dpAll_app {K : PySem.W.Frag} {H : Hp} : ∀ {vs ws : List V} {ds es : List PyData}, DpAll K H vs ds → DpAll K H ws es → DpAll K H (vs ++ ws) (ds ++ es)
  | _, _, _, _, .nil, h => h
  | _, _, _, _, .cons k r, h => .cons k (dpAll_app r h)
/-! ### own errors: made with nothing, asked for their classes -/
section
variable {X : Cx} {C : Addr} {bmB : List Value} {B newId initId : String}
/-- X() -/
theorem pmk_own0 {x : Str} {p pos : Pos} (F : ExcBaseFacts B newId initId bmB) (q : PySem.W.excIn X.K C bmB newId = true) (gC : X.mg x = some (.ref C)) (kC : PySem.W.keepIn X.K (.ref C) = true) (r : Raises X (.ref C)) (hg : Gl X x)
    (hdb : (x == ("__debug__" : Str)) = false := by decide) : PMk X (.Call (.Name x p) [] [] pos) (fun _ H Q => Q (.ref C) none H) := by
  intro pins s σ H Q I h
  refine wpAny_Call_Name_kw (ld_glob I hg gC ?_ hdb)
  refine PySem.W.callWith_K0 I.kIn kC ?_
  obtain ⟨bm, N, nm, qn, bs, hdct, sn, sub, ab, col, dd, k0, k1, k2, k3, k5, mN, hC, hN, hni, T⟩ := exc_obj I.kIn q
  obtain ⟨hp, g, dr, tk, os⟩ := s
  refine wpAny_call_exc_subT F T hC hN hni ?_ (by decide)
  exact fun h' e hm => mk_of I hm r h (I.hok.gone hm.new)
end
/-- isinstance(e, c), e the error that the suite holds, with a dict of its own or without -/
def rIsX (K : PySem.W.Frag) (cls : Value) (a : Addr) (d : Option Addr) : List V → Hp → VK → Prop := fun xs H Q => ∃ (D : Addr) (c : V) (cv : Value) (b : Bool), xs = [.ref a, c] ∧ cls = .ref D ∧ ExcC K D ∧ (∀ u, RelV c u → u = cv) ∧
  (d = Option.none ∨ ∃ dd fs, d = some dd ∧ H dd = some (.xd fs)) ∧ PySem.W.kitOne K (.ref D) cv = some b ∧ Q (.bl b) H
theorem call_isX {X : Cx} {a : Addr} {cls : Value} {d : Option Addr} {oe : Obj} {pn : List (Addr × Obj)} (hz : Zc cls d oe) (hf : ∃ vs, oe.data = .fields vs) : CallR (X.suite a ((a, oe) :: pn)) (.builtin "isinstance") (rIsX X.K cls a d) := by
  intro pins s σ H xs us Q I r h
  obtain ⟨D, c, cv, b, rfl, rfl, C, hcv, hd, e, q⟩ := h
  obtain ⟨u1, u2, rfl, r1, r2⟩ := vals2 r
  obtain rfl : u1 = Value.ref a := r1
  obtain rfl := hcv _ r2
  obtain ⟨at_, _⟩ := I.pin (a, oe) (List.mem_append_left _ List.mem_cons_self)
  obtain ⟨vs, hv⟩ := hf
  have fin : ∀ {od : Option Obj}, PySem.W.InstAt s.heap a oe D od → wpAny (model X.prog X.w) (X.suite a ((a, oe) :: pn)).A (call (.builtin "isinstance") [.ref a, u2]) (EP (X.suite a ((a, oe) :: pn)) pins σ Q) (X.suite a ((a, oe) :: pn)).xe s := fun J =>
    PySem.W.kia_one (PySem.W.kitx_exc (PySem.W.any_some C.hd |>.elim fun _ z => by rw [z.1]; rfl) C.hg C.hk C.hs C.ha C.hn C.ht C.hm) I.kIn J e (fun z => nomatch z) fun tk => ⟨.bl b, H, I.kept (t' := tk) (fun _ _ z => z), rfl, q⟩
  have nc : PySem.W.notCls oe = true := by
    unfold PySem.W.notCls
    rw [hv] <;> rfl
  rcases hd with rfl | ⟨dd, fs, rfl, hdd⟩
  · exact fin (od := Option.none) ⟨at_, hz.1, nc, by rw [hz.2]; trivial⟩
  · obtain ⟨mA, hns, _⟩ := I.hok dd _ hdd
    obtain ⟨od, ho, _⟩ := lookIn_ns hns
    exact fin (od := some od) ⟨at_, hz.1, nc, by rw [hz.2]; exact ho⟩
theorem kit_ref {K : PySem.W.Frag} {D C : Addr} {b : Bool} (h1 : PySem.W.isClsIn K C = true) (h2 : PySem.W.typeIn K (.ref C) = some (.type "type")) (h3 : PySem.W.subIn K (.ref D) (.ref C) = some b) (h4 : D = C → b = true) : PySem.W.kitOne K (.ref D) (.ref C) = some b := by
  unfold PySem.W.kitOne
  by_cases q : (Value.ref D == Value.ref C) = true
  · rw [if_pos q, h4 (Value.ref.inj (beq_iff_eq.mp q))]
  · rw [if_neg q]
    unfold PySem.W.kitCls
    have h1' : (PySem.W.clsIn K C).isSome = true := h1
    simp only [h1', h2, beq_self_eq_true, Bool.and_self, if_true]
    exact h3
theorem kit_rty {K : PySem.W.Frag} {D : Addr} {T : String} {b : Bool} (h3 : PySem.W.subIn K (.ref D) (.type T) = some b) (h : PySem.W.kitMeta T = true) : PySem.W.kitOne K (.ref D) (.type T) = some b := by
  unfold PySem.W.kitOne
  rw [if_neg (by simp)]
  unfold PySem.W.kitCls
  simp only [h, if_true]
  exact h3
theorem relRef {a : Addr} : ∀ u : Value, RelV (.ref a) u → u = .ref a := fun _ h => h
theorem relTy {s : String} : ∀ u : Value, RelV (.ty s) u → u = .type s := fun _ h => h
/-- what isinstance must know of the class -/
theorem excC_of {K : PySem.W.Frag} {D : Addr} (h1 : PySem.W.findIn K (.ref D) "__getattribute__" = some (some (.builtin "BaseException.__getattribute__"))) (h2 : PySem.W.findIn K (.ref D) "__getattr__" = some none) (h3 : PySem.W.subIn K (.ref D) (.type "BaseException") = some true)
    (h4 : PySem.W.hasDictIn K D = true) (h5 : PySem.W.findIn K (.ref D) "__class__" = some (some (.builtin "object.__class__"))) (h6 : PySem.W.specialIn K (.builtin "object.__class__") "__get__" = some (some (.builtin "getset_descriptor.__get__"))) (h7 : PySem.W.takesIn K (.builtin "object.__class__") = some true)
    (h8 : PySem.W.mroIn K D (.type "object") = some true) : ExcC K D := ⟨h1, h2, h3, h4, h5, h6, h7, h8⟩
/-! ### xs[::-1], xs a list -/
section
variable {X : Cx} {e st : Expr} {te : TE} {tq : TO} {p2 pos : Pos}
def tRevL (K : PySem.W.Frag) (te : TE) (tq : TO) : TE := fun σ H Q => te σ H fun x H1 => tq σ H1 fun k H2 => ∃ a xs, k = some (-1) ∧ x = .ref a ∧ SqL K H2 a xs ∧ ∀ p, H2 p = none → Q (.ref p) (upd H2 p (.lst xs.reverse))
theorem pe_revL (he : PE X e te) (hk : PO X (some st) tq) : PE X (.Subscript e (.Slice none none (some st) p2) pos) (tRevL X.K te tq) := by
  constructor
  intro pins s σ H Q I h
  refine Subscript_ (thn (he.run pins s σ H _ I h) ?_)
  rintro v s1 ⟨x, H1, I1, r1, q1⟩
  refine wpAny_Slice ?_
  rw [evalPart_none]
  refine wpAny_pure ?_
  refine wpAny_pure (thn (hk.run pins s1 σ H1 _ I1 q1) ?_)
  rintro vk s2 ⟨k, H2, I2, pk, a, xs, rfl, rfl, hx, q⟩
  cases r1
  have J : Inv X pins σ H2 { s2 with heap := s2.heap.push { cls := .type "slice", data := .fields #[.none, .none, vk] } } := I2.kept (t' := s2.toks) (fun b ob q => Heap.get?_push_of_some _ q)
  obtain ⟨its, r, isl, hz⟩ := J.list hx
  have hlen := r.length
  have step : wpAny (model X.prog X.w) X.A (getItem (.ref a) (.ref s2.heap.objs.size)) (EP X pins σ Q) X.xe { s2 with heap := s2.heap.push { cls := .type "slice", data := .fields #[.none, .none, vk] } } := by
    refine wpAny_getItem_list_slice isl.isList (Heap.IsSliceOf.new ..) .none .none pk (by decide) ?_ (by rw [List.size_toArray]; omega)
    have er : slicePick its.toArray none none (some (-1)) = its.reverse.toArray := PySem.W.krv_pick its.toArray
    rw [er]
    refine ⟨.ref (s2.heap.push { cls := .type "slice", data := .fields #[.none, .none, vk] }).objs.size, _, J.laid (t' := s2.toks) (o := .lst xs.reverse) (fun b ob q => Heap.get?_push_of_some _ q) (Nat.le_refl _) ?_, rfl, q _ (J.hok.fresh (Nat.le_refl _))⟩
    exact ⟨by rw [List.length_reverse]; exact hz, _, 0, r.reverse, Heap.get?_push_size _ rfl⟩
  exact tail_any (ops := [.ref a, .ref s2.heap.objs.size]) isl.isList.typeIs slot_list_getitem.lookup step (by with_unfolding_all rfl)
end
theorem ix_listK {X : Cx} {K : PySem.W.Frag} (h : X.K = K) : IxR X (rIxL K) := h ▸ ix_list
theorem ix_tupK {X : Cx} {K : PySem.W.Frag} (h : X.K = K) : IxR X (rIxT K) := h ▸ ix_tup
/-! ### objects: == by an own __eq__, whatever stands at its right; objects made within a try -/
section
variable {X : Cx}
def rEqOwn (K : PySem.W.Frag) (C : Addr) (sp : Sp) : R2 := fun x y H Q => ∃ (a dx : Addr) (fs : List (Str × V)) (t : Value), x = .ref a ∧ H a = some (.ins C dx fs) ∧ TyX K H y t ∧ PySem.W.notFirst K C t = true ∧ sp [.ref a, y] H (fun v H' => (∃ b, v = .bl b) ∧ Q v H') E0
theorem op_eqOwn {C f : Addr} {fd : FuncData} {ps : List Str} {sp : Sp} {n : Nat} (F : FnOk X.prog X.w X.K X.mg X.base CX0 n f fd ps sp) (hs : PySem.W.findIn X.K (.ref C) "__eq__" = some (some (.ref f))) (hf : PySem.W.isFn X.K (.ref f) = true) (hb : Binds X.K fd ps []) (hr : Room n X.A) :
    OpR X (compareOp .Eq) (rEqOwn X.K C sp) := by
  intro pins s σ H x y v u Q I rx ry h
  obtain ⟨a, dx, fs, t, rfl, ha, ty, nf, hsp⟩ := h
  obtain rfl : v = Value.ref a := rx
  obtain ⟨mA, J, _⟩ := ins_get I.hok ha
  obtain ⟨od, J, _⟩ := J.look
  obtain ⟨m, hF⟩ := I.fr
  obtain ⟨Pk, Z, hP, _⟩ := kit_of I ry ty
  show wpAny (model X.prog X.w) X.A (richCompare .Eq (.ref a) u) (EP X pins σ Q) X.xe s
  refine PySem.W.cmp_K (op := .Eq) (tb := t) hr.units0 hF I.ok.mod.kin J (Z.ty (model X.prog X.w) s.heap I.kIn hP) nf hs hf ?_
  have run := run_fn (Q := fun v H' => (∃ b, v = .bl b) ∧ Q v H') (dvs := []) (us := [.ref a, u]) (vs := [V.ref a, y]) F hr hb .nil pass0 I (show Vals [V.ref a, y] [Value.ref a, u] from .cons rfl (.cons ry .nil)) (by rw [List.append_nil]; exact hsp)
  refine wpAny_mono run ?_ (fun _ _ z => z)
  rintro w s' ⟨z, H', I', rz, ⟨b, rfl⟩, q⟩
  cases rz
  exact ⟨.bl b, H', I', rfl, q⟩
end
section
variable {X : Cx} {CX : CXT} {k : Nat} {f C : Addr} {fd : FuncData} {ps : List Str} {sp : Sp} {dvs : List V} {ds : List Value} {E : L2.St → XK} {x : Str} {p pos : Pos} {e : Expr} {es : List Expr} {t : TA}
/-- C(e, ..) within a try -/
def tMakeS (C : Addr) (sp : Sp) (dvs : List V) (E : L2.St → XK) (t : TA) : TE := fun σ H Q => t σ H fun vs H1 => ∀ x dx, H1 x = Option.none → H1 dx = Option.none → dx ≠ x → sp (.ref x :: (vs ++ dvs)) (upd (upd H1 dx (.own x)) x (.ins C dx [])) (fun v H2 => v = .non ∧ Q (.ref x) H2) (E σ)
theorem pe_makeS (M : Mk X.K C f) (F : FnOk X.prog X.w X.K X.mg X.base CX k f fd ps sp) (hr : Room (k + 1) X.A) (hg : Gl X x) (hm : X.mg x = some (.ref C)) (hb : Binds X.K fd ps ds) (hd : Vals dvs ds) (hx : ∀ σ, PassesAt CX X σ (E σ)) (ha : PA X (e :: es) t)
    (hdb : (x == ("__debug__" : Str)) = false := by decide) (he : starEach (e :: es) X.env = (false, eval e X.env) :: starEach es X.env := by rfl) (hpl : (backTo pos (starEach es X.env)).any (·.1) = false := by rfl) :
    PE X (.Call (.Name x p) (e :: es) [] pos) (tMakeS C sp dvs E t) := by
  constructor
  intro pins s σ H Q I h
  refine wpAny_Call_Name_kw (ld_glob I hg hm ?_ hdb)
  refine PySem.W.callWith_K (h₀ := X.base) I.ok.mod.kin M.kp ?_ he hpl
  refine thn (ha.run pos pins s σ H _ I h) ?_
  rintro us s1 ⟨vs, H1, I1, r, q⟩
  refine ⟨I1.kIn, ?_⟩
  have new := q (s1.heap.objs.size + 1) s1.heap.objs.size (I1.hok.fresh (Nat.le_succ _)) (I1.hok.fresh (Nat.le_refl _)) (Nat.ne_of_lt (Nat.lt_succ_self _))
  have J := Inv.made (C := C) I1
  have rel : Vals (V.ref (s1.heap.objs.size + 1) :: (vs ++ dvs)) (Value.ref (s1.heap.objs.size + 1) :: (us ++ ds)) := .cons rfl (r.append hd)
  have size : (Value.ref (s1.heap.objs.size + 1) :: us ++ ds).length = ps.length := rel.length.symm.trans (F.len _ _ _ _ new)
  refine wpAny_call (make_map (f := f) (kw := []) I1.kIn M.makes M.init (beq_iff_eq.mp M.fn) ?_)
  refine codeAny_mono (F.run _ X.stack _ _ ⟨Value.ref (s1.heap.objs.size + 1) :: us, []⟩ (Value.ref (s1.heap.objs.size + 1) :: (us ++ ds)) _ _ (E σ) (hr.make C us []) (J.env0.make C us []) (hb _ (Value.ref (s1.heap.objs.size + 1) :: us) J.kIn size) rel new) ?_
  rintro (er | fl) s2 h2
  · exact hx σ pins _ _ er s2 J h2
  · rcases fl with _ | _ | _ | u
    · exact h2.elim
    · exact h2.elim
    · exact h2.elim
    · obtain ⟨v, H', I3, rv, ev, q3⟩ := J.after h2
      subst ev
      exact ⟨rv, ⟨V.ref (s1.heap.objs.size + 1), H', I3, rfl, q3⟩⟩
end
/-! ### own methods that the language calls: len(o), x in o, o[i] -/
section
variable {X : Cx} {C f : Addr} {fd : FuncData} {ps : List Str} {sp : Sp} {n : Nat} {CX : CXT} {E : XK}
theorem env0_in1 {P : Program} {w : World} {K : PySem.W.Frag} {mg : Str → Option Value} {base : Heap} {A : Around} {outer : List Env} {s : Shared} {H : Hp} (e : Env0 P w K mg base A outer s H) : Env0 P w K mg base A.in1 outer s H :=
  ⟨e.frames, e.mod, e.bs, e.bsz, e.funs, e.frf, e.hok, e.bare⟩
theorem run_fn1 {pins : List (Addr × Obj)} {σ : L2.St} {H : Hp} {s : Shared} {Q : VK} {us : List Value} {vs : List V} (F : FnOk X.prog X.w X.K X.mg X.base CX n f fd ps sp) (hr : Room (n + 1) X.A) (hb : Binds X.K fd ps []) (hx : Passes CX X E)
    (I : Inv X pins σ H s) (r : Vals vs us) (h : sp vs H Q E) : wpAny (model X.prog X.w) X.A.in1 (call (.ref f) us) (EP X pins σ Q) X.xe s := by
  have hl : us.length = ps.length := by rw [← r.length]; exact F.len _ _ _ _ h
  have b := hb s us I.kIn (by rw [List.append_nil]; exact hl)
  rw [List.append_nil] at b
  refine wpAny_call (codeAny_mono (F.run X.A.in1 X.stack s H ⟨us, []⟩ us vs Q E hr.in1 (env0_in1 I.env0) b r h) fun r s' hq => ?_)
  cases r with
  | error e => exact hx pins σ H s e s' I hq
  | ok fl =>
    cases fl with
    | ret u => exact I.after hq
    | next => exact False.elim hq
    | brk => exact False.elim hq
    | cont => exact False.elim hq
def rLenOwn (C : Addr) (sp : Sp) (E : XK) : List V → Hp → VK → Prop := fun xs H Q => ∃ (a dx : Addr) (fs : List (Str × V)), xs = [.ref a] ∧ H a = some (.ins C dx fs) ∧ sp [.ref a] H (fun v H' => ∃ i : Int, v = .int i ∧ 0 ≤ i ∧ i < 2 ^ 63 ∧ Q (.int i) H') E
theorem call_lenOwn (F : FnOk X.prog X.w X.K X.mg X.base CX n f fd ps sp) (hs : PySem.W.findIn X.K (.ref C) "__len__" = some (some (.ref f))) (hf : PySem.W.isFn X.K (.ref f) = true) (hb : Binds X.K fd ps []) (hr : Room (n + 1) X.A) (hx : Passes CX X E) : CallR X (.builtin "len") (rLenOwn C sp E) := by
  intro pins s σ H xs us Q I r h
  obtain ⟨a, dx, fs, rfl, ha, hsp⟩ := h
  obtain ⟨u, rfl, ru⟩ := vals1 r
  obtain rfl : u = Value.ref a := ru
  obtain ⟨mA, J, _⟩ := ins_get I.hok ha
  obtain ⟨od, J, _⟩ := J.look
  obtain ⟨m, hF⟩ := I.fr
  refine PySem.W.len_K hF I.ok.mod.kin J hs hf (wpAny_mono (run_fn1 (vs := [V.ref a]) F hr hb hx I (.cons rfl .nil) hsp) ?_ (fun _ _ z => z))
  rintro w s' ⟨z, H', I', rz, i, rfl, i0, i1, q⟩
  obtain ⟨t, rfl⟩ := rz
  exact ⟨⟨i0, i1⟩, .int i, H', I'.tok _, ⟨_, rfl⟩, q⟩
def rInOwn (C : Addr) (sp : Sp) (E : XK) (neg : Bool) : R2 := fun x y H Q => ∃ (a dx : Addr) (fs : List (Str × V)), y = .ref a ∧ H a = some (.ins C dx fs) ∧ sp [.ref a, x] H (fun v H' => ∃ b : Bool, v = .bl b ∧ Q (.bl (b != neg)) H') E
theorem op_inOwn (F : FnOk X.prog X.w X.K X.mg X.base CX n f fd ps sp) (hs : PySem.W.findIn X.K (.ref C) "__contains__" = some (some (.ref f))) (hf : PySem.W.isFn X.K (.ref f) = true) (hb : Binds X.K fd ps []) (hr : Room n X.A) (hx : Passes CX X E) : OpR X (compareOp .In) (rInOwn C sp E false) := by
  intro pins s σ H x y v u Q I rx ry h
  obtain ⟨a, dx, fs, rfl, ha, hsp⟩ := h
  obtain rfl : u = Value.ref a := ry
  obtain ⟨mA, J, _⟩ := ins_get I.hok ha
  obtain ⟨od, J, _⟩ := J.look
  obtain ⟨m, hF⟩ := I.fr
  refine PySem.W.in_K hF I.ok.mod.kin J hs hf (wpAny_mono (run_fn (dvs := []) (us := [.ref a, v]) (vs := [V.ref a, x]) F hr hb .nil hx I (.cons rfl (.cons rx .nil)) (by rw [List.append_nil]; exact hsp)) ?_ (fun _ _ z => z))
  rintro w s' ⟨z, H', I', rz, b, rfl, q⟩
  cases rz
  exact wpAny_truthy_bool ⟨.bl b, H', I', rfl, by rw [Bool.bne_false] at q; exact q⟩
theorem op_notInOwn (F : FnOk X.prog X.w X.K X.mg X.base CX n f fd ps sp) (hs : PySem.W.findIn X.K (.ref C) "__contains__" = some (some (.ref f))) (hf : PySem.W.isFn X.K (.ref f) = true) (hb : Binds X.K fd ps []) (hr : Room n X.A) (hx : Passes CX X E) : OpR X (compareOp .NotIn) (rInOwn C sp E true) := by
  intro pins s σ H x y v u Q I rx ry h
  obtain ⟨a, dx, fs, rfl, ha, hsp⟩ := h
  obtain rfl : u = Value.ref a := ry
  obtain ⟨mA, J, _⟩ := ins_get I.hok ha
  obtain ⟨od, J, _⟩ := J.look
  obtain ⟨m, hF⟩ := I.fr
  refine PySem.W.notIn_K hF I.ok.mod.kin J hs hf (wpAny_mono (run_fn (dvs := []) (us := [.ref a, v]) (vs := [V.ref a, x]) F hr hb .nil hx I (.cons rfl (.cons rx .nil)) (by rw [List.append_nil]; exact hsp)) ?_ (fun _ _ z => z))
  rintro w s' ⟨z, H', I', rz, b, rfl, q⟩
  cases rz
  exact wpAny_truthy_bool ⟨.bl (!b), H', I', rfl, by rw [Bool.bne_true] at q; exact q⟩
def rIxOwn (C : Addr) (sp : Sp) (E : XK) : R2 := fun x y H Q => ∃ (a dx : Addr) (fs : List (Str × V)), x = .ref a ∧ H a = some (.ins C dx fs) ∧ sp [.ref a, y] H Q E
theorem pe_ixOwn {a b : Expr} {ta tb : TE} {pos : Pos} (F : FnOk X.prog X.w X.K X.mg X.base CX n f fd ps sp) (hs : PySem.W.findIn X.K (.ref C) "__getitem__" = some (some (.ref f))) (hi : PySem.W.fnIn X.K f = true) (hf : PySem.W.isFn X.K (.ref f) = true) (hb : Binds X.K fd ps []) (hr : Room (n + 1) X.A) (hx : Passes CX X E)
    (pa : PE X a ta) (pb : PE X b tb) (hsl : ∀ (x : Addr) (i : Value), subscripted b true (.ref x) i = runValue (.builtin "lifetime.subscript" ⟨[.ref x, i], []⟩) := by intros; rfl) : PE X (.Subscript a b pos) (tOp (rIxOwn C sp E) ta tb) := by
  refine ⟨fun pins s σ H Q I h => ?_⟩
  refine Subscript_ (binT pa pb I h fun v u s2 x y H2 I2 rx ry q => ?_)
  obtain ⟨p, dx, fs, rfl, ha, hsp⟩ := q
  obtain rfl : v = Value.ref p := rx
  obtain ⟨mA, J, _⟩ := ins_get I2.hok ha
  obtain ⟨od, J, _⟩ := J.look
  obtain ⟨m, hF⟩ := I2.fr
  exact PySem.W.sub_K hF I2.ok.mod.kin J hs hi hf (run_fn1 (us := [.ref p, u]) (vs := [V.ref p, y]) F hr hb hx I2 (.cons rfl (.cons ry .nil)) hsp) (hsl _ _)
end
/-! ### sorted of a list of tuples of ints, of any lengths -/
section
variable {prog : Program} {w : World} {A : Around} {s : Shared}
def IsIT (h : Heap) (v : Value) (ns : List Int) : Prop := ∃ (a : Addr) (o : Obj) (its : Array Value) (n : Nat), v = .ref a ∧ h.get? a = some o ∧ o.cls = .type "tuple" ∧ o.data = .seq its n ∧ IntsAre its.toList ns
theorem IsIT.keeps {h h' : Heap} {v : Value} {ns : List Int} (x : IsIT h v ns) (k : ∀ b o, h.get? b = some o → o.cls = .type "tuple" → h'.get? b = some o) : IsIT h' v ns := by
  obtain ⟨a, o, its, n, e, ho, hc, r⟩ := x
  exact ⟨a, o, its, n, e, k a o ho hc, hc, r⟩
theorem ints_length {us : List Value} {ns : List Int} (h : IntsAre us ns) : us.length = ns.length := by
  have := (vals_of_ints h).length
  rw [List.length_map] at this
  exact this.symm
theorem kat_ints {Q : Bool → Shared → Prop} : ∀ (xs ys : List Value) (ns ms : List Int) (i : Nat), IntsAre xs ns → IntsAre ys ms → Q (HT.lexLt ns ms) s → PySem.W.KatLex prog w A true (decide (ns.length < ms.length)) Q (xs.zip ys) i s
  | [], ys, ns, ms, i, h1, h2, q => by
    cases h1
    · cases ms with
      | nil => exact PySem.W.kat_nil q
      | cons m ms => exact PySem.W.kat_nil q
  | x :: xs, [], ns, ms, i, h1, h2, q => by
    cases h2
    · cases ns with
      | nil => cases h1
      | cons n ns =>
        rw [HT.lexLt_cons_nil] at q
        exact PySem.W.kat_nil q
  | x :: xs, y :: ys, ns, ms, i, h1, h2, q => by
    cases ns with
    | nil => cases h1
    | cons n ns =>
    cases ms with
    | nil => cases h2
    | cons m ms =>
    cases h1 with
    | cons _ t h1 =>
    cases h2 with
    | cons _ u h2 =>
    rw [HT.lexLt_cons] at q
    have z : decide ((n :: ns).length < (m :: ms).length) = decide (ns.length < ms.length) := by simp
    rw [z]
    show PySem.W.KatLex prog w A true (decide (ns.length < ms.length)) Q ((.int n t, .int m u) :: xs.zip ys) i s
    refine PySem.W.kat_cons (SeqAt.EqAt.int_int n t m u prog w _ _ ?_)
    refine PySem.W.kat_go (fun e1 => ?_) (fun e1 => ?_)
    · have e : n = m := by simpa using e1
      rw [if_pos e] at q
      exact PySem.W.kat_yes (kat_ints xs ys ns ms (i + 1) h1 h2 q)
    · have e : ¬ n = m := by simpa using e1
      rw [if_neg e] at q
      refine PySem.W.kat_no ?_
      cases i with
      | zero => exact TS.oneLt_ints true q
      | succ i => exact PySem.W.kat_one _ _ (PyProof.Rows.lt_int q)
theorem it_cmp {vs : List Value} {k : Value → List Int} (hp : ∀ v ∈ vs, IsIT s.heap v (k v)) : SrtO.Cmp prog w A s (tuples' true) (fun p => p.1 ∈ vs) (SrtO.lt2 fun v u => HT.lexLt (k v) (k u)) := by
  intro p q hm hm'
  obtain ⟨a, o, its, n, e, ho, hc, hd, hi⟩ := hp _ hm
  obtain ⟨a', o', its', n', e', ho', hc', hd', hi'⟩ := hp _ hm'
  show wpAny (model prog w) A (keyLt' (tuples' true) p.1 q.1) (fun r s' => s' = s ∧ r = HT.lexLt (k p.1) (k q.1)) (fun _ _ => False) s
  rw [e, e']
  rw [e] at hi
  rw [e'] at hi'
  refine PySem.W.kat_lt ho hd ho' hd' ?_
  have l1 : its.size = (k (.ref a)).length := by rw [← Array.length_toList]; exact ints_length hi
  have l2 : its'.size = (k (.ref a')).length := by rw [← Array.length_toList]; exact ints_length hi'
  rw [l1, l2]
  exact kat_ints _ _ _ _ 0 hi hi' ⟨rfl, rfl⟩
theorem it_firsts {h : Heap} : ∀ {vs : List Value} {k : Value → List Int}, (∀ v ∈ vs, IsIT h v (k v) ∧ k v ≠ []) → ∃ fs, PySem.W.KatTups h vs fs ∧ fs.length = vs.length ∧ ∀ f ∈ fs, ∃ x t, f = .int x t
  | [], _, _ => ⟨[], trivial, rfl, fun _ h => nomatch h⟩
  | v :: vs, k, hp => by
    obtain ⟨fs, t, l, r⟩ := it_firsts (vs := vs) (k := k) fun u hu => hp u (List.mem_cons_of_mem _ hu)
    obtain ⟨⟨a, o, its, n, rfl, ho, hc, hd, hi⟩, ne⟩ := hp v (List.mem_cons_self ..)
    cases ek : k (.ref a) with
    | nil => exact absurd ek ne
    | cons m ms =>
      rw [ek] at hi
      cases ei : its.toList with
      | nil => rw [ei] at hi; cases hi
      | cons x xs =>
        rw [ei] at hi
        cases hi with
        | cons _ t' hi =>
        have h0 : its[0]? = some (.int m t') := by rw [← Array.getElem?_toList, ei]; rfl
        refine ⟨.int m t' :: fs, PySem.W.KatTups.cons ho hc hd h0 t, by simp [l], fun f hf => ?_⟩
        rcases List.mem_cons.mp hf with e | hf
        · exact ⟨m, t', e⟩
        · exact r f hf
theorem it_sortable {a : Addr} {vs : List Value} {k : Value → List Int} (h0 : 0 < vs.length) (hp : ∀ v ∈ vs, IsIT s.heap v (k v) ∧ k v ≠ []) (ha : ∀ o, s.heap.get? a = some o → o.cls ≠ .type "tuple") : SrtO.SortableO prog w A s a vs fun v u => HT.lexLt (k v) (k u) := by
  intro h' keep
  have hp' : ∀ v ∈ vs, IsIT h' v (k v) ∧ k v ≠ [] := fun v hm => ⟨(hp v hm).1.keeps fun b o e c => keep b o (fun z => by subst z; exact ha o e c) e, (hp v hm).2⟩
  obtain ⟨fs, h1, h2, h3⟩ := it_firsts hp'
  refine ⟨tuples' true, fun Q E hq => ?_, it_cmp fun v hm => (hp' v hm).1⟩
  refine PySem.W.kat_kind (T := .type "int") h1 (by omega) (fun f hm => ?_) (by rfl) ?_
  · obtain ⟨x, t, rfl⟩ := h3 f hm
    exact PySem.W.Looks.now
  · have e : (Value.type "int" != Value.type "tuple") = true := by first | decide +kernel | rfl | decide
    rw [e]
    exact hq
end
section
variable {X : Cx}
def rSortedT3 (K : PySem.W.Frag) : List V → Hp → VK → Prop := fun vs H Q => ∃ (a : Addr) (xs : List V) (k : V → List Int), vs = [V.ref a] ∧ SqL K H a xs ∧ (∀ x ∈ xs, ∃ t, x = V.ref t ∧ SqT K H t ((k x).map V.int) ∧ k x ≠ []) ∧
  ∀ ys p, SrtO.Srtd (fun v u => HT.lexLt (k v) (k u)) ys → ys.Perm xs → H p = none → Q (.ref p) (upd H p (.lst ys))
theorem cr_sortedT3 : CallR X (.builtin "sorted") (rSortedT3 X.K) := by
  intro pins s σ H vs us Q I r h
  obtain ⟨a, xs, k, rfl, hs, hx, q⟩ := h
  obtain ⟨its, rv, hl, hz⟩ := I.list hs
  obtain ⟨u, rfl, ru⟩ := vals1 r
  obtain rfl : u = Value.ref a := ru
  obtain ⟨e1, e2⟩ := refs_back rv fun x m => by
    obtain ⟨t, e, _⟩ := hx x m
    exact ⟨t, e⟩
  have hit : ∀ v ∈ its, IsIT s.heap v (k (backV v)) ∧ k (backV v) ≠ [] := fun v hv => by
    obtain ⟨t, rfl⟩ := e2 v hv
    have hm : V.ref t ∈ xs := by rw [e1]; exact List.mem_map.mpr ⟨_, hv, rfl⟩
    obtain ⟨t', e, ht, ne⟩ := hx _ hm
    cases e
    obtain ⟨its2, r2, ⟨o, ho, hc, n, hd⟩, _⟩ := I.tuple ht
    exact ⟨⟨t, o, _, n, rfl, ho, hc, hd, intsAre_of r2⟩, ne⟩
  refine SrtO.sorted_ord (NtL.swo_lexL fun u => k (backV u)) hl.isList (by rw [← rv.length]; exact hz) (fun h2 h₁ a' ha' kk => ?_) fun out h1 h2 => ?_
  · refine it_sortable (s := { s with heap := h₁ }) (by omega) (fun v hm => ⟨(hit v hm).1.keeps fun b o e _ => (kk b o e).2, (hit v hm).2⟩) fun o e => ?_
    have e' : some o = some (seqObj "list" its.toArray 0) := e.symm.trans ha'
    cases e'
    intro c
    exact absurd (Value.type.inj c) (by decide)
  · have h3 : ∀ u ∈ out, ∃ a, u = Value.ref a := fun u hu => e2 u (h2.perm.mem_iff.mp hu)
    have hp : (out.map backV).Perm xs := by rw [e1]; exact h2.perm.map _
    obtain ⟨n, hn⟩ := sortedAll_at s.heap its out.toArray
    refine ⟨.ref (s.heap.objs.size + 1), upd H (s.heap.objs.size + 1) (.lst (out.map backV)), I.laid (t' := s.toks) (fun b o e => sortedAll_old e) (Nat.le_succ _) ⟨?_, out, n, vals_back h3, hn⟩, rfl, q _ _ (SrtO.srtd_map h1) hp (I.hok.fresh (Nat.le_succ _))⟩
    rw [hp.length_eq]
    exact hz
theorem op_inDK {K : PySem.W.Frag} (h : X.K = K) (hu : X.A.units + 65 < cLine) : OpR X (compareOp .In) (rInD K) := h ▸ op_inD hu
theorem op_notInDK {K : PySem.W.Frag} (h : X.K = K) (hu : X.A.units + 65 < cLine) : OpR X (compareOp .NotIn) (rNotInD K) := h ▸ op_notInD hu
theorem call_list_ofK {K : PySem.W.Frag} (h : X.K = K) : CallR X (.type "list") (fun xs H Q => ∃ p ys, xs = [.ref p] ∧ (SqL K H p ys ∨ SqT K H p ys) ∧ ∀ l, H l = none → Q (.ref l) (upd H l (.lst ys))) := h ▸ call_list_of
end
/-! ### a list of labels, sorted -/
def toIv : V → Int
  | .int i => i
  | _ => 0
def labK (H : Hp) : V → List Int
  | .ref t => match H t with | some (.tup xs) => xs.map toIv | _ => []
  | _ => []
theorem labK_at {H : Hp} {t : Addr} {L : List Int} (h : H t = some (.tup (L.map V.int))) : labK H (.ref t) = L := by
  show (match H t with | some (.tup xs) => xs.map toIv | _ => []) = L
  rw [h]
  show (L.map V.int).map toIv = L
  rw [List.map_map]
  exact List.map_id _
theorem lexLt_total : ∀ a b : List Int, HT.lexLt a b = false → HT.lexLt b a = false → a = b
  | [], [], _, _ => rfl
  | [], y :: s, h, _ => by rw [HT.lexLt_nil_cons] at h; cases h
  | x :: r, [], _, h => by rw [HT.lexLt_nil_cons] at h; cases h
  | x :: r, y :: s, h1, h2 => by
    rw [HT.lexLt_cons] at h1 h2
    by_cases e : x = y
    · subst e
      rw [if_pos rfl] at h1 h2
      rw [lexLt_total r s h1 h2]
    · rw [if_neg e] at h1
      rw [if_neg (fun z => e z.symm)] at h2
      have := of_decide_eq_false h1
      have := of_decide_eq_false h2
      omega
/-! ### order of data that are alike, and x in a tuple of data -/
section
variable {X : Cx}
def rCmpD (K : PySem.W.Frag) (f : PyData → PyData → Bool) : R2 := fun x y H Q => ∃ d e, Dp K H x d ∧ Dp K H y e ∧ PySem.W.alike d e = true ∧ d ≠ .none ∧ d.depth ≤ 60 ∧ Q (.bl (f d e)) H
theorem op_ltD (hu : X.A.units + 65 < cLine) : OpR X (compareOp .Lt) (rCmpD X.K fun d e => PySem.W.dataLt d e) := by
  intro pins s σ H x y v u Q I rx ry h
  obtain ⟨d, e, hd, he, al, nn, dep, q⟩ := h
  obtain ⟨as, r1⟩ := Dp.reads I d x v hd rx
  obtain ⟨bs, r2⟩ := Dp.reads I e y u he ry
  exact PySem.W.lt_data r1 r2 al nn (by omega) ⟨.bl _, H, I, rfl, q⟩
theorem op_leD (hu : X.A.units + 65 < cLine) : OpR X (compareOp .LtE) (rCmpD X.K fun d e => !PySem.W.dataLt e d) := by
  intro pins s σ H x y v u Q I rx ry h
  obtain ⟨d, e, hd, he, al, nn, dep, q⟩ := h
  obtain ⟨as, r1⟩ := Dp.reads I d x v hd rx
  obtain ⟨bs, r2⟩ := Dp.reads I e y u he ry
  exact PySem.W.le_data r1 r2 al nn (by omega) ⟨.bl _, H, I, rfl, q⟩
theorem op_gtD (hu : X.A.units + 65 < cLine) : OpR X (compareOp .Gt) (rCmpD X.K fun d e => PySem.W.dataLt e d) := by
  intro pins s σ H x y v u Q I rx ry h
  obtain ⟨d, e, hd, he, al, nn, dep, q⟩ := h
  obtain ⟨as, r1⟩ := Dp.reads I d x v hd rx
  obtain ⟨bs, r2⟩ := Dp.reads I e y u he ry
  exact PySem.W.gt_data r1 r2 al nn (by omega) ⟨.bl _, H, I, rfl, q⟩
theorem op_geD (hu : X.A.units + 65 < cLine) : OpR X (compareOp .GtE) (rCmpD X.K fun d e => !PySem.W.dataLt d e) := by
  intro pins s σ H x y v u Q I rx ry h
  obtain ⟨d, e, hd, he, al, nn, dep, q⟩ := h
  obtain ⟨as, r1⟩ := Dp.reads I d x v hd rx
  obtain ⟨bs, r2⟩ := Dp.reads I e y u he ry
  exact PySem.W.ge_data r1 r2 al nn (by omega) ⟨.bl _, H, I, rfl, q⟩
/-- x in c, c a list or a tuple of data -/
def rInDD (K : PySem.W.Frag) (neg : Bool) : R2 := fun x y H Q => ∃ d ds, Dp K H x d ∧ (Dp K H y (.list ds) ∨ Dp K H y (.tuple ds)) ∧ SeqAt.shaped d = true ∧ SeqAt.shaped (.list ds) = true ∧ Q (.bl (neg != ds.any fun z => PyData.eqv z d)) H
theorem op_inDD (hu : X.A.units + 65 < cLine) : OpR X (compareOp .In) (rInDD X.K false) := by
  intro pins s σ H x y v u Q I rx ry h
  obtain ⟨d, ds, hd, he, sd, se, q⟩ := h
  obtain ⟨as, r1⟩ := Dp.reads I d x v hd rx
  rw [Bool.false_bne] at q
  rcases he with he | he
  · obtain ⟨bs, r2⟩ := Dp.reads I (.list ds) y u he ry
    exact SeqAt.in_list_reads r2 r1 (SeqAt.canLay_of_shaped se) (SeqAt.canLay_of_shaped sd) (room_in_shaped sd hu) ⟨.bl _, H, I, rfl, q⟩
  · obtain ⟨bs, r2⟩ := Dp.reads I (.tuple ds) y u he ry
    exact SeqAt.in_tuple_reads r2 r1 (SeqAt.canLay_of_shaped se) (SeqAt.canLay_of_shaped sd) (room_in_shaped sd hu) ⟨.bl _, H, I, rfl, q⟩
theorem op_notInDD (hu : X.A.units + 65 < cLine) : OpR X (compareOp .NotIn) (rInDD X.K true) := by
  intro pins s σ H x y v u Q I rx ry h
  obtain ⟨d, ds, hd, he, sd, se, q⟩ := h
  obtain ⟨as, r1⟩ := Dp.reads I d x v hd rx
  rw [Bool.true_bne] at q
  rcases he with he | he
  · obtain ⟨bs, r2⟩ := Dp.reads I (.list ds) y u he ry
    exact SeqAt.notIn_list_reads r2 r1 (SeqAt.canLay_of_shaped se) (SeqAt.canLay_of_shaped sd) (room_in_shaped sd hu) ⟨.bl _, H, I, rfl, q⟩
  · obtain ⟨bs, r2⟩ := Dp.reads I (.tuple ds) y u he ry
    exact SeqAt.notIn_tuple_reads r2 r1 (SeqAt.canLay_of_shaped se) (SeqAt.canLay_of_shaped sd) (room_in_shaped sd hu) ⟨.bl _, H, I, rfl, q⟩
end
abbrev TO := PyProof.Rows.listOrd PyProof.Rows.itemOrd
theorem dlt_trans {a b c : PyData} (h1 : PySem.W.dataLt a b = true) (h2 : PySem.W.dataLt b c = true) : PySem.W.dataLt a c = true := TO.trans _ _ _ h1 h2
theorem dle_trans {a b c : PyData} (h1 : PySem.W.dataLt b a = false) (h2 : PySem.W.dataLt c b = false) : PySem.W.dataLt c a = false := by
  cases e : PySem.W.dataLt c a with
  | false => rfl
  | true =>
    rcases TO.negTrans _ (PySem.W.keyToks b) _ e with h | h
    · exact h.symm.trans h2
    · exact h.symm.trans h1
theorem dlt_irrefl (a : PyData) : PySem.W.dataLt a a = false := TO.irrefl _
/-- what the order of a label's signs says -/
theorem dlt_ints : ∀ L M : List Int, PyProof.Rows.lexLt PyProof.Rows.itemOrd (PySem.W.keyToksAll (L.map PyData.int)) (PySem.W.keyToksAll (M.map PyData.int)) = HT.lexLt L M
  | [], [] => by decide +kernel
  | [], y :: s => by
    show PyProof.Rows.lexLt PyProof.Rows.itemOrd (PySem.W.keyToksAll []) (PySem.W.keyToksAll (PyData.int y :: s.map PyData.int)) = true
    rw [PySem.W.toks_all_cons, PySem.W.keyToksAll, PySem.W.lex_atom (by simp), PySem.W.lex_one]
    decide +kernel
  | x :: r, [] => by
    show PyProof.Rows.lexLt PyProof.Rows.itemOrd (PySem.W.keyToksAll (PyData.int x :: r.map PyData.int)) (PySem.W.keyToksAll []) = false
    rw [PySem.W.toks_all_cons, PySem.W.keyToksAll, PySem.W.lex_atom (by simp), PySem.W.lex_one]
    decide +kernel
  | x :: r, y :: s => by
    show PyProof.Rows.lexLt PyProof.Rows.itemOrd (PySem.W.keyToksAll (PyData.int x :: r.map PyData.int)) (PySem.W.keyToksAll (PyData.int y :: s.map PyData.int)) = HT.lexLt (x :: r) (y :: s)
    rw [HT.lexLt_cons]
    have al : PySem.W.alike (.int x) (.int y) = true := rfl
    by_cases e : x = y
    · subst e
      rw [if_pos rfl, PySem.W.dataLt_all_yes al (by show (x == x) = true; exact beq_self_eq_true x)]
      exact dlt_ints r s
    · rw [if_neg e, PySem.W.dataLt_all_no al (by show (x == y) = false; exact beq_eq_false_iff_ne.mpr e), PySem.W.dataLt_int]
theorem dlt_L (L M : List Int) : PySem.W.dataLt (dL L) (dL M) = HT.lexLt L M := by
  unfold dL
  rw [PySem.W.dataLt_tuple, dlt_ints]
theorem alike_ints : ∀ L M : List Int, PySem.W.alikeAll (L.map PyData.int) (M.map PyData.int) = true
  | [], _ => by rw [List.map_nil, PySem.W.alikeAll]
  | _ :: _, [] => by rw [List.map_nil, List.map_cons, PySem.W.alikeAll]
  | _ :: r, _ :: s => by rw [List.map_cons, List.map_cons, PySem.W.alikeAll, alike_ints r s]; rfl
theorem alike_L (L M : List Int) : PySem.W.alike (dL L) (dL M) = true := by
  unfold dL
  rw [PySem.W.alike]
  exact alike_ints L M
theorem alike_P (p q : Pg) : PySem.W.alike (dP p) (dP q) = true := by
  unfold dP
  rw [PySem.W.alike, PySem.W.alikeAll, alike_L, PySem.W.alikeAll, PySem.W.alikeAll]
  rfl
theorem depthL (L : List Int) : (dL L).depth ≤ 1 := (lay_pn 1 _ (pn_L L)).2
theorem depthP (p : Pg) : (dP p).depth ≤ 2 := (lay_pn 2 _ (pn_P p)).2
theorem eqv_L (L M : List Int) : PyData.eqv (dL L) (dL M) = decide (L = M) := eqv_ints L M
theorem eqv_P (p q : Pg) : PyData.eqv (dP p) (dP q) = decide (p = q) := by
  show (PyData.eqv (dL p.1) (dL q.1) && ((p.2 == q.2) && true)) = _
  rw [eqv_L]
  by_cases h : p.1 = q.1
  · by_cases h2 : p.2 = q.2
    · have e : p = q := Prod.ext h h2
      subst e
      simp
    · have e : p ≠ q := fun z => h2 (by rw [z])
      simp [h, h2, e]
  · have e : p ≠ q := fun z => h (by rw [z])
    simp [h, e]
/-- pages in their order -/
def ltP (p q : Pg) : Bool := PySem.W.dataLt (dP p) (dP q)
def leP (p q : Pg) : Bool := !ltP q p
theorem leP_trans {p q r : Pg} (h1 : leP p q = true) (h2 : leP q r = true) : leP p r = true := by
  unfold leP ltP at *
  rw [Bool.not_eq_true'] at *
  exact dle_trans h1 h2
/-! ### the rules that speak of what is written, their fragment told (within a comprehension) -/
section
variable {X : Cx} {K : PySem.W.Frag}
theorem call_len_seqK (h : X.K = K) : CallR X (.builtin "len") (fun xs H Q => ∃ p ys, xs = [.ref p] ∧ (SqL K H p ys ∨ SqT K H p ys) ∧ Q (.int ys.length) H) := h ▸ call_len_seq
theorem cr_allK (h : X.K = K) (hc : X.calm = true) : CallR X (.builtin "all") (rAll K) := h ▸ cr_all hc
theorem cr_anyK (h : X.K = K) (hc : X.calm = true) : CallR X (.builtin "any") (rAny K) := h ▸ cr_any hc
theorem sl_listK (h : X.K = K) : SlR X (rSlL K) := h ▸ sl_list
theorem sl_tupAK (h : X.K = K) : SlR X (rSlA K) := h ▸ sl_tupA
theorem op_in_seqK (h : X.K = K) : OpR X (compareOp .In) (rIn K false) := h ▸ op_in_seq
theorem op_notIn_seqK (h : X.K = K) : OpR X (compareOp .NotIn) (rIn K true) := h ▸ op_notIn_seq
theorem op_eqDK (h : X.K = K) (hu : X.A.units + 64 < cLine) : OpR X (compareOp .Eq) (rEqD K) := h ▸ op_eqD hu
theorem op_neDK (h : X.K = K) (hu : X.A.units + 64 < cLine) : OpR X (compareOp .NotEq) (rNeD K) := h ▸ op_neD hu
theorem op_catAK (h : X.K = K) : OpR X (binaryOp .Add) (rCatA K) := h ▸ op_catA
theorem call_tuple_ofK (h : X.K = K) : CallR X (.type "tuple") (fun xs H Q => ∃ p ys, xs = [.ref p] ∧ ((SqL K H p ys ∧ ∀ l, H l = none → Q (.ref l) (upd H l (.tup ys))) ∨ (SqT K H p ys ∧ Q (.ref p) H))) := h ▸ call_tuple_of
theorem call_isiK' (h : X.K = K) : CallR X (.builtin "isinstance") (rIsi K) := h ▸ call_isi
theorem call_isiTK (h : X.K = K) : CallR X (.builtin "isinstance") (rIsiT K) := h ▸ call_isiT
theorem cr_sumK (h : X.K = K) (hc : X.calm = true) : CallR X (.builtin "sum") (rSum K) := h ▸ cr_sum hc
theorem cr_maxK (h : X.K = K) (hc : X.calm = true) : CallR X (.builtin "max") (rMax K) := h ▸ cr_max hc
theorem cr_minK (h : X.K = K) (hc : X.calm = true) : CallR X (.builtin "min") (rMin K) := h ▸ cr_min hc
theorem op_ltDK (h : X.K = K) (hu : X.A.units + 65 < cLine) : OpR X (compareOp .Lt) (rCmpD K fun d e => PySem.W.dataLt d e) := h ▸ op_ltD hu
theorem op_leDK (h : X.K = K) (hu : X.A.units + 65 < cLine) : OpR X (compareOp .LtE) (rCmpD K fun d e => !PySem.W.dataLt e d) := h ▸ op_leD hu
theorem op_gtDK (h : X.K = K) (hu : X.A.units + 65 < cLine) : OpR X (compareOp .Gt) (rCmpD K fun d e => PySem.W.dataLt e d) := h ▸ op_gtD hu
theorem op_geDK (h : X.K = K) (hu : X.A.units + 65 < cLine) : OpR X (compareOp .GtE) (rCmpD K fun d e => !PySem.W.dataLt d e) := h ▸ op_geD hu
theorem op_inDDK (h : X.K = K) (hu : X.A.units + 65 < cLine) : OpR X (compareOp .In) (rInDD K false) := h ▸ op_inDD hu
theorem op_notInDDK (h : X.K = K) (hu : X.A.units + 65 < cLine) : OpR X (compareOp .NotIn) (rInDD K true) := h ▸ op_notInDD hu
variable {tg l : Expr} {tl : TE}
theorem pi_listK (h : X.K = K) (hl : PE X l tl) : PI X tg l (iList K tl) := h ▸ pi_list hl
theorem pi_tupK (h : X.K = K) (hl : PE X l tl) : PI X tg l (iTup K tl) := h ▸ pi_tup hl
def tTru (K : PySem.W.Frag) (ta : TE) : TT := fun σ H Q => ta σ H fun x H' => ∃ k, TruV K x H' k ∧ Q k H'
theorem pt_truthK {a : Expr} {ta : TE} (h : X.K = K) (ha : PE X a ta) (he : ∀ whole, isTrue a X.env whole = (do let v ← whole; standAt a.pos; holding [v] (truthy v))) : L2.PT X a (tTru K ta) := h ▸ pt_truth ha he
theorem pe_fldK {e : Expr} {f : Str} {pos : Pos} {ta : TE} (h : X.K = K) (he : PE X e ta) (hb : attributeBase e f X.env (eval e X.env) = eval e X.env) : PE X (.Attribute e f pos) (tFld K ta f) := h ▸ pe_fld he hb
end
/-! ### what stays: all but lists; data of tracked tuples -/
def NL (H H' : Hp) : Prop := ∀ b o, H b = some o → (∀ ys, o ≠ .lst ys) → H' b = some o
theorem NL.refl (H : Hp) : NL H H := fun _ _ e _ => e
theorem NL.trans {H H1 H2 : Hp} (x : NL H H1) (y : NL H1 H2) : NL H H2 := fun b o e n => y b o (x b o e n) n
theorem NL.of {H H' : Hp} (x : Same H H') : NL H H' := fun b o e _ => x b o e
theorem NL.but {a : Addr} {H H' : Hp} {ys : List V} (x : But a H H') (h : H a = some (.lst ys)) : NL H H' := fun b o e n => x b o (fun z => by
  rw [z, h] at e
  exact n ys (Option.some.inj e).symm) e
theorem Src.nl {a : Addr} {H H' : Hp} (s : Src H a) (x : But a H H') : NL H H' := by
  obtain ⟨g, y, c, e⟩ := s
  exact NL.but x e
theorem NL.put {D : Addr} {H H' : Hp} {ys : List V} (x : NL H H') (h : H' D = some (.lst ys)) (o : HO) : NL H (upd H' D o) := fun b u e n => by
  have e' := x b u e n
  rw [upd_ne (fun z => by rw [z, h] at e'; exact n ys (Option.some.inj e').symm)]
  exact e'
theorem NL.new {D : Addr} {H H' : Hp} (x : NL H H') (h : H' D = none) (o : HO) : NL H (upd H' D o) := fun b u e n => by
  have e' := x b u e n
  rw [upd_ne (ne_of_none e' h)]
  exact e'
theorem NL.seqT {K : PySem.W.Frag} {H H' : Hp} {p : Addr} {xs : List V} (x : NL H H') (h : SqT K H p xs) : SqT K H' p xs :=
  h.elim (fun r => .inl (r.elim (fun e => .inl (x p _ e (fun _ z => nomatch z))) (fun ⟨o, e⟩ => .inr ⟨o, x p _ e (fun _ z => nomatch z)⟩))) .inr
mutual
inductive Tp (H : Hp) : V → PyData → Prop
  | non : Tp H .non .none
  | bl (b : Bool) : Tp H (.bl b) (.bool b)
  | int (i : Int) : Tp H (.int i) (.int i)
  | str (z : Str) : Tp H (.str z) (.str z)
  | tup {a : Addr} {vs : List V} {ds : List PyData} (h : H a = some (.tup vs)) (r : TpAll H vs ds) : Tp H (.ref a) (.tuple ds)
inductive TpAll (H : Hp) : List V → List PyData → Prop
  | nil : TpAll H [] []
  | cons {v : V} {vs : List V} {d : PyData} {ds : List PyData} (h : Tp H v d) (r : TpAll H vs ds) : TpAll H (v :: vs) (d :: ds)
end
mutual
theorem Tp.nl {H H' : Hp} (m : NL H H') : ∀ {v : V} {d : PyData}, Tp H v d → Tp H' v d
  | _, _, .non => .non
  | _, _, .bl b => .bl b
  | _, _, .int i => .int i
  | _, _, .str z => .str z
  | _, _, .tup h r => .tup (m _ _ h (fun _ z => nomatch z)) (TpAll.nl m r)
theorem TpAll.nl {H H' : Hp} (m : NL H H') : ∀ {vs : List V} {ds : List PyData}, TpAll H vs ds → TpAll H' vs ds
  | _, _, .nil => .nil
  | _, _, .cons h r => .cons (Tp.nl m h) (TpAll.nl m r)
end
mutual
theorem Tp.dp {K : PySem.W.Frag} {H : Hp} : ∀ {v : V} {d : PyData}, Tp H v d → Dp K H v d
  | _, _, .non => .non
  | _, _, .bl b => .bl b
  | _, _, .int i => .int i
  | _, _, .str z => .str z
  | _, _, .tup h r => .tup (.inl (.inl h)) (TpAll.dp r)
theorem TpAll.dp {K : PySem.W.Frag} {H : Hp} : ∀ {vs : List V} {ds : List PyData}, TpAll H vs ds → DpAll K H vs ds
  | _, _, .nil => .nil
  | _, _, .cons h r => .cons (Tp.dp h) (TpAll.dp r)
end
theorem TpAll.len {H : Hp} : ∀ {vs : List V} {ds : List PyData}, TpAll H vs ds → vs.length = ds.length
  | _, _, .nil => rfl
  | _, _, .cons _ r => congrArg (· + 1) (TpAll.len r)
theorem TpAll.snoc {H : Hp} : ∀ {vs : List V} {ds : List PyData} {v : V} {d : PyData}, TpAll H vs ds → Tp H v d → TpAll H (vs ++ [v]) (ds ++ [d])
  | _, _, _, _, .nil, h => .cons h .nil
  | _, _, _, _, .cons k r, h => .cons k (TpAll.snoc r h)
theorem TpAll.app {H : Hp} : ∀ {vs : List V} {ds : List PyData} {us : List V} {es : List PyData}, TpAll H vs ds → TpAll H us es → TpAll H (vs ++ us) (ds ++ es)
  | _, _, _, _, .nil, h => h
  | _, _, _, _, .cons k r, h => .cons k (TpAll.app r h)
theorem TpAll.get {H : Hp} : ∀ {vs : List V} {ds : List PyData} {i : Nat} {v : V}, TpAll H vs ds → vs[i]? = some v → ∃ d, ds[i]? = some d ∧ Tp H v d
  | _, _, _, _, .nil, e => nomatch e
  | _, _, 0, _, .cons h r, e => by
    injection e with e
    subst e
    exact ⟨_, rfl, h⟩
  | _, _, i + 1, _, .cons h r, e => by
    obtain ⟨d, e1, e2⟩ := TpAll.get (i := i) r e
    exact ⟨d, e1, e2⟩
theorem TpAll.get2 {H : Hp} {vs : List V} {ds : List PyData} {i : Nat} {d : PyData} (h : TpAll H vs ds) (e : ds[i]? = some d) : ∃ v, vs[i]? = some v ∧ Tp H v d := by
  have hi := (List.getElem?_eq_some_iff.mp e).1
  rw [← h.len] at hi
  have e1 := List.getElem?_eq_getElem hi
  obtain ⟨d', e2, e3⟩ := h.get e1
  rw [e] at e2
  injection e2 with e2
  subst e2
  exact ⟨_, e1, e3⟩
theorem TpAll.drop {H : Hp} : ∀ {vs : List V} {ds : List PyData} (n : Nat), TpAll H vs ds → TpAll H (vs.drop n) (ds.drop n)
  | _, _, 0, h => h
  | _, _, _ + 1, .nil => .nil
  | _, _, n + 1, .cons _ r => TpAll.drop n r
theorem TpAll.take {H : Hp} : ∀ {vs : List V} {ds : List PyData} (n : Nat), TpAll H vs ds → TpAll H (vs.take n) (ds.take n)
  | _, _, 0, _ => .nil
  | _, _, _ + 1, .nil => .nil
  | _, _, n + 1, .cons h r => .cons h (TpAll.take n r)
theorem TpAll.ints {H : Hp} : ∀ L : List Int, TpAll H (L.map V.int) (L.map PyData.int)
  | [] => .nil
  | i :: r => .cons (.int i) (TpAll.ints r)
theorem TpAll.strs {H : Hp} : ∀ L : List Str, TpAll H (L.map V.str) (L.map PyData.str)
  | [] => .nil
  | i :: r => .cons (.str i) (TpAll.strs r)
theorem TpAll.ints_inv {H : Hp} : ∀ {L : List Int} {vs : List V}, TpAll H vs (L.map PyData.int) → vs = L.map V.int
  | [], _, .nil => rfl
  | i :: r, _, .cons h a => by
    cases h
    rw [TpAll.ints_inv a]
    rfl
theorem TpAll.strs_inv {H : Hp} : ∀ {L : List Str} {vs : List V}, TpAll H vs (L.map PyData.str) → vs = L.map V.str
  | [], _, .nil => rfl
  | i :: r, _, .cons h a => by
    cases h
    rw [TpAll.strs_inv a]
    rfl
def dS (zs : List Str) : PyData := .tuple (zs.map PyData.str)
theorem tpL {H : Hp} {a : Addr} {L : List Int} (h : H a = some (.tup (L.map V.int))) : Tp H (.ref a) (dL L) := .tup h (.ints L)
theorem tpS {H : Hp} {a : Addr} {L : List Str} (h : H a = some (.tup (L.map V.str))) : Tp H (.ref a) (dS L) := .tup h (.strs L)
theorem tpL_inv {H : Hp} {v : V} {L : List Int} (h : Tp H v (dL L)) : ∃ a, v = .ref a ∧ H a = some (.tup (L.map V.int)) := by
  cases h with
  | tup h r => exact ⟨_, rfl, by rw [r.ints_inv] at h; exact h⟩
theorem tpS_inv {H : Hp} {v : V} {L : List Str} (h : Tp H v (dS L)) : ∃ a, v = .ref a ∧ H a = some (.tup (L.map V.str)) := by
  cases h with
  | tup h r => exact ⟨_, rfl, by rw [r.strs_inv] at h; exact h⟩
theorem tpP_inv {H : Hp} {v : V} {p : Pg} (h : Tp H v (dP p)) : ∃ a l, v = .ref a ∧ H a = some (.tup [.ref l, .int p.2]) ∧ H l = some (.tup (p.1.map V.int)) := by
  cases h with
  | tup h r =>
    cases r with
    | cons h1 r =>
      cases r with
      | cons h2 r =>
        cases r
        cases h2
        obtain ⟨l, rfl, hl⟩ := tpL_inv h1
        exact ⟨_, l, rfl, h, hl⟩
theorem tpP {H : Hp} {a l : Addr} {p : Pg} (h : H a = some (.tup [.ref l, .int p.2])) (hl : H l = some (.tup (p.1.map V.int))) : Tp H (.ref a) (dP p) := .tup h (.cons (tpL hl) (.cons (.int _) .nil))
theorem tpR_inv {H : Hp} {v : V} {r : Pg × Pg} (h : Tp H v (dR r)) : ∃ a x y, v = .ref a ∧ H a = some (.tup [x, y]) ∧ Tp H x (dP r.1) ∧ Tp H y (dP r.2) := by
  cases h with
  | tup h r =>
    cases r with
    | cons h1 r =>
      cases r with
      | cons h2 r =>
        cases r
        exact ⟨_, _, _, rfl, h, h1, h2⟩
theorem tpR {H : Hp} {a : Addr} {x y : V} {p q : Pg} (h : H a = some (.tup [x, y])) (h1 : Tp H x (dP p)) (h2 : Tp H y (dP q)) : Tp H (.ref a) (dR (p, q)) := .tup h (.cons h1 (.cons h2 .nil))
theorem smallM {n : Nat} (h : n < 1000000) : n < sizeLine := by rw [sizeLine_eq]; omega
theorem seqT_butI {K : PySem.W.Frag} {H H' : Hp} {x C dx p : Addr} {fs : List (Str × V)} {ys : List V} (hx : H x = some (.ins C dx fs)) (b : But x H H') (h : SqT K H p ys) : SqT K H' p ys :=
  h.elim (fun r => .inl (r.elim (fun e => .inl (b p _ (ne_of e hx (by intro z; cases z)) e)) (fun ⟨o, e⟩ => .inr ⟨o, b p _ (ne_of e hx (by intro z; cases z)) e⟩))) .inr
theorem tpAll_labs {H : Hp} : ∀ {us : List V} {Ls : List (List Int)}, TpAll H us (Ls.map dL) → us.map (labK H) = Ls ∧ ∀ u ∈ us, ∃ t, u = V.ref t ∧ H t = some (.tup ((labK H u).map V.int))
  | [], [], .nil => ⟨rfl, fun _ h => nomatch h⟩
  | _ :: _, L :: r, .cons h t => by
    obtain ⟨e1, e2⟩ := tpAll_labs t
    obtain ⟨a, rfl, ha⟩ := tpL_inv h
    have e3 := labK_at ha
    refine ⟨by rw [List.map_cons, e1, e3], fun u hu => ?_⟩
    rcases List.mem_cons.mp hu with h | h
    · rw [h]; exact ⟨a, rfl, by rw [e3]; exact ha⟩
    · exact e2 u h
theorem labs_tpAll {H : Hp} : ∀ {us : List V}, (∀ u ∈ us, ∃ t, u = V.ref t ∧ H t = some (.tup ((labK H u).map V.int))) → TpAll H us ((us.map (labK H)).map dL)
  | [], _ => .nil
  | u :: r, h => by
    obtain ⟨t, rfl, ht⟩ := h u (List.mem_cons_self ..)
    exact .cons (tpL ht) (labs_tpAll fun v hv => h v (List.mem_cons_of_mem _ hv))
theorem pn_Ls {Ls : List (List Int)} : SeqAt.shaped (.list (Ls.map dL)) = true := shaped_pnl (n := 1) (fun d hd => by obtain ⟨p, _, rfl⟩ := List.mem_map.mp hd; exact pn_L p) (by decide)
theorem shaped_L (L : List Int) : SeqAt.shaped (dL L) = true := shaped_pn (pn_L L) (by decide)
theorem in_L (L : List Int) (Ls : List (List Int)) : ((Ls.map dL).any fun z => PyData.eqv z (dL L)) = decide (L ∈ Ls) := by
  induction Ls with
  | nil => simp
  | cons q r ih =>
    rw [List.map_cons, List.any_cons, ih, eqv_L]
    by_cases h : q = L
    · subst h; simp
    · have : L ≠ q := fun z => h z.symm
      simp [h, this]
/-! ### data whose tuples and lists are tracked, its lists new since H0 -/
mutual
inductive Td (H0 H : Hp) : V → PyData → Prop
  | non : Td H0 H .non .none
  | bl (b : Bool) : Td H0 H (.bl b) (.bool b)
  | int (i : Int) : Td H0 H (.int i) (.int i)
  | str (z : Str) : Td H0 H (.str z) (.str z)
  | lst {a : Addr} {vs : List V} {ds : List PyData} (h : H a = some (.lst vs)) (n : H0 a = none) (r : TdAll H0 H vs ds) : Td H0 H (.ref a) (.list ds)
  | tup {a : Addr} {vs : List V} {ds : List PyData} (h : H a = some (.tup vs)) (r : TdAll H0 H vs ds) : Td H0 H (.ref a) (.tuple ds)
inductive TdAll (H0 H : Hp) : List V → List PyData → Prop
  | nil : TdAll H0 H [] []
  | cons {v : V} {vs : List V} {d : PyData} {ds : List PyData} (h : Td H0 H v d) (r : TdAll H0 H vs ds) : TdAll H0 H (v :: vs) (d :: ds)
end
mutual
theorem Td.to {H0 H H0' H' : Hp} (hm : ∀ a o, H0 a = none → H a = some o → H0' a = none ∧ H' a = some o) (ht : ∀ a ys, H a = some (.tup ys) → H' a = some (.tup ys)) : ∀ {v : V} {d : PyData}, Td H0 H v d → Td H0' H' v d
  | _, _, .non => .non
  | _, _, .bl b => .bl b
  | _, _, .int i => .int i
  | _, _, .str z => .str z
  | _, _, .lst h n r => .lst (hm _ _ n h).2 (hm _ _ n h).1 (TdAll.to hm ht r)
  | _, _, .tup h r => .tup (ht _ _ h) (TdAll.to hm ht r)
theorem TdAll.to {H0 H H0' H' : Hp} (hm : ∀ a o, H0 a = none → H a = some o → H0' a = none ∧ H' a = some o) (ht : ∀ a ys, H a = some (.tup ys) → H' a = some (.tup ys)) : ∀ {vs : List V} {ds : List PyData}, TdAll H0 H vs ds → TdAll H0' H' vs ds
  | _, _, .nil => .nil
  | _, _, .cons h r => .cons (Td.to hm ht h) (TdAll.to hm ht r)
end
theorem Td.same {H0 H H' : Hp} (s : Same H H') {v : V} {d : PyData} (h : Td H0 H v d) : Td H0 H' v d := h.to (fun a o n e => ⟨n, s a o e⟩) fun a ys e => s _ _ e
theorem TdAll.same {H0 H H' : Hp} (s : Same H H') {vs : List V} {ds : List PyData} (h : TdAll H0 H vs ds) : TdAll H0 H' vs ds := h.to (fun a o n e => ⟨n, s a o e⟩) fun a ys e => s _ _ e
mutual
theorem Td.dp {K : PySem.W.Frag} {H0 H : Hp} : ∀ {v : V} {d : PyData}, Td H0 H v d → Dp K H v d
  | _, _, .non => .non
  | _, _, .bl b => .bl b
  | _, _, .int i => .int i
  | _, _, .str z => .str z
  | _, _, .lst h _ r => .lst (.inl (.inl h)) r.dp
  | _, _, .tup h r => .tup (.inl (.inl h)) r.dp
theorem TdAll.dp {K : PySem.W.Frag} {H0 H : Hp} : ∀ {vs : List V} {ds : List PyData}, TdAll H0 H vs ds → DpAll K H vs ds
  | _, _, .nil => .nil
  | _, _, .cons h r => .cons h.dp r.dp
end
theorem Tp.td {H0 H : Hp} {v : V} {d : PyData} (h : Tp H v d) : Td H0 H v d := @Tp.rec H (fun v d _ => Td H0 H v d) (fun vs ds _ => TdAll H0 H vs ds) .non .bl .int .str (fun h _ r => .tup h r) .nil (fun _ _ a b => .cons a b) v d h
theorem TpAll.td {H0 H : Hp} : ∀ {vs : List V} {ds : List PyData}, TpAll H vs ds → TdAll H0 H vs ds
  | _, _, .nil => .nil
  | _, _, .cons h r => .cons h.td r.td
theorem TdAll.len {H0 H : Hp} : ∀ {vs : List V} {ds : List PyData}, TdAll H0 H vs ds → vs.length = ds.length
  | _, _, .nil => rfl
  | _, _, .cons _ r => congrArg (· + 1) r.len
theorem TdAll.snoc {H0 H : Hp} : ∀ {vs : List V} {ds : List PyData} {v : V} {d : PyData}, TdAll H0 H vs ds → Td H0 H v d → TdAll H0 H (vs ++ [v]) (ds ++ [d])
  | _, _, _, _, .nil, h => .cons h .nil
  | _, _, _, _, .cons a r, h => .cons a (r.snoc h)
theorem TdAll.get {H0 H : Hp} : ∀ {vs : List V} {ds : List PyData} {i : Nat} {v : V}, TdAll H0 H vs ds → vs[i]? = some v → ∃ d, ds[i]? = some d ∧ Td H0 H v d
  | _, _, i, v, .nil, h => by cases h
  | _, _, 0, v, .cons a r, h => by cases h; exact ⟨_, rfl, a⟩
  | _, _, i + 1, v, .cons a r, h => r.get h
/-- a row of such data, whether list or tuple -/
theorem Td.row {K : PySem.W.Frag} {H0 H : Hp} {v : V} {d : PyData} {ds : List PyData} (h : Td H0 H v d) (hi : items d = some ds) : ∃ (a : Addr) (xs : List V), v = .ref a ∧ TdAll H0 H xs ds ∧ ((H a = some (.lst xs) ∧ d = .list ds ∧ H0 a = none) ∨ (H a = some (.tup xs) ∧ d = .tuple ds)) := by
  cases h with
  | non => cases hi
  | bl b => cases hi
  | int i => cases hi
  | str z => cases hi
  | lst h n r => cases hi; exact ⟨_, _, rfl, r, .inl ⟨h, rfl, n⟩⟩
  | tup h r => cases hi; exact ⟨_, _, rfl, r, .inr ⟨h, rfl⟩⟩
/-! ### data given as lists where it was tuples -/
def Pl : Nat → PyData → Prop
  | 0, _ => False
  | _ + 1, .int _ => True
  | n + 1, .tuple ds => ds.length ≤ 1000 ∧ ∀ d ∈ ds, Pl n d
  | _ + 1, _ => False
mutual
def toL : PyData → PyData
  | .tuple ds => .list (toLs ds)
  | d => d
def toLs : List PyData → List PyData
  | [] => []
  | d :: r => toL d :: toLs r
end
theorem toLs_map : ∀ ds : List PyData, toLs ds = ds.map toL
  | [] => rfl
  | d :: r => congrArg (toL d :: ·) (toLs_map r)
theorem toLs_ints (L : List Int) : toLs (L.map PyData.int) = L.map PyData.int := by
  induction L with
  | nil => rfl
  | cons i t ih => show PyData.int i :: toLs (t.map PyData.int) = _; rw [ih]; rfl
theorem lay_pl : ∀ (n : Nat) (d : PyData), Pl n d → (toL d).canLay0 = true ∧ (toL d).depth ≤ n
  | 0, _, h => h.elim
  | _ + 1, .int _, _ => ⟨rfl, Nat.zero_le _⟩
  | n + 1, .tuple ds, h => by
    have key : ∀ es : List PyData, (∀ d ∈ es, Pl n d) → PyData.canLayAll0 (toLs es) = true ∧ PyData.depthAll (toLs es) ≤ n := by
      intro es
      induction es with
      | nil => exact fun _ => ⟨rfl, Nat.zero_le _⟩
      | cons d r ih =>
        intro hh
        have h1 := lay_pl n d (hh d (List.mem_cons_self ..))
        have h2 := ih fun e he => hh e (List.mem_cons_of_mem _ he)
        refine ⟨?_, ?_⟩
        · show ((toL d).canLay0 && PyData.canLayAll0 (toLs r)) = true
          rw [h1.1, h2.1]
          rfl
        · show max (toL d).depth (PyData.depthAll (toLs r)) ≤ n
          omega
    have := key ds h.2
    exact ⟨this.1, Nat.succ_le_succ this.2⟩
  | _ + 1, .none, h => by simp [Pl] at h
  | _ + 1, .bool _, h => by simp [Pl] at h
  | _ + 1, .str _, h => by simp [Pl] at h
  | _ + 1, .list _, h => by simp [Pl] at h
  | _ + 1, .dict _, h => by simp [Pl] at h
theorem shaped_pl {n : Nat} {d : PyData} (h : Pl n d) (hn : n ≤ 64) : SeqAt.shaped (toL d) = true := by
  have := lay_pl n d h
  unfold SeqAt.shaped
  rw [Bool.and_eq_true]
  exact ⟨this.1, decide_eq_true (by omega)⟩
theorem eqv_pl {n : Nat} {d : PyData} (h : Pl n d) : PyData.eqv (toL d) (toL d) = true := SeqAt.eqv_refl _ (lay_pl n d h).1
theorem pl_dL {L : List Int} (h : L.length ≤ 1000) (n : Nat) : Pl (n + 2) (dL L) := ⟨by rw [List.length_map]; exact h, fun d hd => by
  obtain ⟨i, _, rfl⟩ := List.mem_map.mp hd
  exact trivial⟩
theorem pl_dP {p : Pg} (h : p.1.length ≤ 3) (n : Nat) : Pl (n + 3) (dP p) := ⟨(by show 2 ≤ 1000; decide), fun d hd => by
  rcases List.mem_cons.mp hd with rfl | hd
  · exact pl_dL (by omega) n
  · rw [List.mem_singleton.mp hd]; exact trivial⟩
theorem pl_dR' {r : Pg × Pg} (h : okP r.1 ∧ okP r.2) (n : Nat) : Pl (n + 4) (dR r) := ⟨(by show 2 ≤ 1000; decide), fun d hd => by
  rcases List.mem_cons.mp hd with rfl | hd
  · exact pl_dP h.1.1.1 n
  · rw [List.mem_singleton.mp hd]; exact pl_dP h.2.1.1 n⟩
theorem pl_tup {α : Type} {f : α → PyData} {n : Nat} {xs : List α} (h : ∀ x ∈ xs, Pl n (f x)) (hl : xs.length ≤ 1000) : Pl (n + 1) (.tuple (xs.map f)) := ⟨by rw [List.length_map]; exact hl, fun d hd => by
  obtain ⟨x, hx, rfl⟩ := List.mem_map.mp hd
  exact h x hx⟩
/-! ### list comprehensions whose turns change nothing that stood -/
theorem walkL {K : PySem.W.Frag} {a : Addr} {xs : List V} {n : Nat} (h : xs.length = n) : Walk (Itl K a) n (fun H => SqL K H a xs) (YAt xs) := h ▸ walk_list
theorem walkT {K : PySem.W.Frag} {a : Addr} {xs : List V} {n : Nat} (h : xs.length = n) : Walk (Itt K a) n (fun H => SqT K H a xs) (YAt xs) := h ▸ walk_tup
theorem walk_zipT {K : PySem.W.Frag} {a b : Addr} {xs ys : List V} {n : Nat} (hn : n = min xs.length ys.length) : Walk (RZ.ItzT K a b) n (fun H => SqT K H a xs ∧ SqT K H b ys) (YPair (fun i => xs[i]?) (fun i => ys[i]?)) := by
  subst hn
  refine ⟨fun i _ hi q => ?_, fun _ q => ⟨xs, ys, q.1, q.2, by omega⟩, fun i H v H' _ q y => ?_⟩
  · have h1 : i < xs.length := by omega
    have h2 : i < ys.length := by omega
    exact ⟨xs, ys, xs[i], ys[i], q.1, q.2, by simp [h1], by simp [h2]⟩
  · obtain ⟨p, x, z, h1, h2, h3, h4, h5⟩ := y
    exact ⟨p, x, z, h1, h2, h3, h4 xs q.1, h5 ys q.2⟩
section
variable {J : It} {G : Hp → Prop} {Y : Nat → Hp → V → Hp → Prop} {g : TG} {tt : TT} {te : TE} {vs : List Nat} {σ : L2.St} {H1 : Hp} {D : Addr} {Qd : Hp → Prop} {α : Type}
theorem fm_step {β : Type} {ds : List α} {f : α → Option β} {i : Nat} {d : α} (e : ds[i]? = some d) : (ds.take (i + 1)).filterMap f = (ds.take i).filterMap f ++ (f d).toList := by
  rw [List.take_add_one, e, List.filterMap_append, Option.toList_some, List.filterMap_cons, List.filterMap_nil]
  cases f d <;> rfl
theorem fm_len {β : Type} (ds : List α) (f : α → Option β) (i : Nat) : ((ds.take i).filterMap f).length ≤ ds.length := Nat.le_trans (List.length_filterMap_le ..) (by rw [List.length_take]; omega)
/-- the values are known -/
theorem lc_fm (ds : List α) (f : α → Option V) (w : Walk J ds.length G Y) (nD : H1 D = none) (hG : ∀ H, Same H1 H → G H) (hl : ds.length ≤ 100000)
    (hs : ∀ i d x H H', ds[i]? = some d → Same H1 H → Y i H x H' → ∀ (R : V → Hp → Prop) (N : Hp → Prop), (∀ v, f d = some v → ∀ H4, Same H H4 → R v H4) → (f d = none → ∀ H4, Same H H4 → N H4) →
      g x (wipe σ vs) H' fun σ2 H2 => wipe σ2 vs = wipe σ vs ∧ tt σ2 H2 fun b H3 => if b = true then te σ2 H3 R else N H3)
    (hd : ∀ H, Same H1 H → H D = some (.lst (ds.filterMap f)) → Qd H) :
    ∃ W : Nat → Nat → Hp → Prop, (∃ m, W 0 m (upd H1 D (.lst []))) ∧ ∀ i m H, W i m H →
      (J.stop i H ∧ Qd H) ∨ (J.go i H ∧ ∃ Nx : Hp → Prop, (∀ H', Nx H' → ∃ m', m' < m ∧ W (i + 1) m' H') ∧ ∀ x H', J.yld i H x H' → g x (wipe σ vs) H' fun σ2 H2 => wipe σ2 vs = wipe σ vs ∧ tt σ2 H2 fun b H3 =>
        if b = true then te σ2 H3 fun y H4 => ∃ acc, H4 D = some (.lst acc) ∧ acc.length < sizeLine ∧ Nx (upd H4 D (.lst (acc ++ [y]))) else Nx H3) := by
  refine lc_it w (fun i H => Same H1 H ∧ H D = some (.lst ((ds.take i).filterMap f))) ⟨same_upd nD, upd_same⟩ (fun i H _ h => hG H h.1) (fun i x H H' hi ⟨sm, eD⟩ y => ?_) (fun H ⟨sm, eD⟩ => hd H sm (by rw [List.take_length] at eD; exact eD))
  have ei := List.getElem?_eq_getElem hi
  refine hs i ds[i] x H H' ei sm y _ _ (fun v ev H4 s4 => ?_) (fun en H4 s4 => ?_)
  · refine ⟨_, s4 _ _ eD, ?_, same_put (sm.trans s4) nD _, ?_⟩
    · have := fm_len ds f i
      exact Nat.lt_of_le_of_lt (Nat.le_trans this hl) (by decide)
    · rw [upd_same, fm_step ei, ev]
      rfl
  · refine ⟨sm.trans s4, ?_⟩
    rw [fm_step ei, en, s4 _ _ eD]
    simp
/-- the data are known, all of tracked tuples -/
theorem lc_tp (ds : List α) (f : α → Option PyData) (w : Walk J ds.length G Y) (nD : H1 D = none) (hG : ∀ H, Same H1 H → G H) (hl : ds.length ≤ 100000)
    (hs : ∀ i d x H H', ds[i]? = some d → Same H1 H → Y i H x H' → ∀ (R : V → Hp → Prop) (N : Hp → Prop), (∀ v e, f d = some e → ∀ H4, Same H H4 → Tp H4 v e → R v H4) → (f d = none → ∀ H4, Same H H4 → N H4) →
      g x (wipe σ vs) H' fun σ2 H2 => wipe σ2 vs = wipe σ vs ∧ tt σ2 H2 fun b H3 => if b = true then te σ2 H3 R else N H3)
    (hd : ∀ H us, Same H1 H → H D = some (.lst us) → TpAll H us (ds.filterMap f) → Qd H) :
    ∃ W : Nat → Nat → Hp → Prop, (∃ m, W 0 m (upd H1 D (.lst []))) ∧ ∀ i m H, W i m H →
      (J.stop i H ∧ Qd H) ∨ (J.go i H ∧ ∃ Nx : Hp → Prop, (∀ H', Nx H' → ∃ m', m' < m ∧ W (i + 1) m' H') ∧ ∀ x H', J.yld i H x H' → g x (wipe σ vs) H' fun σ2 H2 => wipe σ2 vs = wipe σ vs ∧ tt σ2 H2 fun b H3 =>
        if b = true then te σ2 H3 fun y H4 => ∃ acc, H4 D = some (.lst acc) ∧ acc.length < sizeLine ∧ Nx (upd H4 D (.lst (acc ++ [y]))) else Nx H3) := by
  refine lc_it w (fun i H => Same H1 H ∧ ∃ us, H D = some (.lst us) ∧ TpAll H us ((ds.take i).filterMap f)) ⟨same_upd nD, [], upd_same, .nil⟩ (fun i H _ h => hG H h.1) (fun i x H H' hi ⟨sm, us, eD, tp⟩ y => ?_) (fun H ⟨sm, us, eD, tp⟩ => hd H us sm eD (by rw [List.take_length] at tp; exact tp))
  have ei := List.getElem?_eq_getElem hi
  refine hs i ds[i] x H H' ei sm y _ _ (fun v e ev H4 s4 tv => ?_) (fun en H4 s4 => ?_)
  · have e4 := s4 _ _ eD
    refine ⟨us, e4, ?_, same_put (sm.trans s4) nD _, us ++ [v], upd_same, ?_⟩
    · have := fm_len ds f i
      rw [← tp.len] at this
      exact Nat.lt_of_le_of_lt (Nat.le_trans this hl) (by decide)
    · rw [fm_step ei, ev]
      have m := (NL.refl H4).put e4 (.lst (us ++ [v]))
      exact ((tp.nl (NL.of s4)).nl m).snoc (tv.nl m)
  · refine ⟨sm.trans s4, us, s4 _ _ eD, ?_⟩
    rw [fm_step ei, en]
    simpa using tp.nl (NL.of s4)
end
theorem map_fm {α β : Type} (f : α → β) (ds : List α) : ds.filterMap (fun d => some (f d)) = ds.map f := by
  induction ds with
  | nil => rfl
  | cons d r ih => rw [List.filterMap_cons, ih]; rfl
theorem fm_filter {α β : Type} (p : α → Bool) (f : α → β) (ds : List α) : ds.filterMap (fun d => if p d = true then some (f d) else none) = (ds.filter p).map f := by
  induction ds with
  | nil => rfl
  | cons d r ih =>
    rw [List.filterMap_cons]
    cases e : p d with
    | true => rw [if_pos rfl, List.filter_cons_of_pos e, List.map_cons, ih]
    | false => rw [if_neg (by decide), List.filter_cons_of_neg (by rw [e]; decide), ih]
theorem all_map {α : Type} (p : α → Bool) (ds : List α) : (ds.map p).all id = ds.all p := by
  induction ds with
  | nil => rfl
  | cons d r ih => rw [List.map_cons, List.all_cons, List.all_cons, ih]; rfl
theorem any_map {α : Type} (p : α → Bool) (ds : List α) : (ds.map p).any id = ds.any p := by
  induction ds with
  | nil => rfl
  | cons d r ih => rw [List.map_cons, List.any_cons, List.any_cons, ih]; rfl
/-! ### two fors -/
section
variable {J J1 : It} {n n1 : Nat} {G G1 : Hp → Prop} {Y Y1 : Nat → Hp → V → Hp → Prop} {wi1 : TI} {g g1 : TG} {tt tt1 : TT} {te : TE} {vs vs1 : List Nat} {σ σ2 : L2.St} {H1 H4 : Hp} {D : Addr} {Qd Nx : Hp → Prop}
/-- the inner for, begun at H4 -/
theorem in2_it (w : Walk J1 n1 G1 Y1) (Pv : Nat → Hp → Prop) (h0 : Pv 0 H4) (hG : ∀ i H, i ≤ n1 → Pv i H → G1 H)
    (hs : ∀ i x H H', i < n1 → Pv i H → Y1 i H x H' → g1 x (wipe σ2 vs1) H' fun σ3 H5 => wipe σ3 vs1 = wipe σ2 vs1 ∧ tt1 σ3 H5 fun b H6 =>
      if b = true then te σ3 H6 fun y H7 => ∃ acc, H7 D = some (.lst acc) ∧ acc.length < sizeLine ∧ Pv (i + 1) (upd H7 D (.lst (acc ++ [y]))) else Pv (i + 1) H6) (hd : ∀ H, Pv n1 H → Nx H) :
    ∃ W1 : Nat → Nat → Hp → Prop, (∃ m, W1 0 m H4) ∧ ∀ j k H, W1 j k H →
      (J1.stop j H ∧ Nx H) ∨ (J1.go j H ∧ ∃ Nx1 : Hp → Prop, (∀ H', Nx1 H' → ∃ k', k' < k ∧ W1 (j + 1) k' H') ∧ ∀ x H', J1.yld j H x H' → g1 x (wipe σ2 vs1) H' fun σ3 H5 => wipe σ3 vs1 = wipe σ2 vs1 ∧ tt1 σ3 H5 fun b H6 =>
        if b = true then te σ3 H6 fun y H7 => ∃ acc, H7 D = some (.lst acc) ∧ acc.length < sizeLine ∧ Nx1 (upd H7 D (.lst (acc ++ [y]))) else Nx1 H6) := by
  refine ⟨fun i m H => m = n1 - i ∧ i ≤ n1 ∧ Pv i H, ⟨n1, by simp, Nat.zero_le _, h0⟩, ?_⟩
  rintro i m H ⟨rfl, hi, p⟩
  have q := hG i H hi p
  by_cases hlt : i < n1
  · exact .inr ⟨w.goes i H hlt q, Pv (i + 1), fun H' p' => ⟨n1 - (i + 1), by omega, rfl, hlt, p'⟩, fun x H' y => hs i x H H' hlt p (w.yields i H x H' hlt q y)⟩
  · have e : i = n1 := by omega
    subst e
    exact .inl ⟨w.stops H q, hd H p⟩
/-- the outer for: what the inner one is asked for, as it stands -/
theorem lc2_it (w : Walk J n G Y) (Pv : Nat → Hp → Prop) (h0 : Pv 0 (upd H1 D (.lst []))) (hG : ∀ i H, i ≤ n → Pv i H → G H)
    (hs : ∀ i x H H', i < n → Pv i H → Y i H x H' → g x (wipe σ vs) H' fun σ2 H2 => wipe σ2 vs = wipe σ vs ∧ tt σ2 H2 fun b H3 =>
      if b = true then wi1 σ2 H3 fun J1 H4 => ∃ W1 : Nat → Nat → Hp → Prop, (∃ m, W1 0 m H4) ∧ ∀ j k H, W1 j k H →
        (J1.stop j H ∧ Pv (i + 1) H) ∨ (J1.go j H ∧ ∃ Nx1 : Hp → Prop, (∀ H', Nx1 H' → ∃ k', k' < k ∧ W1 (j + 1) k' H') ∧ ∀ x H', J1.yld j H x H' → g1 x (wipe σ2 vs1) H' fun σ3 H5 => wipe σ3 vs1 = wipe σ2 vs1 ∧ tt1 σ3 H5 fun b H6 =>
          if b = true then te σ3 H6 fun y H7 => ∃ acc, H7 D = some (.lst acc) ∧ acc.length < sizeLine ∧ Nx1 (upd H7 D (.lst (acc ++ [y]))) else Nx1 H6)
      else Pv (i + 1) H3) (hd : ∀ H, Pv n H → Qd H) :
    ∃ W : Nat → Nat → Hp → Prop, (∃ m, W 0 m (upd H1 D (.lst []))) ∧ ∀ i m H, W i m H →
      (J.stop i H ∧ Qd H) ∨ (J.go i H ∧ ∃ Nx : Hp → Prop, (∀ H', Nx H' → ∃ m', m' < m ∧ W (i + 1) m' H') ∧ ∀ x H', J.yld i H x H' → g x (wipe σ vs) H' fun σ2 H2 => wipe σ2 vs = wipe σ vs ∧ tt σ2 H2 fun b H3 =>
        if b = true then wi1 σ2 H3 fun J1 H4 => ∃ W1 : Nat → Nat → Hp → Prop, (∃ m, W1 0 m H4) ∧ ∀ j k H, W1 j k H →
          (J1.stop j H ∧ Nx H) ∨ (J1.go j H ∧ ∃ Nx1 : Hp → Prop, (∀ H', Nx1 H' → ∃ k', k' < k ∧ W1 (j + 1) k' H') ∧ ∀ x H', J1.yld j H x H' → g1 x (wipe σ2 vs1) H' fun σ3 H5 => wipe σ3 vs1 = wipe σ2 vs1 ∧ tt1 σ3 H5 fun b H6 =>
            if b = true then te σ3 H6 fun y H7 => ∃ acc, H7 D = some (.lst acc) ∧ acc.length < sizeLine ∧ Nx1 (upd H7 D (.lst (acc ++ [y]))) else Nx1 H6)
        else Nx H3) := by
  refine ⟨fun i m H => m = n - i ∧ i ≤ n ∧ Pv i H, ⟨n, by simp, Nat.zero_le _, h0⟩, ?_⟩
  rintro i m H ⟨rfl, hi, p⟩
  have q := hG i H hi p
  by_cases hlt : i < n
  · exact .inr ⟨w.goes i H hlt q, Pv (i + 1), fun H' p' => ⟨n - (i + 1), by omega, rfl, hlt, p'⟩, fun x H' y => hs i x H H' hlt p (w.yields i H x H' hlt q y)⟩
  · have e : i = n := by omega
    subst e
    exact .inl ⟨w.stops H q, hd H p⟩
end
section
variable {K : PySem.W.Frag} {J : It} {G : Hp → Prop} {Y : Nat → Hp → V → Hp → Prop} {g : TG} {tt : TT} {te : TE} {vs : List Nat} {σ : L2.St} {H1 : Hp} {D : Addr} {Qd : Hp → Prop} {α : Type}
/-- the data are known, without lists -/
theorem lc_dp (ds : List α) (f : α → Option PyData) (hn : ∀ d e, f d = some e → ∃ n, Nl n e) (w : Walk J ds.length G Y) (nD : H1 D = none) (hG : ∀ H, Same H1 H → G H) (hl : ds.length ≤ 100000)
    (hs : ∀ i d x H H', ds[i]? = some d → Same H1 H → Y i H x H' → ∀ (R : V → Hp → Prop) (N : Hp → Prop), (∀ v e, f d = some e → ∀ H4, Same H H4 → Dp K H4 v e → R v H4) → (f d = none → ∀ H4, Same H H4 → N H4) →
      g x (wipe σ vs) H' fun σ2 H2 => wipe σ2 vs = wipe σ vs ∧ tt σ2 H2 fun b H3 => if b = true then te σ2 H3 R else N H3)
    (hd : ∀ H us, Same H1 H → H D = some (.lst us) → DpAll K H us (ds.filterMap f) → Qd H) :
    ∃ W : Nat → Nat → Hp → Prop, (∃ m, W 0 m (upd H1 D (.lst []))) ∧ ∀ i m H, W i m H →
      (J.stop i H ∧ Qd H) ∨ (J.go i H ∧ ∃ Nx : Hp → Prop, (∀ H', Nx H' → ∃ m', m' < m ∧ W (i + 1) m' H') ∧ ∀ x H', J.yld i H x H' → g x (wipe σ vs) H' fun σ2 H2 => wipe σ2 vs = wipe σ vs ∧ tt σ2 H2 fun b H3 =>
        if b = true then te σ2 H3 fun y H4 => ∃ acc, H4 D = some (.lst acc) ∧ acc.length < sizeLine ∧ Nx (upd H4 D (.lst (acc ++ [y]))) else Nx H3) := by
  refine lc_it w (fun i H => Same H1 H ∧ ∃ us, H D = some (.lst us) ∧ DpAll K H us ((ds.take i).filterMap f)) ⟨same_upd nD, [], upd_same, .nil⟩ (fun i H _ h => hG H h.1) (fun i x H H' hi ⟨sm, us, eD, tp⟩ y => ?_) (fun H ⟨sm, us, eD, tp⟩ => hd H us sm eD (by rw [List.take_length] at tp; exact tp))
  have ei := List.getElem?_eq_getElem hi
  refine hs i ds[i] x H H' ei sm y _ _ (fun v e ev H4 s4 tv => ?_) (fun en H4 s4 => ?_)
  · have e4 := s4 _ _ eD
    refine ⟨us, e4, ?_, same_put (sm.trans s4) nD _, us ++ [v], upd_same, ?_⟩
    · have := fm_len ds f i
      rw [← dpAll_len tp] at this
      exact Nat.lt_of_le_of_lt (Nat.le_trans this hl) (by decide)
    · rw [fm_step ei, ev]
      refine dpAll_snoc (dpAll_butN e4 (But.upd _) (dpAll_same s4 tp) fun d hd => ?_) (dp_butN e4 (But.upd _) tv (hn _ _ ev))
      obtain ⟨a, _, ea⟩ := List.mem_filterMap.mp hd
      exact hn _ _ ea
  · refine ⟨sm.trans s4, us, s4 _ _ eD, ?_⟩
    rw [fm_step ei, en]
    simpa using dpAll_same s4 tp
end
theorem nl_P (p : Pg) : ∃ n, Nl n (dP p) := ⟨2, fun d hd => by
  rcases List.mem_cons.mp hd with h | h
  · rw [h]
    exact fun e he => by
      obtain ⟨i, _, rfl⟩ := List.mem_map.mp he
      trivial
  · rw [List.mem_singleton.mp h]; trivial⟩
theorem nl_oP (o : Option Pg) : ∃ n, Nl n (oD dP o) := by
  cases o with
  | none => exact ⟨0, trivial⟩
  | some p => exact nl_P p
theorem in_P (p : Pg) (ps : List Pg) : ((ps.map dP).any fun z => PyData.eqv z (dP p)) = decide (p ∈ ps) := by
  induction ps with
  | nil => simp
  | cons q r ih =>
    rw [List.map_cons, List.any_cons, ih, eqv_P]
    by_cases h : q = p
    · subst h; simp
    · have : p ≠ q := fun z => h z.symm
      simp [h, this]
theorem shaped_P (p : Pg) : SeqAt.shaped (dP p) = true := shaped_pn (pn_P p) (by decide)
theorem shaped_Ps (ps : List Pg) : SeqAt.shaped (.list (ps.map dP)) = true := shaped_pnl (n := 2) (fun d hd => by obtain ⟨p, _, rfl⟩ := List.mem_map.mp hd; exact pn_P p) (by decide)
theorem nl_R (r : Pg × Pg) : ∃ n, Nl n (dR r) := ⟨3, fun d hd => by
  have two : ∀ p : Pg, Nl 2 (dP p) := fun p e he => by
    rcases List.mem_cons.mp he with h | h
    · rw [h]
      exact fun e he => by
        obtain ⟨i, _, rfl⟩ := List.mem_map.mp he
        trivial
    · rw [List.mem_singleton.mp h]; trivial
  rcases List.mem_cons.mp hd with h | h
  · rw [h]; exact two _
  · rw [List.mem_singleton.mp h]; exact two _⟩
/-! ### leaves and books in the heap -/
def gOr (a b : TG) : TG := fun v σ H Q => a v σ H Q ∨ b v σ H Q
abbrev Sk := (Int × Int × Int) × Str
def dSk (s : Sk) : PyData := .tuple [.int s.1.1, .int s.1.2.1, .int s.1.2.2, .str s.2]
def dPen (ss : List Sk) : PyData := .tuple (ss.map dSk)
def kSk (s : Sk) : List L2.Key := [.inl s.1.1, .inl s.1.2.1, .inl s.1.2.2]
def penT : List Sk → List (List L2.Key × V) := fun ss => ss.foldl (fun kvs s => putK kvs (kSk s) (.str s.2)) []
structure Lf where
  L : List Int
  fr : List Str
  bk : List Str
  pen : List Sk
def fLf (l f b p s : V) : List (Str × V) := [("label", l), ("front", f), ("back", b), ("pen", p), ("_strokes", s)]
def LfAt (C : Addr) (H : Hp) (v : V) (lf : Lf) : Prop := ∃ (x dx l f b p s : Addr), v = .ref x ∧ H x = some (.ins C dx (fLf (.ref l) (.ref f) (.ref b) (.ref p) (.ref s))) ∧ H l = some (.tup (lf.L.map V.int)) ∧
  H f = some (.tup (lf.fr.map V.str)) ∧ H b = some (.tup (lf.bk.map V.str)) ∧ Tp H (.ref p) (dPen lf.pen) ∧ H s = some (.dT (penT lf.pen))
inductive LfAll (C : Addr) (H : Hp) : List V → List Lf → Prop
  | nil : LfAll C H [] []
  | cons {v : V} {vs : List V} {l : Lf} {ls : List Lf} (h : LfAt C H v l) (r : LfAll C H vs ls) : LfAll C H (v :: vs) (l :: ls)
def fBk (l s : V) : List (Str × V) := [("leaves", l), ("_spots", s)]
/-- at each label the place of its leaf -/
def spots (ls : List Lf) : Nat → List (List L2.Key × V)
  | 0 => []
  | n + 1 => match ls[n]? with
    | some l => putK (spots ls n) (l.L.map Sum.inl) (.int (n : Nat))
    | none => spots ls n
def BkAt (C CB : Addr) (H : Hp) (v : V) (bk : List Lf) : Prop := ∃ (x dx l s : Addr) (vs : List V), v = .ref x ∧ H x = some (.ins CB dx (fBk (.ref l) (.ref s))) ∧ H l = some (.tup vs) ∧ LfAll C H vs bk ∧ H s = some (.dT (spots bk bk.length)) ∧ bk.length ≤ 60
theorem LfAt.nl {C : Addr} {H H' : Hp} {v : V} {lf : Lf} (m : NL H H') (h : LfAt C H v lf) : LfAt C H' v lf := by
  obtain ⟨x, dx, l, f, b, p, s, ev, h1, h2, h3, h4, h5, h6⟩ := h
  have k : ∀ {q : Addr} {o : HO}, H q = some o → (∀ ys, o ≠ .lst ys) → H' q = some o := fun e n => m _ _ e n
  exact ⟨x, dx, l, f, b, p, s, ev, k h1 (fun _ z => nomatch z), k h2 (fun _ z => nomatch z), k h3 (fun _ z => nomatch z), k h4 (fun _ z => nomatch z), h5.nl m, k h6 (fun _ z => nomatch z)⟩
theorem LfAll.nl {C : Addr} {H H' : Hp} (m : NL H H') : ∀ {vs : List V} {ls : List Lf}, LfAll C H vs ls → LfAll C H' vs ls
  | _, _, .nil => .nil
  | _, _, .cons h r => .cons (h.nl m) (LfAll.nl m r)
theorem LfAll.len {C : Addr} {H : Hp} : ∀ {vs : List V} {ls : List Lf}, LfAll C H vs ls → vs.length = ls.length
  | _, _, .nil => rfl
  | _, _, .cons _ r => congrArg (· + 1) (LfAll.len r)
theorem LfAll.snoc {C : Addr} {H : Hp} : ∀ {vs : List V} {ls : List Lf} {v : V} {l : Lf}, LfAll C H vs ls → LfAt C H v l → LfAll C H (vs ++ [v]) (ls ++ [l])
  | _, _, _, _, .nil, h => .cons h .nil
  | _, _, _, _, .cons k r, h => .cons k (LfAll.snoc r h)
theorem LfAll.get {C : Addr} {H : Hp} : ∀ {vs : List V} {ls : List Lf} {i : Nat} {v : V}, LfAll C H vs ls → vs[i]? = some v → ∃ l, ls[i]? = some l ∧ LfAt C H v l
  | _, _, _, _, .nil, e => nomatch e
  | _, _, 0, _, .cons h r, e => by
    injection e with e
    subst e
    exact ⟨_, rfl, h⟩
  | _, _, i + 1, _, .cons h r, e => by
    obtain ⟨d, e1, e2⟩ := LfAll.get (i := i) r e
    exact ⟨d, e1, e2⟩
theorem LfAll.get2 {C : Addr} {H : Hp} {vs : List V} {ls : List Lf} {i : Nat} {l : Lf} (h : LfAll C H vs ls) (e : ls[i]? = some l) : ∃ v, vs[i]? = some v ∧ LfAt C H v l := by
  have hi := (List.getElem?_eq_some_iff.mp e).1
  rw [← h.len] at hi
  have e1 := List.getElem?_eq_getElem hi
  obtain ⟨d', e2, e3⟩ := h.get e1
  rw [e] at e2
  injection e2 with e2
  subst e2
  exact ⟨_, e1, e3⟩
theorem BkAt.nl {C CB : Addr} {H H' : Hp} {v : V} {bk : List Lf} (m : NL H H') (h : BkAt C CB H v bk) : BkAt C CB H' v bk := by
  obtain ⟨x, dx, l, s, vs, ev, h1, h2, h3, h4, h5⟩ := h
  have k : ∀ {q : Addr} {o : HO}, H q = some o → (∀ ys, o ≠ .lst ys) → H' q = some o := fun e n => m _ _ e n
  exact ⟨x, dx, l, s, vs, ev, k h1 (fun _ z => nomatch z), k h2 (fun _ z => nomatch z), h3.nl m, k h4 (fun _ z => nomatch z), h5⟩
theorem spots_len (ls : List Lf) : ∀ n, (spots ls n).length ≤ n
  | 0 => Nat.le_refl _
  | n + 1 => by
    unfold spots
    cases ls[n]? with
    | none => exact Nat.le_succ_of_le (spots_len ls n)
    | some l => exact Nat.le_trans (length_putK _ _ _) (Nat.succ_le_succ (spots_len ls n))
theorem kL (L : List Int) : (L.map (Sum.inl : Int → L2.Key)).map kV = L.map V.int := by
  rw [List.map_map]
  rfl
theorem fLf_label {l f b p s : V} : (fLf l f b p s).lookup ("label" : Str) = some l := by
  have e : (("label" : Str) == ("label" : Str)) = true := beq_self_eq_true _
  simp only [fLf, List.lookup, e]
theorem fLf_front {l f b p s : V} : (fLf l f b p s).lookup ("front" : Str) = some f := by
  have e : (("front" : Str) == ("label" : Str)) = false := by decide +kernel
  have e2 : (("front" : Str) == ("front" : Str)) = true := beq_self_eq_true _
  simp only [fLf, List.lookup, e, e2]
theorem fLf_back {l f b p s : V} : (fLf l f b p s).lookup ("back" : Str) = some b := by
  have e : (("back" : Str) == ("label" : Str)) = false := by decide +kernel
  have e1 : (("back" : Str) == ("front" : Str)) = false := by decide +kernel
  have e2 : (("back" : Str) == ("back" : Str)) = true := beq_self_eq_true _
  simp only [fLf, List.lookup, e, e1, e2]
theorem fLf_pen {l f b p s : V} : (fLf l f b p s).lookup ("pen" : Str) = some p := by
  have e : (("pen" : Str) == ("label" : Str)) = false := by decide +kernel
  have e1 : (("pen" : Str) == ("front" : Str)) = false := by decide +kernel
  have e2 : (("pen" : Str) == ("back" : Str)) = false := by decide +kernel
  have e3 : (("pen" : Str) == ("pen" : Str)) = true := beq_self_eq_true _
  simp only [fLf, List.lookup, e, e1, e2, e3]
theorem fLf_strokes {l f b p s : V} : (fLf l f b p s).lookup ("_strokes" : Str) = some s := by
  have e : (("_strokes" : Str) == ("label" : Str)) = false := by decide +kernel
  have e1 : (("_strokes" : Str) == ("front" : Str)) = false := by decide +kernel
  have e2 : (("_strokes" : Str) == ("back" : Str)) = false := by decide +kernel
  have e3 : (("_strokes" : Str) == ("pen" : Str)) = false := by decide +kernel
  have e4 : (("_strokes" : Str) == ("_strokes" : Str)) = true := beq_self_eq_true _
  simp only [fLf, List.lookup, e, e1, e2, e3, e4]
theorem fLf_no {l f b p s : V} {m : Str} (h : ((m == ("label" : Str)) || (m == ("front" : Str)) || (m == ("back" : Str)) || (m == ("pen" : Str)) || (m == ("_strokes" : Str))) = false) : (fLf l f b p s).lookup m = none := by
  simp only [Bool.or_eq_false_iff] at h
  simp only [fLf, List.lookup, h.1.1.1.1, h.1.1.1.2, h.1.1.2, h.1.2, h.2]
theorem fBk_leaves {l s : V} : (fBk l s).lookup ("leaves" : Str) = some l := by
  have e : (("leaves" : Str) == ("leaves" : Str)) = true := beq_self_eq_true _
  simp only [fBk, List.lookup, e]
theorem fBk_spots {l s : V} : (fBk l s).lookup ("_spots" : Str) = some s := by
  have e : (("_spots" : Str) == ("leaves" : Str)) = false := by decide +kernel
  have e2 : (("_spots" : Str) == ("_spots" : Str)) = true := beq_self_eq_true _
  simp only [fBk, List.lookup, e, e2]
theorem fBk_no {l s : V} {m : Str} (h : ((m == ("leaves" : Str)) || (m == ("_spots" : Str))) = false) : (fBk l s).lookup m = none := by
  simp only [Bool.or_eq_false_iff] at h
  simp only [fBk, List.lookup, h.1, h.2]
/-- rows of words -/
def tokB (z : Str) : Bool := decide (1 ≤ z.length) && decide (z.length ≤ 20) && decide (32 ∉ z.cps.toList)
def rowB (z : Str) : Bool := decide (z.length ≤ 120) && decide ((Txt.split z " ").length ≤ 30) && (Txt.split z " ").all tokB
def rowsB (l : Nat) (zs : List Str) : Bool := decide (l ≤ zs.length) && decide (zs.length ≤ 12) && zs.all rowB
/-- the pages of a book -/
def allP (bk : List Lf) : List Pg := bk.flatMap fun l => [(l.L, 0), (l.L, 1)]
def sideP (l : Lf) : List Pg := (if l.fr = [] then [] else [(l.L, 0)]) ++ (if l.bk = [] then [] else [(l.L, 1)])
def shownP (bk : List Lf) : List Pg := bk.flatMap sideP
def dPs (ps : List Pg) : PyData := .tuple (ps.map dP)
/-- what is kept of a label, as a value -/
def KeptL (K : PySem.W.Frag) (H' : Hp) (v y : V) : Option (List Int) → Prop
  | none => y = .non
  | some L => (y = v ∧ ∃ a, v = .ref a ∧ SqT K H' a (L.map V.int)) ∨ ∃ b, y = .ref b ∧ H' b = some (.tup (L.map V.int))
theorem KeptL.dp {K : PySem.W.Frag} {H' : Hp} {v y : V} {o : Option (List Int)} (h : KeptL K H' v y o) : Dp K H' y (oD dL o) := by
  cases o with
  | none => cases h; exact .non
  | some L =>
    rcases h with ⟨rfl, a, rfl, h⟩ | ⟨b, rfl, h⟩
    · exact dpL h
    · exact dpL (.inl (.inl h))
/-- .. that was tracked -/
theorem KeptL.tup {K : PySem.W.Frag} {H H' : Hp} {a : Addr} {xs : List V} {y : V} {L : List Int} (m : NL H H') (e : H a = some (.tup xs)) (hx : xs = L.map V.int) (h : KeptL K H' (.ref a) y (some L)) : ∃ b, y = .ref b ∧ H' b = some (.tup (L.map V.int)) := by
  rcases h with ⟨rfl, _, _, _⟩ | h
  · exact ⟨a, rfl, by rw [← hx]; exact m _ _ e (fun _ z => nomatch z)⟩
  · exact h
/-- a page that is kept -/
def toI : PyData → Int
  | .int i => i
  | _ => 0
theorem kept_dL {L : List Int} (h : okL L) : keptD (dL L) = some L := by
  unfold keptD dL
  show keep ((L.map PyData.int).map toO) = some L
  rw [toO_ints h.2.2, keep_map, if_pos ⟨h.1, h.2.1⟩]
theorem kit_self {K : PySem.W.Frag} {C : Addr} : PySem.W.kitOne K (.ref C) (.ref C) = some true := if_pos (beq_self_eq_true _)
theorem NL.butI {H H' : Hp} {x C dx : Addr} (hx : H x = some (.ins C dx [])) (b : But x H H') {C' : Addr} {v : V} {lf : Lf} (h : LfAt C' H v lf) : LfAt C' H' v lf := by
  obtain ⟨y, dy, l, f, g, p, s, ev, h1, h2, h3, h4, h5, h6⟩ := h
  have k : ∀ {q : Addr} {o : HO}, H q = some o → o ≠ .ins C dx [] → H' q = some o := fun {q o} e n => b q o (fun z => n (by rw [z, hx] at e; exact (Option.some.inj e).symm)) e
  refine ⟨y, dy, l, f, g, p, s, ev, k h1 (by intro z; injection z with z1 z2 z3; cases z3), k h2 (fun z => nomatch z), k h3 (fun z => nomatch z), k h4 (fun z => nomatch z), ?_, k h6 (fun z => nomatch z)⟩
  have tp : ∀ {H1 : Hp}, (∀ q xs, H q = some (.tup xs) → H1 q = some (.tup xs)) → ∀ (ss : List Sk) {us : List V}, TpAll H us (ss.map dSk) → TpAll H1 us (ss.map dSk) := fun {H1} m ss => by
    induction ss with
    | nil => intro us t; cases t; exact .nil
    | cons q r ih =>
      intro us t
      cases t with
      | cons h0 t =>
        refine .cons ?_ (ih t)
        cases h0 with
        | tup e r4 =>
          refine .tup (m _ _ e) ?_
          cases r4 with
          | cons a1 r3 =>
            cases r3 with
            | cons a2 r2 =>
              cases r2 with
              | cons a3 r1 =>
                cases r1 with
                | cons a4 r0 =>
                  cases a1; cases a2; cases a3; cases a4; cases r0
                  exact .cons (.int _) (.cons (.int _) (.cons (.int _) (.cons (.str _) .nil)))
  cases h5 with
  | tup e r => exact .tup (k e (fun z => nomatch z)) (tp (fun q xs e => k e (fun z => nomatch z)) lf.pen r)
theorem LfAll.butI {H H' : Hp} {x C dx C' : Addr} (hx : H x = some (.ins C dx [])) (b : But x H H') : ∀ {vs : List V} {ls : List Lf}, LfAll C' H vs ls → LfAll C' H' vs ls
  | _, _, .nil => .nil
  | _, _, .cons h r => .cons (NL.butI hx b h) (LfAll.butI hx b r)
theorem allP_len : ∀ bk : List Lf, (allP bk).length = 2 * bk.length
  | [] => rfl
  | l :: r => by
    show ([(l.L, (0 : Int)), (l.L, 1)] ++ allP r).length = 2 * (r.length + 1)
    rw [List.length_append, allP_len r]
    show 2 + _ = _
    omega
def sideF (l : Lf) (s : Int) : Option Pg := if (if s = 1 then l.bk else l.fr) = [] then none else some (l.L, s)
theorem sideP_eq (l : Lf) : sideP l = [0, 1].filterMap (sideF l) := by
  unfold sideP sideF
  cases h1 : l.fr <;> cases h2 : l.bk <;> simp [h1, h2]
theorem shownP_snoc (bk : List Lf) (l : Lf) : shownP (bk ++ [l]) = shownP bk ++ sideP l := by
  unfold shownP
  rw [List.flatMap_append]
  simp
theorem shownP_len : ∀ bk : List Lf, (shownP bk).length ≤ 2 * bk.length
  | [] => Nat.le_refl _
  | l :: r => by
    show (sideP l ++ shownP r).length ≤ 2 * (r.length + 1)
    have := shownP_len r
    have h : (sideP l).length ≤ 2 := by
      rw [sideP_eq]
      exact List.length_filterMap_le ..
    rw [List.length_append]
    omega
theorem tru_tup {K : PySem.W.Frag} {H : Hp} {a : Addr} {xs : List V} (h : SqT K H a xs) : TruV K (.ref a) H (!xs.isEmpty) := .inr (.inl ⟨xs, h, rfl⟩)
theorem tru_lst {K : PySem.W.Frag} {H : Hp} {a : Addr} {xs : List V} (h : SqL K H a xs) : TruV K (.ref a) H (!xs.isEmpty) := .inl ⟨xs, h, rfl⟩
theorem sideF_none {l : Lf} {s : Int} (h : sideF l s = none) : (if s = 1 then l.bk else l.fr) = [] := by
  unfold sideF at h
  generalize (if s = 1 then l.bk else l.fr) = rs at h
  cases rs with
  | nil => rfl
  | cons u w => rw [if_neg (by simp)] at h; cases h
theorem sideF_some {l : Lf} {s : Int} {p : Pg} (h : sideF l s = some p) : (if s = 1 then l.bk else l.fr) ≠ [] ∧ p = (l.L, s) := by
  unfold sideF at h
  generalize (if s = 1 then l.bk else l.fr) = rs at h
  cases rs with
  | nil => rw [if_pos rfl] at h; cases h
  | cons u w => rw [if_neg (by simp)] at h; injection h with h; exact ⟨by simp, h.symm⟩
/-! ### a dict comprehension whose keys are tuples of ints and texts -/
section
variable {X : Cx} {D b : Addr} {kvs : List (List L2.Key × V)} {k : List L2.Key}
theorem put_tupkey {pins : List (Addr × Obj)} {σ : L2.St} {H : Hp} {s : Shared} {EE : Value → Shared → Prop} {v : V} {r : Value} {QQ : Unit → Shared → Prop} (hu : X.A.units + 1 < cLine) (I : Inv X pins σ H s) (hD : H D = some (.dT kvs)) (hb : H b = some (.tup (k.map kV)))
    (small : kvs.length < sizeLine) (rv : RelV v r) (go : ∀ s', Inv X pins σ (upd H D (.dT (putK kvs k v))) s' → QQ () s') : wpAny (model X.prog X.w) X.A (dictSet D (.ref b) r) QQ EE s := by
  obtain ⟨le, nsys, xs, rel, dd⟩ := dt_of I.hok hD
  have le2 : (putK kvs k v).length ≤ sizeLine := Nat.le_trans (length_putK kvs k v) small
  refine wpAny_dictSet_heap (knd := tupleKind (mixKind X.prog X.w)) (hsz := by rw [← Paired.length rel]; exact le) (show X.A.units < cLine by omega) (key_of I.hok hb) dd fun h' new only => go _ ?_
  obtain ⟨o, es, ep, at_, x1, x2, x3, _, x5⟩ := new
  refine d_write I (by rw [hD]; exact True.intro) only ⟨o, at_⟩ ⟨le2, nsys, _, (rel.put k hb rv).keeps fun c ys ec => ?_, o, es, ep, at_, x1, x2, x3, x5⟩
  exact (upd_ne (ne_of ec hD (by intro z; cases z))).trans ec
/-- {k: v for target in iter}: D the new dict -/
def tDcT (wi : TI) (g : TG) (tk tv : TE) (vs : List Nat) : TE := fun σ H Q => wi σ H fun J H1 => ∀ D, H1 D = Option.none → ∃ W : Nat → Nat → Hp → Prop, (∃ m, W 0 m (upd H1 D (.dT []))) ∧ ∀ i m H, W i m H →
  (J.stop i H ∧ Q (.ref D) H) ∨ (J.go i H ∧ ∃ Nx : Hp → Prop, (∀ H', Nx H' → ∃ m', m' < m ∧ W (i + 1) m' H') ∧ ∀ x H', J.yld i H x H' → g x (wipe σ vs) H' fun σ2 H2 => wipe σ2 vs = wipe σ vs ∧
    tk σ2 H2 fun y H4 => tv σ2 H4 fun z H5 => ∃ b kvs k, y = .ref b ∧ H5 D = some (.dT kvs) ∧ H5 b = some (.tup (k.map kV)) ∧ kvs.length < sizeLine ∧ Nx (upd H5 D (.dT (putK kvs k z))))
theorem pe_dcT {kx vx tg iter : Expr} {scope : Scope} {own : List (Str × Nat)} {pos : Pos} {wi : TI} {g : TG} {tk tv : TE} (hu : X.A.units + 1 < cLine) (hc : X.calm = true) (hN : X.N.Nodup) (hi : PI X tg iter wi) (ok : BlkOk X.N X.env.scope scope own)
    (hg : ∀ (s : Shared) (H : Hp) (C : Addr) (cl : List (Str × Addr)) (fp : List Addr), PG (X.blk s H scope (compEnvC scope cl C X.env) fp) tg g)
    (hk : ∀ (s : Shared) (H : Hp) (C : Addr) (cl : List (Str × Addr)) (fp : List Addr), PE (X.blk s H scope (compEnvC scope cl C X.env) fp) kx tk)
    (hv : ∀ (s : Shared) (H : Hp) (C : Addr) (cl : List (Str × Addr)) (fp : List Addr), PE (X.blk s H scope (compEnvC scope cl C X.env) fp) vx tv) (hs : ∀ x, foldedSetIterable iter X.env x = pure x := by intro _; rfl) :
    PE X (.DictComp kx vx [⟨tg, iter, [], 0⟩] scope pos) (tDcT wi g tk tv (own.map (·.2))) := by
  constructor
  intro pins s σ H Q I h
  rw [arm_eval_DictComp]
  have hfree : ∀ y ∈ scope.names, y.2 = .free → ∃ c, X.env.cells.lookup y.1 = some c := fun y hy e => (ok.free y hy e).elim (fun k => I.ok.has _ (.inl k)) (fun k => I.ok.has _ (.inr k))
  refine comprehension_at (use := Option.none) rfl hs (closure_ok hfree) ok.kind (fun y hy e => by rw [ok.uniq y hy, e]) (thn (hi.run pins s σ H _ I h) fun xv s1 hx => thn hx fun itv s2 h2 => ?_)
  obtain ⟨it, fp, tn, J, H2, rfl, I2, T, st2, f2, q⟩ := h2
  refine wpAny_newObj_type (newEnv_comp ?_)
  obtain ⟨D, hD⟩ : ∃ D, s2.heap.objs.size = D := ⟨_, rfl⟩
  obtain ⟨W, ⟨m0, w0⟩, turn⟩ := q D (I2.hok.fresh (Nat.le_of_eq hD))
  rw [hD]
  obtain ⟨s3, hs3⟩ : ∃ s3 : Shared, s3 = { s2 with heap := s2.heap.push { cls := .type "dict", data := .dict #[] } } := ⟨_, rfl⟩
  have h3 : s3.heap = s2.heap.push { cls := .type "dict", data := .dict #[] } := by rw [hs3]
  have I3 : Inv X pins σ (upd H2 D (.dT [])) s3 := by
    rw [hs3]
    refine I2.laid (t' := s2.toks) (fun b o e => Heap.get?_push_of_some _ e) (Nat.le_of_eq hD) ?_
    rw [← hD]
    exact dt_empty s2.heap I2.big
  have f3 : ∀ b ∈ fp, FpOk X pins (upd H2 D (.dT [])) b ∧ b < s3.heap.objs.size := fun b hb => by
    obtain ⟨o, e, _⟩ := T.obj _ _ st2 b hb
    have hlt := Heap.lt_size e
    refine ⟨⟨?_, (f2 b hb).2⟩, by rw [h3, Heap.size_push]; exact Nat.lt_succ_of_lt hlt⟩
    rw [upd_ne (by rw [← hD]; exact Nat.ne_of_lt hlt)]
    exact (f2 b hb).1
  have hch : ∀ b ∈ fp, (b ∈ X.ex ∨ X.s_0.heap.objs.size ≤ b) ∧ b ≠ X.env.locals ∧ (∀ x c, X.env.cells.lookup x = some c → c ≠ b) ∧ ∀ p ∈ X.pn ++ pins, p.1 ≠ b := fun b hb => ⟨(f3 b hb).1.2.2.2.1, (f3 b hb).1.2.1, (f3 b hb).1.2.2.2.2.1, (f3 b hb).1.2.2.2.2.2⟩
  have I4 := block_start I3 ok hN f3
  rw [← hs3]
  show codeAny _ _ (.compStart (.DictComp kx vx [⟨tg, iter, [], 0⟩] scope pos) 0 (.ref it) (.ref D) (compEnvC scope (cellsFrom (s3.heap.objs.size + 1) scope.names (cloFrom X.env.cells scope.names [])) s3.heap.objs.size X.env)) (compEnds (model X.prog X.w) X.A X.xe Option.none (EP X pins σ Q) (.ref D) (compEnvC scope (cellsFrom (s3.heap.objs.size + 1) scope.names (cloFrom X.env.cells scope.names [])) s3.heap.objs.size X.env)) { s3 with heap := pushCells (s3.heap.push { cls := .type "dict", data := .dict #[] }) scope.names }
  have pg := hg s3 (upd H2 D (.dT [])) s3.heap.objs.size (cellsFrom (s3.heap.objs.size + 1) scope.names (cloFrom X.env.cells scope.names [])) fp
  have pk := hk s3 (upd H2 D (.dT [])) s3.heap.objs.size (cellsFrom (s3.heap.objs.size + 1) scope.names (cloFrom X.env.cells scope.names [])) fp
  have pv := hv s3 (upd H2 D (.dT [])) s3.heap.objs.size (cellsFrom (s3.heap.objs.size + 1) scope.names (cloFrom X.env.cells scope.names [])) fp
  obtain ⟨ce, hce⟩ : ∃ ce, ce = compEnvC scope (cellsFrom (s3.heap.objs.size + 1) scope.names (cloFrom X.env.cells scope.names [])) s3.heap.objs.size X.env := ⟨_, rfl⟩
  have cL : ce.locals = s3.heap.objs.size := by rw [hce]; rfl
  rw [← hce] at I4 pg pk pv ⊢
  have nfp : ∀ b ∈ fp, (upd H2 D (.dT [])) b = Option.none := fun b hb => (f3 b hb).1.1
  have st4 : tn 0 (pushCells (s3.heap.push { cls := .type "dict", data := .dict #[] }) scope.names) := T.keep _ _ _ st2 fun b _ o e => pushCells_keeps _ _ _ _ (Heap.get?_push_of_some _ (by rw [h3]; exact Heap.get?_push_of_some _ e))
  generalize upd H2 D (.dT []) = H3 at I3 I4 pg pk pv w0 nfp f3
  have stat : ∀ {σ' : L2.St} {H' : Hp} {s' : Shared}, Inv (X.blk s3 H3 scope ce fp) [] σ' H' s' → (∀ b ∈ fp, H' b = Option.none) → ∀ b ∈ fp, FpOk (X.blk s3 H3 scope ce fp) [] H' b := fun {σ' H' s'} I' hn b hb =>
    ⟨hn b hb, (I'.ok.exf b hb).1, I'.ok.exfs b hb, .inl hb, fun x c e => (I'.ok.exf b hb).2 x c e, fun p hp => absurd (show p ∈ ([] : List (Addr × Obj)) ++ [] from hp) (by simp)⟩
  have loop : ∀ s4 : Shared, Inv (X.blk s3 H3 scope ce fp) [] (wipe σ (own.map (·.2))) H3 s4 → tn 0 s4.heap → codeAny (model X.prog X.w) X.A (.compLoop (.DictComp kx vx [⟨tg, iter, [], 0⟩] scope pos) 0 (.ref it) (.ref D) ce) (compEnds (model X.prog X.w) X.A X.xe Option.none (EP X pins σ Q) (.ref D) ce) s4 := by
    intro s4 I4 st4
    refine compLoop_anyD (fun n s' => ∃ i H', Inv (X.blk s3 H3 scope ce fp) [] (wipe σ (own.map (·.2))) H' s' ∧ tn i s'.heap ∧ (∀ b ∈ fp, H' b = Option.none) ∧ W i n H') ?_ m0 ⟨0, H3, I4, st4, nfp, w0⟩
    rintro n s5 ⟨i, H5, I5, st5, n5, w5⟩
    rcases turn i n H5 w5 with ⟨stop, qq⟩ | ⟨go, Nx, hNx, step⟩
    · refine thnF (T.done (X.blk s3 H3 scope ce fp) rfl rfl rfl hc i [] s5 _ H5 (fun _ _ => False) I5 (stat I5 n5) st5 stop) fun r s6 ⟨hr, I6⟩ => ?_
      subst hr
      have I7 : Inv X pins σ H5 s6 := I3.call' (ch := fp) I6.os I6.base I6.hok I6.bare hch
      have nC : H5 ce.locals = Option.none := I6.free
      obtain ⟨m, hn, _⟩ := I6.loc
      have f : FpOk X pins H5 ce.locals := by rw [cL] at nC ⊢; exact I3.fpOk (Nat.le_refl _) nC
      refine ⟨m, hn, fun h'' sb => ?_⟩
      obtain ⟨f0, f1, f2, f3, f4, f5⟩ := f
      exact ⟨.ref D, H5, I7.turned (t' := s6.toks) (fun b o hb e => (sb.2 b hb).trans e) f0 f1 f3 f4 f5, rfl, qq⟩
    · refine thnF (T.item (X.blk s3 H3 scope ce fp) rfl rfl rfl hc i [] s5 _ H5 (fun _ _ => False) I5 (stat I5 n5) st5 go) fun r s6 ⟨u, hr, h6⟩ => ?_
      subst hr
      refine thnF h6 fun _ s7 ⟨x, H7, I7, r7, y7, st7, n7⟩ => ?_
      refine thnF (pg.run _ s7 _ H7 x u _ (I7.pinned (stat I7 n7) (T.obj _ _ st7)) r7 (step x H7 y7)) fun _ s8 ⟨σ8, H8, I8, hw8, q8⟩ => ?_
      refine wpAny_tests_nil ?_
      have fin : ∀ {s' : Shared} {H' : Hp}, Inv (X.blk s3 H3 scope ce fp) ([] ++ pinsAt fp s7.heap) σ8 H' s' → Nx H' → ∃ m, m < n ∧ ∃ i H', Inv (X.blk s3 H3 scope ce fp) [] (wipe σ (own.map (·.2))) H' s' ∧ tn i s'.heap ∧ (∀ b ∈ fp, H' b = Option.none) ∧ W i m H' := fun {s' H'} I' nx => by
        obtain ⟨m', hm, w'⟩ := hNx H' nx
        have pin' : ∀ b ∈ fp, ∀ o, s7.heap.get? b = some o → s'.heap.get? b = some o ∧ H' b = Option.none := fun b hb o e =>
          let z := I'.pin (b, o) (List.mem_append_right _ (List.mem_append_right _ (mem_pinsAt hb e)))
          ⟨z.1, z.2.1⟩
        refine ⟨m', hm, i + 1, H', (I'.unpinned (pins := [])).weak (by rw [← hw8, wipe_length]) (fun j v e => ?_), T.keep _ _ _ st7 fun b hb o e => (pin' b hb o e).1, fun b hb => ?_, w'⟩
        · rw [← hw8] at e
          exact (wipe_some e).1
        · obtain ⟨o, e, _⟩ := T.obj _ _ st7 b hb
          exact (pin' b hb o e).2
      rw [if_pos rfl]
      refine thnF (pk.run _ s8 σ8 H8 _ I8 q8) fun z s10 ⟨yk, H10, I10, r10, q10⟩ => ?_
      refine thnF (pv.run _ s10 σ8 H10 _ I10 q10) fun z2 s11 ⟨yv, H11, I11, r11, b, kvs, k, ek, hD11, hb11, hz11, nx⟩ => ?_
      subst ek
      cases r10
      exact put_tupkey (X := X.blk s3 H3 scope ce fp) hu I11 hD11 hb11 hz11 r11 fun s12 I12 => fin I12 nx
  exact codeAny_compStart_dict (loop _ I4 st4) (T.self X.A 0 _ _ _ st4 (loop _ I4 st4))
end
/-! ### enumerate(t), t a tuple -/
section
variable {prog : Program} {w : World} {A : Around} {EE : Value → Shared → Prop} {s : Shared}
theorem meets_enum1 {v : Value} {o : Obj} {HH : Heap → Prop} (B : Begins v o HH) :
    Meets (Builtin.«enumerate.__new__» ⟨[.type "enumerate", v], []⟩) (fun _ R s => HH s.heap ∧
      R (.ok (.ret (.ref (s.heap.push o).objs.size))) { s with heap := (s.heap.push o).push { cls := .type "enumerate", data := .fields #[.none, .bool false, .ref s.heap.objs.size, rawInt 0, .none, .none] } }) :=
  .of_wp fun prog w A R s h => by
    obtain ⟨hp, g, d, tk, os⟩ := s
    obtain ⟨h1, h⟩ := h
    have hsub := sub_enumerate
    have begins : ∀ {A' : Around} {E : Value → Shared → Prop} {Q : Value → Shared → Prop}, Q (.ref hp.objs.size) ⟨hp.push o, g, d, tk, os⟩ → wpAny (model prog w) A' (pyIter v) Q E ⟨hp, g, d, tk, os⟩ := fun q => B.iter prog w _ _ ⟨hp, g, d, tk, os⟩ _ h1 q
    wp_walk using begins
    refine wpAny_stack_any fun st => wpAny_pure ?_
    split
    · rename_i c _ _ _ _ _
      cases (c == Value.type "enumerate") <;> (wp_walk using begins; exact ⟨_, rfl, h⟩)
    · wp_walk using begins
      exact ⟨_, rfl, h⟩
theorem call_enum1 {v : Value} {o : Obj} {HH : Heap → Prop} {QQ : Value → Shared → Prop} (B : Begins v o HH) (h1 : HH s.heap)
    (h : ∀ h', IsEnum h' (s.heap.objs.size + 1) s.heap.objs.size 0 .none → h'.get? s.heap.objs.size = some o → (∀ b u, s.heap.get? b = some u → h'.get? b = some u) → QQ (.ref (s.heap.objs.size + 1)) { s with heap := h' }) :
    wpAny (model prog w) A (call (.type "enumerate") [v]) QQ EE s := by
  refine callType_new F.called_enumerate (by decide) (F.typeCall_enumerate_1 _) (F.newCall_enumerate_1 _) (fun obj => F.args_object_init_2 obj _) F.entry_enumerate_new (meets_enum1 B) ⟨h1, ?_⟩
  have hz : (s.heap.push o).objs.size = s.heap.objs.size + 1 := Heap.size_push ..
  show _ ∧ _
  rw [hz]
  have at_ := Heap.get?_push_size (s.heap.push o) (o := { cls := .type "enumerate", data := .fields #[.none, .bool false, .ref s.heap.objs.size, rawInt 0, .none, .none] }) rfl
  rw [hz] at at_
  exact ⟨⟨_, at_, rfl⟩, h _ at_ (Heap.get?_push_of_some _ (Heap.get?_push_size _ B.free)) fun b u x => Heap.get?_push_of_some _ (Heap.get?_push_of_some _ x)⟩
end
def IteT (K : PySem.W.Frag) (a : Addr) : It :=
  ⟨fun i H => ∃ (xs : List V) (x : V), SqT K H a xs ∧ xs[i]? = some x, fun i H v H' => ∃ T x, v = .ref T ∧ H T = Option.none ∧ H' = upd H T (.tup [.int (i : Nat), x]) ∧ ∀ xs, SqT K H a xs → xs[i]? = some x, fun i H => ∃ xs : List V, SqT K H a xs ∧ xs.length = i⟩
theorem turn_enumT {P : Program} {w : World} {K : PySem.W.Frag} {elts : List Expr} {kk : Nat} {tpos : Pos} (a e it : Addr) :
    Turn P w K (.Tuple elts kk tpos) (IteT K a) [e, it] e (fun i h => (∃ old, IsEnum h e it ((i : Nat) : Int) old) ∧ h.IsTupleIter it a i ∧ e ≠ it) where
  mem := by simp
  obj := fun i h st b hb => by
    obtain ⟨⟨old, he⟩, ⟨o, ho, hc, hd⟩, _⟩ := st
    rcases List.mem_cons.mp hb with z | z
    · rw [z]; exact ⟨_, he, fun v q => nomatch q⟩
    · rw [List.mem_singleton.mp z]; exact ⟨o, ho, fun v q => by rw [hd] at q; cases q⟩
  keep := fun i h h' st k => let ⟨⟨old, he⟩, hi, hne⟩ := st; ⟨⟨old, k e (by simp) _ he⟩, hi.at fun o q => k it (by simp) o q, hne⟩
  item := by
    intro X hP hw hK hc i pins s σ H E I hf st hg
    subst hP hw hK
    obtain ⟨⟨old, he⟩, hit, hne⟩ := st
    obtain ⟨xs, x, hq, hx⟩ := hg
    obtain ⟨its, rv, p, hz⟩ := I.tuple hq
    obtain ⟨u, hu, ru⟩ := rv.get hx
    have tup : s.heap.IsTuple a its.toArray := p
    obtain ⟨oa, hoa, hca, na, hda⟩ := id tup
    obtain ⟨oi, hoi, hci, hdi⟩ := id hit
    have ea : a ≠ e := fun z => by rw [z, he] at hoa; cases hoa; exact absurd hca (show ¬ (Value.type "enumerate" = Value.type "tuple") by decide)
    have ia : a ≠ it := fun z => by
      rw [z, hoi] at hoa; cases hoa
      rw [hci] at hca; exact absurd hca (by decide)
    have hel : e < s.heap.objs.size := Heap.lt_size he
    have hil : it < s.heap.objs.size := Heap.lt_size hoi
    have hlt : i < its.toArray.size := by
      rw [List.size_toArray, ← rv.length]
      exact (List.getElem?_eq_some_iff.mp hx).1
    refine wpAny_pyNext_enum_itemC (Draws.tuple (A := X.A.in1) (show X.A.in1.handled = none from I.ok.hd hc) it a ia its.toArray) he ⟨hit, tup⟩ hlt hne (by simp [hne, Ne.symm ea]) fun u2 h' tk hP2 ho st' hT hsz hk => ?_
    have eu : u2 = u := by
      have z : its.toArray[i]? = some u2 := hP2
      rw [List.getElem?_toArray, hu] at z
      exact (Option.some.inj z).symm
    subst eu
    refine ⟨_, rfl, wpAny_letOwnedTupleGo_enum (s := { s with heap := h', toks := tk + 1 }) ho fun h'' he' sb => ?_⟩
    have hT2 : h''.get? s.heap.objs.size = some { cls := .type "tuple", data := .seq #[.int i tk, u2] } := (sb.2 _ (Nat.ne_of_gt hel)).trans hT
    have new : ObjOk X.prog X.w (upd H s.heap.objs.size (.tup [.int (i : Nat), x])) h'' s.heap.objs.size (.tup [.int (i : Nat), x]) :=
      ⟨by show 2 ≤ sizeLine; decide, [.int i tk, u2], .cons ⟨_, rfl⟩ (.cons ru .nil), ⟨_, hT2, rfl, _, rfl⟩⟩
    have I1 : Inv X pins σ (upd H s.heap.objs.size (.tup [.int (i : Nat), x])) { s with heap := h'', toks := tk + 1 } :=
      I.turnedNew (ch := [e, it]) (fun b ob hb q => (sb.2 b (fun z => hb (by simp [z]))).trans (hk b ob (fun z => hb (by simp [z])) (fun z => hb (by simp [z])) q)) hf (Nat.le_refl _) new
    refine ⟨.ref s.heap.objs.size, _, I1, rfl, ⟨_, x, rfl, I.hok.fresh (Nat.le_refl _), rfl, fun ys hy => by rw [I.tuple_inj hy hq]; exact hx⟩, ⟨⟨u2, ?_⟩, st'.1.at fun o q => (sb.2 it (Ne.symm hne)).trans q, hne⟩, fun b hb => ?_⟩
    · have e1 : ((i + 1 : Nat) : Int) = (i : Int) + 1 := by omega
      rw [e1]; exact he'
    · have hb' : b < s.heap.objs.size := by
        rcases List.mem_cons.mp hb with z | z
        · rw [z]; exact hel
        · rw [List.mem_singleton.mp z]; exact hil
      rw [upd_ne (Nat.ne_of_lt hb')]
      exact (hf b hb).1
  done := by
    intro X hP hw hK hc i pins s σ H E I hf st hg
    subst hP hw hK
    obtain ⟨⟨old, he⟩, hit, hne⟩ := st
    obtain ⟨xs, hq, hx⟩ := hg
    obtain ⟨its, rv, p, hz⟩ := I.tuple hq
    obtain ⟨f0, f1, f2, f3, f4, f5⟩ := hf it (by simp)
    have tup : s.heap.IsTuple a its.toArray := p
    obtain ⟨oa, hoa, hca, na, hda⟩ := id tup
    obtain ⟨oi, hoi, hci, hdi⟩ := id hit
    have ia : a ≠ it := fun z => by
      rw [z, hoi] at hoa; cases hoa
      rw [hci] at hca; exact absurd hca (by decide)
    have ez : its.toArray.size = i := by rw [List.size_toArray, ← rv.length]; exact hx
    refine wpAny_pyNext_enum_endD (Draws.tuple (A := X.A.in1) (show X.A.in1.handled = none from I.ok.hd hc) it a ia its.toArray) he (by rw [ez]; exact ⟨hit, tup⟩) fun h' eb => ⟨rfl, I.turned (t' := s.toks) (fun b o hb q => eb b o hb q) f0 f1 f3 f4 f5⟩
  self := fun A i s Q E st h => let ⟨⟨_, he⟩, _⟩ := st; wpAny_pyIter_enum he h
def iEnumT (K : PySem.W.Frag) (ta : TA) : TI := fun σ H R => ta σ H fun vs H1 => ∃ a xs, vs = [.ref a] ∧ SqT K H1 a xs ∧ R (IteT K a) H1
theorem pi_enumT {X : Cx} {e : Expr} {ta : TA} {p pos tpos : Pos} {elts : List Expr} {kk : Nat} (hg : Gl X "enumerate") (hm : X.mg "enumerate" = Option.none) (ha : PA X [e] ta) (hs : starEach [e] X.env = [(false, eval e X.env)] := by rfl) :
    PI X (.Tuple elts kk tpos) (.Call (.Name "enumerate" p) [e] [] pos) (iEnumT X.K ta) := by
  constructor
  intro pins s σ H R I h
  refine Call_ (ld_blt I hg hm boot_enumerate (PyProof.Rows.callWith_type1 (thn (ha.run pos pins s σ H _ I h) fun us s1 ⟨vs, H1, I1, r1, a, xs, ex, hq, q⟩ => ?_) hs rfl))
  subst ex
  obtain ⟨u, rfl, ru⟩ := vals1 r1
  cases ru
  obtain ⟨its, rv, p', hz⟩ := I1.tuple hq
  refine call_enum1 (begins_tuple a its.toArray) (show s1.heap.IsTuple a its.toArray from p') fun h' he hit hk => wpAny_pyIter_enum he ?_
  have I2 : Inv X pins σ H1 { s1 with heap := h' } := I1.kept (t' := s1.toks) hk
  refine ⟨s1.heap.objs.size + 1, [s1.heap.objs.size + 1, s1.heap.objs.size], _, _, H1, rfl, I2, turn_enumT a (s1.heap.objs.size + 1) s1.heap.objs.size, ⟨⟨.none, he⟩, ⟨_, hit, rfl, rfl⟩, Nat.succ_ne_self _⟩, fun b hb => ?_, q⟩
  have hle : s1.heap.objs.size ≤ b := by
    rcases List.mem_cons.mp hb with z | z
    · rw [z]; exact Nat.le_add_right _ _
    · rw [List.mem_singleton.mp z]; exact Nat.le_refl _
  exact I1.fpOk hle (I1.hok.fresh hle)
theorem walk_enumT {K : PySem.W.Frag} {a : Addr} {xs : List V} : Walk (IteT K a) xs.length (fun H => SqT K H a xs) (YPair (fun i => some (.int (i : Nat))) (fun i => xs[i]?)) := by
  refine ⟨fun i _ hi q => ⟨xs, xs[i], q, by simp [hi]⟩, fun _ q => ⟨xs, q, rfl⟩, fun i H v H' _ q y => ?_⟩
  obtain ⟨T, x, h1, h2, h3, h4⟩ := y
  exact ⟨T, .int (i : Nat), x, h1, h2, h3, rfl, h4 xs q⟩
/-- a dict comprehension over a walk -/
theorem dc_it {J : It} {n : Nat} {G : Hp → Prop} {Y : Nat → Hp → V → Hp → Prop} (w : Walk J n G Y) {g : TG} {tk tv : TE} {vs : List Nat} {σ : L2.St} {H1 : Hp} {D : Addr} {Qd : Hp → Prop} (Pv : Nat → Hp → Prop) (h0 : Pv 0 (upd H1 D (.dT []))) (hG : ∀ i H, i ≤ n → Pv i H → G H)
    (hs : ∀ i x H H', i < n → Pv i H → Y i H x H' → g x (wipe σ vs) H' fun σ2 H2 => wipe σ2 vs = wipe σ vs ∧ tk σ2 H2 fun y H4 => tv σ2 H4 fun z H5 => ∃ b kvs k, y = .ref b ∧ H5 D = some (.dT kvs) ∧ H5 b = some (.tup (k.map kV)) ∧ kvs.length < sizeLine ∧ Pv (i + 1) (upd H5 D (.dT (putK kvs k z)))) (hd : ∀ H, Pv n H → Qd H) :
    ∃ W : Nat → Nat → Hp → Prop, (∃ m, W 0 m (upd H1 D (.dT []))) ∧ ∀ i m H, W i m H →
      (J.stop i H ∧ Qd H) ∨ (J.go i H ∧ ∃ Nx : Hp → Prop, (∀ H', Nx H' → ∃ m', m' < m ∧ W (i + 1) m' H') ∧ ∀ x H', J.yld i H x H' → g x (wipe σ vs) H' fun σ2 H2 => wipe σ2 vs = wipe σ vs ∧
        tk σ2 H2 fun y H4 => tv σ2 H4 fun z H5 => ∃ b kvs k, y = .ref b ∧ H5 D = some (.dT kvs) ∧ H5 b = some (.tup (k.map kV)) ∧ kvs.length < sizeLine ∧ Nx (upd H5 D (.dT (putK kvs k z)))) := by
  refine ⟨fun i m H => m = n - i ∧ i ≤ n ∧ Pv i H, ⟨n, by simp, Nat.zero_le _, h0⟩, ?_⟩
  rintro i m H ⟨rfl, hi, p⟩
  have q := hG i H hi p
  by_cases hlt : i < n
  · exact .inr ⟨w.goes i H hlt q, Pv (i + 1), fun H' p' => ⟨n - (i + 1), by omega, rfl, hlt, p'⟩, fun x H' y => hs i x H H' hlt p (w.yields i H x H' hlt q y)⟩
  · have e : i = n := by omega
    subst e
    exact .inl ⟨w.stops H q, hd H p⟩
/-! ### a def that gives a tuple's iterator; a for over an object whose class has it as __iter__ -/
structure InOk (P : Program) (w : World) (K : PySem.W.Frag) (mg : Str → Option Value) (base : Heap) (k : Nat) (f : Addr) (fd : FuncData) (ps : List Str) (sp : Nat → Sp) : Prop where
  size : ∀ n vs H Q E, sp n vs H Q E → vs.length = ps.length
  go : ∀ (A : Around) (outer : List Env) (s : Shared) (H : Hp) (args : Args) (us : List Value) (vs : List V) (Q : VK) (E : XK), Room k A → Env0 P w K mg base A outer s H →
    BindsTo s fd args (ps.zip us) → Vals vs us → sp s.heap.objs.size vs H Q E → codeAny (model P w) A (.call (.ref f) args) (CR CX0 outer P w H s Q E) s
section
variable {P : Program} {w : World} {K : PySem.W.Frag} {mg : Str → Option Value} {base : Heap}
theorem in_ok {k : Nat} {x qual : Str} {st : Stmt} {f : Addr} {fd : FuncData} {N ps : List Str} {sp : Nat → Sp} (F : Fun K x qual st f fd) (S : FnScope N ps (defScope st)) (len : ∀ n vs H Q E, sp n vs H Q E → vs.length = ps.length)
    (body : ∀ (cdv : Value) (A : Around) (outer : List Env) (s : Shared) (H : Hp) (vs : List V) (Q : VK) (E : XK), Room k (A.deeper (envOfC qual (defScope st) s.heap.objs.size f cdv)) → sp s.heap.objs.size vs H Q E →
      ∃ t, PSs (cxOf CX0 P w K mg base N qual (defScope st) f cdv A outer s H E).nox (defBody st) t ∧ t { nx := fun _ H' => Q .non H', rt := Q } (start N vs) H) : InOk P w K mg base (k + 1) f fd ps sp := by
  obtain ⟨oc, od, kV, doc, pm, an, cdv, ct, osl, rfl, lk, hcd⟩ := F.ex
  constructor
  · exact len
  intro A outer s H args us vs Q E hr env0 bind rel hsp
  have up := env0.bs
  have KX : K.In s.heap := env0.mod.kin.keeps (fun b o e => (up b o e).1)
  refine codeAny_call_function (hroom := hr.depth) (KX _ _ lk) rfl S.co S.gen rfl (PySem.W.codeRec_of KX hcd) (bind _ _ _ _ ?_)
  have kinds : ∀ y ∈ ps.zip us, (defScope st).names.lookup y.1 = some .local ∨
      ((defScope st).names.lookup y.1 = some .cell ∧ ((cellsFrom (s.heap.objs.size + 1) (defScope st).names []).lookup y.1).isSome = true) := by
    rintro ⟨n, v⟩ hy
    exact (S.par n (List.of_mem_zip hy).1).elim .inl (fun q => .inr ⟨q, PySem.W.cellsFrom_some _ _ _ (.inl q)⟩)
  refine wpAny_newFunctionEnv_cells S.kind kinds (fun env he s1 fresh => ?_)
  subst he
  refine ⟨(env0.mod.nolimit.keeps (fun b o e => (up b o e).1)).keeps fresh.toInCall.keep, codeAny_func ?_⟩
  obtain ⟨t, walk, want⟩ := body cdv A outer s H vs Q E (hr.deeper _) hsp
  have J := inv_start (CX := CX0) (E := E) S hr.hd env0 (len _ _ _ _ _ hsp) rel fresh
  refine wpAny_mono (walk.nox.run [] s1 (start N vs) H _ J want) ?_ (fun _ _ z => z)
  rintro (_ | _ | _ | u) s2 h
  · obtain ⟨σ2, H2, J2, q⟩ := h
    exact ⟨.non, H2, J2.os, J2.bare, J2.base, J2.hok, rfl, q⟩
  · obtain ⟨_, _, _, q⟩ := h
    exact q.elim
  · obtain ⟨_, _, _, q⟩ := h
    exact q.elim
  · obtain ⟨v, σ2, H2, J2, r, q⟩ := h
    exact ⟨v, H2, J2.os, J2.bare, J2.base, J2.hok, r, q⟩
end
/-- at it a tuple's iterator, i items taken -/
def ItT (t it : Addr) (i : Nat) : HO := .ext fun h => h.IsTupleIter it t i
section
variable {X : Cx}
theorem itT_ok {P : Program} {w : World} {H : Hp} {h : Heap} {t it : Addr} {i : Nat} (e : h.IsTupleIter it t i) : ObjOk P w H h it (ItT t it i) := ⟨e, e.elim fun o q => ⟨o, q.1⟩, fun _ _ q k => q.elim fun o z => ⟨o, k _ z.1, z.2⟩⟩
def rIterT (K : PySem.W.Frag) (n : Nat) : List V → Hp → VK → Prop := fun xs H Q => ∃ (l : Addr) (zs : List V), xs = [.ref l] ∧ SqT K H l zs ∧ ∀ it, H it = Option.none → n ≤ it → Q (.ref it) (upd H it (ItT l it 0))
theorem wp_iter_tup {prog : Program} {w : World} {A : Around} {EE : Value → Shared → Prop} {s : Shared} {l : Addr} {items : Array Value} {QQ : Value → Shared → Prop} (hl : s.heap.IsTuple l items)
    (h : QQ (.ref s.heap.objs.size) { s with heap := s.heap.push { cls := .type "tuple_iterator", data := .fields #[.ref l, .int 0 0] } }) : wpAny (model prog w) A (call (.builtin "iter") [.ref l]) QQ EE s := by
  refine Calls.call_function_entry (by decide +kernel) (by decide +kernel) PySem.W.kdk_entry_iter (PySem.W.kdk_args_iter _) ?_
  unfold Builtin.«iter»
  refine wpAny_bind (m := someArgs "iter" 1 2 _) (wpAny_of_eq (a := [Value.ref l]) (by first | rfl | kernel_rfl!) ?_)
  exact wpAny_bind (wpAny_pyIter_tuple hl (wpAny_pure ⟨_, rfl, h⟩))
/-- iter(t) -/
theorem call_iterT : CallR X (.builtin "iter") (rIterT X.K X.s_0.heap.objs.size) := by
  intro pins s σ H xs us Q I r h
  obtain ⟨l, zs, rfl, hq, q⟩ := h
  obtain ⟨u, rfl, ru⟩ := vals1 r
  cases ru
  obtain ⟨its, rv, pl, hz⟩ := I.tuple hq
  refine wp_iter_tup (show s.heap.IsTuple l its.toArray from pl) ?_
  exact ⟨.ref s.heap.objs.size, _, I.laid (t' := s.toks) (fun b u e => Heap.get?_push_of_some _ e) (Nat.le_refl _) (itT_ok ⟨_, Heap.get?_push_size _ rfl, rfl, rfl⟩), rfl, q _ (I.hok.fresh (Nat.le_refl _)) I.sz⟩
/-- what such an __iter__ promises: an iterator of the tuple at the attribute nm -/
def spIter (K : PySem.W.Frag) (C : Addr) (nm : Str) (n : Nat) : Sp := fun vs H Q _ => ∃ (b dx l : Addr) (fs : List (Str × V)) (zs : List V), vs = [.ref b] ∧ H b = some (.ins C dx fs) ∧ fs.lookup nm = some (.ref l) ∧ SqT K H l zs ∧
  ∀ it, H it = Option.none → n ≤ it → Q (.ref it) (upd H it (ItT l it 0))
def iOwnI (K : PySem.W.Frag) (C : Addr) (nm : Str) (tl : TE) : TI := fun σ H R => tl σ H fun x H1 => ∃ (b dx l : Addr) (fs : List (Str × V)) (zs : List V), x = .ref b ∧ H1 b = some (.ins C dx fs) ∧ fs.lookup nm = some (.ref l) ∧ SqT K H1 l zs ∧ R (Itt K l) H1
theorem pi_ownI {C f : Addr} {fd : FuncData} {ps : List Str} {k : Nat} {nm : Str} {tg l : Expr} {tl : TE} (F : InOk X.prog X.w X.K X.mg X.base k f fd ps (spIter X.K C nm)) (hs : PySem.W.findIn X.K (.ref C) "__iter__" = some (some (.ref f))) (hf : PySem.W.isFn X.K (.ref f) = true)
    (hb : Binds X.K fd ps []) (hr : Room k X.A) (hl : PE X l tl) : PI X tg l (iOwnI X.K C nm tl) := by
  constructor
  intro pins s σ H R I h
  refine thn (hl.run pins s σ H _ I h) fun v s1 ⟨x, H1, I1, r1, b, dx, l, fs, zs, e, hb1, hf1, hz, q⟩ => ?_
  subst e
  cases r1
  obtain ⟨mA, J, _⟩ := ins_get I1.hok hb1
  obtain ⟨od, J, _⟩ := J.look
  obtain ⟨m, hF⟩ := I1.fr
  refine PySem.W.owit_iter hF I1.ok.mod.kin J hs hf ?_
  have hsp : spIter X.K C nm s1.heap.objs.size [.ref b] H1 (fun v H' => ∃ it, v = .ref it ∧ H1 it = Option.none ∧ s1.heap.objs.size ≤ it ∧ H' = upd H1 it (ItT l it 0)) E0 := ⟨b, dx, l, fs, zs, rfl, hb1, hf1, hz, fun it n1 n2 => ⟨it, rfl, n1, n2, rfl⟩⟩
  have len := F.size _ _ _ _ _ hsp
  refine wpAny_call (codeAny_mono (F.go X.A X.stack s1 H1 ⟨[.ref b], []⟩ [.ref b] [.ref b] _ E0 hr I1.env0 (by simpa using hb s1 [.ref b] I1.kIn (by simpa using len)) (.cons rfl .nil) hsp) fun r s' hq => ?_)
  rcases r with er | _ | _ | _ | u
  · exact False.elim hq
  · exact False.elim hq
  · exact False.elim hq
  · exact False.elim hq
  obtain ⟨v, H', I', rv, it, rfl, n1, n2, rfl⟩ := I1.after hq
  cases rv
  have st : s'.heap.IsTupleIter it l 0 := (I'.hok it _ upd_same).1
  unfold PySem.W.OwitIt
  refine wpAny_specialOf st.typeIs PySem.F.slot_tuple_iterator_next.lookup ?_
  have D := ItX.inv_drop I' (φ := fun h => h.IsTupleIter it l 0) upd_same
  have fp := ItX.inv_fp I' (u := ItT l it 0) upd_same (Nat.le_trans I1.sz n2)
  rw [ItX.dropH_upd n1] at D fp
  exact ⟨it, [it], _, _, H1, rfl, D, turn_tuple l it, st, fun b hb => by rw [List.mem_singleton.mp hb]; exact fp, q⟩
end
/-! ### what is told -/
def isR (bk : List Lf) (r : Pg × Pg) : Bool := decide (r.1 ∈ allP bk) && (decide (r.2 ∈ allP bk) && leP r.1 r.2)
def isG (bk : List Lf) (r : Pg × Pg) : Bool := decide (r.1 ∈ allP bk) && decide (r.2 ∈ allP bk)
def inR (p : Pg) (r : Pg × Pg) : Bool := leP r.1 p && leP p r.2
def toldP (bk : List Lf) (ps : List (Pg × Pg)) : List Pg := (shownP bk).filter fun p => (ps.filter (isR bk)).any (inR p)
def dueP (bk : List Lf) (ps : List (Pg × Pg)) : List Pg := (shownP bk).filter fun p => (ps.filter (isG bk)).any (inR p)
theorem told_due (bk : List Lf) (ps : List (Pg × Pg)) : toldP bk ps = dueP bk ps := by
  unfold toldP dueP
  refine List.filter_congr fun p _ => ?_
  rw [Bool.eq_iff_iff, List.any_eq_true, List.any_eq_true]
  constructor
  · rintro ⟨r, hr, h⟩
    obtain ⟨h1, h2⟩ := List.mem_filter.mp hr
    refine ⟨r, List.mem_filter.mpr ⟨h1, ?_⟩, h⟩
    unfold isR at h2
    unfold isG
    simp only [Bool.and_eq_true] at h2 ⊢
    exact ⟨h2.1, h2.2.1⟩
  · rintro ⟨r, hr, h⟩
    obtain ⟨h1, h2⟩ := List.mem_filter.mp hr
    refine ⟨r, List.mem_filter.mpr ⟨h1, ?_⟩, h⟩
    unfold isG at h2
    unfold isR
    unfold inR at h
    simp only [Bool.and_eq_true] at h2 h ⊢
    exact ⟨h2.1, h2.2, leP_trans h.1 h.2⟩
/-- a page as it is kept -/
def keptPD (d : PyData) : Option Pg := match items d with
  | some [x, y] => if wI 0 1 y = true then (match keptD x with | some L => some (L, toI y) | none => none) else none
  | _ => none
/-- a row of two things that are kept as pages -/
def RowAt (K : PySem.W.Frag) (H : Hp) (v : V) (r : Pg × Pg) : Prop := ∃ (a : Addr) (x y : V) (dx dy : PyData), v = .ref a ∧ Seq K H a [x, y] ∧ Dp K H x dx ∧ Dp K H y dy ∧ keptPD dx = some r.1 ∧ keptPD dy = some r.2
theorem RowAt.same {K : PySem.W.Frag} {H H' : Hp} {v : V} {r : Pg × Pg} (m : Same H H') (h : RowAt K H v r) : RowAt K H' v r := by
  obtain ⟨a, x, y, dx, dy, e, h1, h2, h3, h4, h5⟩ := h
  exact ⟨a, x, y, dx, dy, e, same_sq m h1, dp_same m h2, dp_same m h3, h4, h5⟩
inductive RowAll (K : PySem.W.Frag) (H : Hp) : List V → List (Pg × Pg) → Prop
  | nil : RowAll K H [] []
  | cons {v : V} {vs : List V} {r : Pg × Pg} {rs : List (Pg × Pg)} (h : RowAt K H v r) (t : RowAll K H vs rs) : RowAll K H (v :: vs) (r :: rs)
theorem RowAll.same {K : PySem.W.Frag} {H H' : Hp} (m : Same H H') : ∀ {vs : List V} {rs : List (Pg × Pg)}, RowAll K H vs rs → RowAll K H' vs rs
  | _, _, .nil => .nil
  | _, _, .cons h r => .cons (h.same m) (RowAll.same m r)
theorem RowAll.len {K : PySem.W.Frag} {H : Hp} : ∀ {vs : List V} {rs : List (Pg × Pg)}, RowAll K H vs rs → vs.length = rs.length
  | _, _, .nil => rfl
  | _, _, .cons _ r => congrArg (· + 1) (RowAll.len r)
theorem RowAll.get {K : PySem.W.Frag} {H : Hp} : ∀ {vs : List V} {rs : List (Pg × Pg)} {i : Nat} {v : V}, RowAll K H vs rs → vs[i]? = some v → ∃ r, rs[i]? = some r ∧ RowAt K H v r
  | _, _, _, _, .nil, e => nomatch e
  | _, _, 0, _, .cons h r, e => by
    injection e with e
    subst e
    exact ⟨_, rfl, h⟩
  | _, _, i + 1, _, .cons h r, e => by
    obtain ⟨d, e1, e2⟩ := RowAll.get (i := i) r e
    exact ⟨d, e1, e2⟩
/-- data all the way of the depth of a row of leaves -/
def dLf (l : Lf) : PyData := .tuple [dL l.L, dS l.fr, dS l.bk, .tuple []]
def okLf (l : Lf) : Prop := okL l.L ∧ rowsB 1 l.fr = true ∧ rowsB 0 l.bk = true ∧ l.pen = []
/-- a row of leaves of rising labels -/
def okBk (bk : List Lf) : Prop := bk.length ≤ 60 ∧ (∀ l ∈ bk, okLf l) ∧ bk.Pairwise fun a b => HT.lexLt a.L b.L = true
def okR (r : Pg × Pg) : Prop := okP r.1 ∧ okP r.2
def dRs (ps : List (Pg × Pg)) : PyData := .tuple (ps.map dR)
theorem dLf_inv {H : Hp} {v : V} {lf : Lf} (h : Tp H v (dLf lf)) : ∃ (t : Addr) (u1 u2 u3 u4 : V), v = .ref t ∧ H t = some (.tup [u1, u2, u3, u4]) ∧ Tp H u1 (dL lf.L) ∧ Tp H u2 (dS lf.fr) ∧ Tp H u3 (dS lf.bk) := by
  cases h with
  | tup h r =>
    cases r with
    | cons h1 r =>
      cases r with
      | cons h2 r =>
        cases r with
        | cons h3 r =>
          cases r with
          | cons h4 r => cases r; exact ⟨_, _, _, _, _, rfl, h, h1, h2, h3⟩
theorem allP_snoc (bk : List Lf) (l : Lf) : allP (bk ++ [l]) = allP bk ++ [(l.L, 0), (l.L, 1)] := by
  unfold allP
  rw [List.flatMap_append]
  rfl

theorem pl_dRs {ps : List (Pg × Pg)} (h : ∀ r ∈ ps, okR r) (hl : ps.length ≤ 1000) : Pl 5 (dRs ps) := pl_tup (fun r hr => pl_dR' (h r hr) 0) hl
theorem pl_dPs {ps : List Pg} (h : ∀ p ∈ ps, p.1.length ≤ 3) (hl : ps.length ≤ 1000) : Pl 5 (dPs ps) := pl_tup (fun p hp => pl_dP (h p hp) 1) hl
theorem told_mem {bk : List Lf} {ps : List (Pg × Pg)} (ok : okBk bk) : ∀ p ∈ toldP bk ps, p.1.length ≤ 3 := fun p hp => by
  obtain ⟨l, hl, h⟩ := List.mem_flatMap.mp (List.mem_filter.mp hp).1
  have e : p.1 = l.L := by
    rw [sideP_eq] at h
    obtain ⟨s, _, hs⟩ := List.mem_filterMap.mp h
    rw [(sideF_some hs).2]
  rw [e]
  exact (ok.2.1 l hl).1.1
theorem pl_told {bk : List Lf} {ps : List (Pg × Pg)} (ok : okBk bk) : Pl 5 (dPs (toldP bk ps)) := pl_dPs (told_mem ok) (by
  have h1 : (toldP bk ps).length ≤ (shownP bk).length := List.length_filter_le ..
  have h2 := shownP_len bk
  have := ok.1
  omega)
theorem kept_P {p : Pg} (h : okP p) : keptPD (dP p) = some p := by
  show (if wI 0 1 (.int p.2) = true then (match keptD (dL p.1) with | some L => some (L, toI (.int p.2)) | none => none) else none) = some p
  rw [if_pos (show wI 0 1 (.int p.2) = true from decide_eq_true (by have := h.2; omega)), kept_dL h.1]
  rfl
theorem kept_lP {p : Pg} (h : okP p) : keptPD (toL (dP p)) = some p := by
  have e : keptD (.list (toLs (p.1.map PyData.int))) = some p.1 := by
    rw [toLs_ints]
    exact kept_dL h.1
  show (if wI 0 1 (.int p.2) = true then (match keptD (.list (toLs (p.1.map PyData.int))) with | some L => some (L, toI (.int p.2)) | none => none) else none) = some p
  rw [if_pos (show wI 0 1 (.int p.2) = true from decide_eq_true (by have := h.2; omega)), e]
  rfl
theorem rowAll_tp {K : PySem.W.Frag} {H : Hp} : ∀ {us : List V} {ps : List (Pg × Pg)}, TpAll H us (ps.map dR) → (∀ r ∈ ps, okR r) → RowAll K H us ps
  | _, [], h, _ => by cases h; exact .nil
  | _, r :: ps, h, ok => by
    cases h with
    | cons h t =>
      obtain ⟨a, x, y, rfl, ha, h1, h2⟩ := tpR_inv h
      have o := ok r (List.mem_cons_self ..)
      exact .cons ⟨a, x, y, _, _, rfl, .inr (.inl (.inl ha)), h1.dp, h2.dp, kept_P o.1, kept_P o.2⟩ (rowAll_tp t fun q hq => ok q (List.mem_cons_of_mem _ hq))
theorem rowAll_dp {K : PySem.W.Frag} {H : Hp} : ∀ {us : List V} {ps : List (Pg × Pg)}, DpAll K H us (toLs (ps.map dR)) → (∀ r ∈ ps, okR r) → RowAll K H us ps
  | _, [], h, _ => by cases h; exact .nil
  | _, r :: ps, h, ok => by
    cases h with
    | cons h t =>
      have o := ok r (List.mem_cons_self ..)
      refine .cons ?_ (rowAll_dp t fun q hq => ok q (List.mem_cons_of_mem _ hq))
      have h : Dp K H _ (.list [toL (dP r.1), toL (dP r.2)]) := h
      cases h with
      | lst ha da =>
        cases da with
        | cons h1 da =>
          cases da with
          | cons h2 da =>
            cases da
            exact ⟨_, _, _, _, _, rfl, .inl ha, h1, h2, kept_lP o.1, kept_lP o.2⟩
theorem okBk_drop {bk : List Lf} (k : Nat) (h : okBk bk) : okBk (bk.take k ++ bk.drop (k + 1)) := by
  have s : (bk.take k ++ bk.drop (k + 1)).Sublist bk := by
    rw [← List.eraseIdx_eq_take_drop_succ]
    exact List.eraseIdx_sublist ..
  exact ⟨Nat.le_trans s.length_le h.1, fun l hl => h.2.1 l (s.subset hl), h.2.2.sublist s⟩
theorem okBk_set {bk : List Lf} {k : Nat} {lf new : Lf} (h : okBk bk) (e : bk[k]? = some lf) (o : okLf new) (eL : new.L = lf.L) : okBk ((bk.take k ++ [new]) ++ bk.drop (k + 1)) := by
  obtain ⟨hk, e⟩ := List.getElem?_eq_some_iff.mp e
  have m : ((bk.take k ++ [new]) ++ bk.drop (k + 1)).map (·.L) = bk.map (·.L) := by
    conv => rhs; rw [← List.take_append_drop k bk]
    rw [List.drop_eq_getElem_cons hk, e, List.append_assoc]
    simp only [List.map_append, List.map_cons, List.map_nil, List.singleton_append, eL]
  refine ⟨?_, ?_, ?_⟩
  · rw [← List.length_map (f := (·.L)), m, List.length_map]
    exact h.1
  · intro l hl
    rcases List.mem_append.mp hl with hl | hl
    · rcases List.mem_append.mp hl with hl | hl
      · exact h.2.1 l (List.mem_of_mem_take hl)
      · rw [List.mem_singleton.mp hl]; exact o
    · exact h.2.1 l (List.mem_of_mem_drop hl)
  · have p : (bk.map (·.L)).Pairwise fun a b => HT.lexLt a b = true := by
      rw [List.pairwise_map]
      exact h.2.2
    rw [← m, List.pairwise_map] at p
    exact p
/-! ### sorted of a list of data that are alike -/
section
variable {X : Cx}
/-- the items of a list, by the order of the data they stand for -/
def srtV (xs : List V) (ds : List PyData) : List (V × PyData) := (xs.zip ds).mergeSort (PySem.W.dataLe false Prod.snd)
def rSortedD (K : PySem.W.Frag) : List V → Hp → VK → Prop := fun vs H Q => ∃ (a : Addr) (xs : List V) (ds : List PyData), vs = [V.ref a] ∧ SqL K H a xs ∧ DpAll K H xs ds ∧ PySem.W.AllAlike ds ∧ PySem.W.Sortable ds ∧ (∀ d ∈ ds, d.depth ≤ 60) ∧
  ∀ p, H p = none → Q (.ref p) (upd H p (.lst ((srtV xs ds).map Prod.fst)))
theorem dpAll_zip {K : PySem.W.Frag} {H : Hp} : ∀ {xs : List V} {ds : List PyData}, DpAll K H xs ds → (xs.zip ds).map Prod.snd = ds ∧ (xs.zip ds).map Prod.fst = xs
  | _, _, .nil => ⟨rfl, rfl⟩
  | x :: xs, d :: ds, .cons _ t => by
    obtain ⟨h1, h2⟩ := dpAll_zip t
    exact ⟨congrArg (d :: ·) h1, congrArg (x :: ·) h2⟩
theorem vals_each : ∀ {xs : List V} {its : List Value} {ds : List PyData}, Vals xs its → ds.length = xs.length → PySem.W.EachIs (fun (v : Value) (b : V × PyData) => RelV b.1 v) its (xs.zip ds)
  | _, _, [], .nil, _ => .nil
  | _, _, d :: ds, .cons r t, h => .cons r (vals_each t (Nat.succ.inj h))
  | _, _, d :: ds, .nil, h => nomatch h
  | _, _, [], .cons _ _, h => nomatch h
theorem reads_each {pins : List (Addr × Obj)} {σ : L2.St} {H : Hp} {s : Shared} (I : Inv X pins σ H s) : ∀ {xs : List V} {its : List Value} {ds : List PyData}, Vals xs its → DpAll X.K H xs ds → PySem.W.EachIs (fun (v : Value) (b : V × PyData) => ∃ as, Reads s.heap v b.2 as) its (xs.zip ds)
  | _, _, _, .nil, .nil => .nil
  | _, _, _, .cons r t, .cons h u => .cons (Dp.reads I _ _ _ h r) (reads_each I t u)
theorem each_vals : ∀ {its : List Value} {bs : List (V × PyData)}, PySem.W.EachIs (fun (v : Value) (b : V × PyData) => RelV b.1 v) its bs → Vals (bs.map Prod.fst) its
  | _, _, .nil => .nil
  | _, _, .cons h t => .cons h (each_vals t)
theorem cr_sortedD (hu : X.A.units + 65 < cLine) : CallR X (.builtin "sorted") (rSortedD X.K) := by
  intro pins s σ H vs us Q I r h
  obtain ⟨a, xs, ds, rfl, hs, hd, al, so, dep, q⟩ := h
  obtain ⟨its, rv, hl, hz⟩ := I.list hs
  obtain ⟨u, rfl, ru⟩ := vals1 r
  obtain rfl : u = Value.ref a := ru
  obtain ⟨z1, z2⟩ := dpAll_zip hd
  have hlen := dpAll_len hd
  have lz : (xs.zip ds).length = xs.length := by rw [← List.length_map (f := Prod.fst), z2]
  refine PySem.W.sorted_data (enc := Prod.snd) hl.isList (vals_each rv hlen.symm) (reads_each I rv hd) (by rw [z1]; exact al) (by rw [z1]; exact so) (by rw [lz]; exact hz) (fun b hb => ?_) fun out ho he => ?_
  · have hb2 : b.2 ∈ ds := by rw [← z1]; exact List.mem_map_of_mem hb
    have := dep _ hb2
    omega
  · obtain ⟨n, hn⟩ := sortedAll_at s.heap its out.toArray
    have ol : ((srtV xs ds).map Prod.fst).length ≤ sizeLine := by
      unfold srtV
      rw [List.length_map, (List.mergeSort_perm ..).length_eq, lz]
      exact hz
    exact ⟨.ref (s.heap.objs.size + 1), upd H (s.heap.objs.size + 1) (.lst ((srtV xs ds).map Prod.fst)), I.laid (t' := s.toks) (fun b o e => sortedAll_old e) (Nat.le_succ _) ⟨ol, out, n, each_vals he, hn⟩, rfl, q _ (I.hok.fresh (Nat.le_succ _))⟩
end
/-- .. of pages -/
theorem alike_Ps (ps : List Pg) : PySem.W.AllAlike (ps.map dP) := PySem.W.AllAlike.of alike_P
theorem sortable_Ps (ps : List Pg) : PySem.W.Sortable (ps.map dP) := PySem.W.Sortable.tuples fun _ => ⟨_, _, rfl⟩
theorem tpAll_mem {H : Hp} : ∀ {xs : List V} {ds : List PyData}, TpAll H xs ds → ∀ b ∈ xs.zip ds, Tp H b.1 b.2
  | _, _, .nil, b, hb => nomatch hb
  | _, _, .cons h t, b, hb => by
    rcases List.mem_cons.mp hb with rfl | hb
    · exact h
    · exact tpAll_mem t b hb
theorem tpAll_of {H : Hp} : ∀ (bs : List (V × PyData)), (∀ b ∈ bs, Tp H b.1 b.2) → TpAll H (bs.map Prod.fst) (bs.map Prod.snd)
  | [], _ => .nil
  | b :: r, h => .cons (h b (List.mem_cons_self ..)) (tpAll_of r fun c hc => h c (List.mem_cons_of_mem _ hc))
theorem perm_of_map {α β : Type} {f : α → β} : ∀ {l : List β} {ps : List α}, l.Perm (ps.map f) → ∃ qs : List α, l = qs.map f ∧ qs.Perm ps := by
  intro l ps h
  have key : ∀ {l m : List β}, l.Perm m → ∀ ps : List α, m = ps.map f → ∃ qs : List α, l = qs.map f ∧ qs.Perm ps := by
    intro l m h
    induction h with
    | nil => intro ps e; exact ⟨[], rfl, by cases ps with | nil => exact .nil | cons _ _ => cases e⟩
    | cons x _ ih =>
      intro ps e
      cases ps with
      | nil => cases e
      | cons p r =>
        injection e with e1 e2
        obtain ⟨qs, e3, hp⟩ := ih r e2
        exact ⟨p :: qs, by rw [e1, e3]; rfl, hp.cons p⟩
    | swap x y l =>
      intro ps e
      match ps, e with
      | p :: q :: r, e =>
        injection e with e1 e2
        injection e2 with e2 e3
        exact ⟨q :: p :: r, by rw [e1, e2, e3]; rfl, .swap ..⟩
    | trans _ _ ih1 ih2 =>
      intro ps e
      obtain ⟨qs, e1, h1⟩ := ih2 ps e
      obtain ⟨rs, e2, h2⟩ := ih1 qs e1
      exact ⟨rs, e2, h2.trans h1⟩
  exact key h ps rfl
theorem srt_Ps {H : Hp} {xs : List V} {ps : List Pg} (h : TpAll H xs (ps.map dP)) : ∃ qs : List Pg, qs.Perm ps ∧ TpAll H ((srtV xs (ps.map dP)).map Prod.fst) (qs.map dP) := by
  have hp : (srtV xs (ps.map dP)).Perm (xs.zip (ps.map dP)) := List.mergeSort_perm ..
  have hm : ∀ b ∈ srtV xs (ps.map dP), Tp H b.1 b.2 := fun b hb => tpAll_mem h b (hp.mem_iff.mp hb)
  have h2 := tpAll_of _ hm
  have z : (xs.zip (ps.map dP)).map Prod.snd = ps.map dP := by
    rw [List.map_snd_zip]
    rw [h.len]
    exact Nat.le_refl _
  have h3 : ((srtV xs (ps.map dP)).map Prod.snd).Perm (ps.map dP) := by
    have := hp.map Prod.snd
    rwa [z] at this
  obtain ⟨qs, e, hq⟩ : ∃ qs : List Pg, (srtV xs (ps.map dP)).map Prod.snd = qs.map dP ∧ qs.Perm ps := perm_of_map h3
  exact ⟨qs, hq, by rw [← e]; exact h2⟩
/-! ### rows of pages -/
inductive PgAll (K : PySem.W.Frag) (H : Hp) : List V → List Pg → Prop
  | nil : PgAll K H [] []
  | cons {v : V} {vs : List V} {p : Pg} {ps : List Pg} {d : PyData} (h : Dp K H v d) (e : keptPD d = some p) (t : PgAll K H vs ps) : PgAll K H (v :: vs) (p :: ps)
theorem PgAll.same {K : PySem.W.Frag} {H H' : Hp} (m : Same H H') : ∀ {vs : List V} {ps : List Pg}, PgAll K H vs ps → PgAll K H' vs ps
  | _, _, .nil => .nil
  | _, _, .cons h e t => .cons (dp_same m h) e (PgAll.same m t)
theorem PgAll.len {K : PySem.W.Frag} {H : Hp} : ∀ {vs : List V} {ps : List Pg}, PgAll K H vs ps → vs.length = ps.length
  | _, _, .nil => rfl
  | _, _, .cons _ _ t => congrArg (· + 1) (PgAll.len t)
theorem PgAll.get {K : PySem.W.Frag} {H : Hp} : ∀ {vs : List V} {ps : List Pg} {i : Nat} {v : V}, PgAll K H vs ps → vs[i]? = some v → ∃ p d, ps[i]? = some p ∧ Dp K H v d ∧ keptPD d = some p
  | _, _, _, _, .nil, e => nomatch e
  | _, _, 0, _, .cons h k t, e => by
    injection e with e
    subst e
    exact ⟨_, _, rfl, h, k⟩
  | _, _, i + 1, _, .cons h k t, e => PgAll.get (i := i) t e
theorem pgAll_tp {K : PySem.W.Frag} {H : Hp} : ∀ {us : List V} {ps : List Pg}, TpAll H us (ps.map dP) → (∀ p ∈ ps, okP p) → PgAll K H us ps
  | _, [], h, _ => by cases h; exact .nil
  | _, p :: ps, h, ok => by
    cases h with
    | cons h t => exact .cons h.dp (kept_P (ok p (List.mem_cons_self ..))) (pgAll_tp t fun q hq => ok q (List.mem_cons_of_mem _ hq))
theorem pgAll_dp {K : PySem.W.Frag} {H : Hp} : ∀ {us : List V} {ps : List Pg}, DpAll K H us (toLs (ps.map dP)) → (∀ p ∈ ps, okP p) → PgAll K H us ps
  | _, [], h, _ => by cases h; exact .nil
  | _, p :: ps, h, ok => by
    cases h with
    | cons h t => exact .cons h (kept_lP (ok p (List.mem_cons_self ..))) (pgAll_dp t fun q hq => ok q (List.mem_cons_of_mem _ hq))
theorem eqvAll_P : ∀ ps qs : List Pg, PyData.eqvAll (ps.map dP) (qs.map dP) = decide (ps = qs)
  | [], [] => rfl
  | [], _ :: _ => rfl
  | _ :: _, [] => rfl
  | p :: ps, q :: qs => by
    show (PyData.eqv (dP p) (dP q) && PyData.eqvAll (ps.map dP) (qs.map dP)) = _
    rw [eqv_dP, eqvAll_P ps qs, Bool.eq_iff_iff]
    simp
theorem shown_okP {bk : List Lf} (ok : okBk bk) : ∀ p ∈ shownP bk, okP p := fun p hp => by
  obtain ⟨l, hl, h⟩ := List.mem_flatMap.mp hp
  rw [sideP_eq] at h
  obtain ⟨s, hs, hf⟩ := List.mem_filterMap.mp h
  obtain ⟨_, rfl⟩ := sideF_some hf
  refine ⟨(ok.2.1 l hl).1, ?_⟩
  rcases List.mem_cons.mp hs with h | h
  · exact .inl h
  · exact .inr (List.mem_singleton.mp h)
theorem all_okP {bk : List Lf} (ok : okBk bk) : ∀ p ∈ allP bk, okP p := fun p hp => by
  obtain ⟨l, hl, h⟩ := List.mem_flatMap.mp hp
  rcases List.mem_cons.mp h with rfl | h
  · exact ⟨(ok.2.1 l hl).1, .inl rfl⟩
  · rw [List.mem_singleton.mp h]; exact ⟨(ok.2.1 l hl).1, .inr rfl⟩
theorem ltP_leP (p q : Pg) : PySem.W.dataLt (dP p) (dP q) = !leP q p := by
  unfold leP ltP
  rw [Bool.not_not]
/-- when all are ranges of the book, what is told needs no more asking -/
theorem told_all {bk : List Lf} {ps : List (Pg × Pg)} (h : ps.all (isR bk) = true) : toldP bk ps = (shownP bk).filter fun p => ps.any (inR p) := by
  unfold toldP
  rw [List.filter_eq_self.mpr (List.all_eq_true.mp h)]
theorem pn_Ps (ps : List Pg) : Pn 3 (dPs ps) := fun d hd => by
  obtain ⟨p, _, rfl⟩ := List.mem_map.mp hd
  exact pn_P p
/-- one of the leaves' data -/
theorem lv_get {H : Hp} {vs : List V} {bk : List Lf} {i : Nat} {v : V} (tp : TpAll H vs (bk.map dLf)) (hx : vs[i]? = some v) : ∃ lf, bk[i]? = some lf ∧ Tp H v (dLf lf) := by
  obtain ⟨d, ed, td⟩ := tp.get hx
  rw [List.getElem?_map] at ed
  cases e : bk[i]? with
  | none => rw [e] at ed; cases ed
  | some l => rw [e] at ed; cases ed; exact ⟨l, rfl, td⟩
theorem nodup_sub {α : Type} [DecidableEq α] : ∀ {l m : List α}, l.Nodup → (∀ x ∈ l, x ∈ m) → l.length ≤ m.length
  | [], _, _, _ => Nat.zero_le _
  | x :: l, m, n, s => by
    obtain ⟨hx, hl⟩ := List.nodup_cons.mp n
    have hm := s x (List.mem_cons_self ..)
    have h := nodup_sub (m := m.erase x) hl fun y hy => (List.mem_erase_of_ne (fun e : y = x => hx (by rw [← e]; exact hy))).mpr (s y (List.mem_cons_of_mem _ hy))
    rw [List.length_erase_of_mem hm] at h
    have := List.length_pos_of_mem hm
    show l.length + 1 ≤ m.length
    omega
def freeK (Ls : List (List Int)) (n : Nat) : List Nat := (List.range n).filter fun i => decide ([(99 : Int) - (i : Int)] ∉ Ls)
theorem freeK_succ (Ls : List (List Int)) (n : Nat) : freeK Ls (n + 1) = freeK Ls n ++ (if decide ([(99 : Int) - (n : Int)] ∉ Ls) = true then [n] else []) := by
  unfold freeK
  rw [List.range_succ, List.filter_append, List.filter_cons, List.filter_nil]
theorem freeK_ne {Ls : List (List Int)} (h : Ls.length ≤ 60) : freeK Ls 99 ≠ [] := fun e => by
  have hall : ∀ x ∈ (List.range 99).map (fun (i : Nat) => [(99 : Int) - (i : Int)]), x ∈ Ls := fun x hx => by
    obtain ⟨i, hi, rfl⟩ := List.mem_map.mp hx
    have := List.filter_eq_nil_iff.mp e i hi
    simpa using this
  have nd : ((List.range 99).map (fun (i : Nat) => [(99 : Int) - (i : Int)])).Nodup := List.Pairwise.map _ (fun x y h e => h (by injection e with e; omega)) List.nodup_range
  have := nodup_sub nd hall
  rw [List.length_map, List.length_range] at this
  omega
theorem freeK_mem {Ls : List (List Int)} {n i : Nat} (h : i ∈ freeK Ls n) : i < n := List.mem_range.mp (List.mem_filter.mp h).1
theorem tpAll_snoc_inv {H : Hp} : ∀ {ws : List V} {ds : List PyData} {d : PyData}, TpAll H ws (ds ++ [d]) → ∃ W v, ws = W ++ [v] ∧ TpAll H W ds ∧ Tp H v d
  | _, [], d, h => by
    cases h with
    | cons h t => cases t; exact ⟨[], _, rfl, .nil, h⟩
  | _, e :: ds, d, h => by
    cases h with
    | cons h t =>
      obtain ⟨W, v, rfl, h1, h2⟩ := tpAll_snoc_inv t
      exact ⟨_ :: W, v, rfl, .cons h h1, h2⟩
theorem pg_inv {H : Hp} {v : V} {p : Pg} (h : Tp H v (dP p)) : ∃ a l, v = .ref a ∧ H a = some (.tup [.ref l, .int p.2]) ∧ H l = some (.tup (p.1.map V.int)) := by
  cases h with
  | tup h r =>
    cases r with
    | cons h1 r =>
      cases r with
      | cons h2 r =>
        cases r
        cases h2
        obtain ⟨l, rfl, hl⟩ := tpL_inv h1
        exact ⟨_, l, rfl, h, hl⟩
theorem first_at {p : Pg} : ∀ {ps : List Pg}, p ∈ ps → ∃ j, j < ps.length ∧ ps[j]? = some p ∧ ∀ m p', m < j → ps[m]? = some p' → p' ≠ p
  | q :: ps, h => by
    by_cases e : q = p
    · exact ⟨0, Nat.succ_pos _, by rw [e]; rfl, fun m _ h => absurd h (Nat.not_lt_zero _)⟩
    · have h2 : p ∈ ps := by
        rcases List.mem_cons.mp h with h | h
        · exact absurd h.symm e
        · exact h
      obtain ⟨j, h1, h3, h4⟩ := first_at h2
      refine ⟨j + 1, Nat.succ_lt_succ h1, h3, fun m p' hm hp => ?_⟩
      cases m with
      | zero => cases hp; exact e
      | succ m => exact h4 m p' (Nat.lt_of_succ_lt_succ hm) hp
theorem first_d {ps : List Pg} {p : Pg} {j : Nat} (e : ps[j]? = some p) : (ps.map dP)[j]? = some (dP p) := by rw [List.getElem?_map, e]; rfl
theorem first_no {ps : List Pg} {p : Pg} {j : Nat} (h : ∀ m p', m < j → ps[m]? = some p' → p' ≠ p) : ∀ (m : Nat) (z : PyData), m < j → (ps.map dP)[m]? = some z → PyData.eqv z (dP p) = false := fun m z hm hz => by
  rw [List.getElem?_map] at hz
  cases e : ps[m]? with
  | none => rw [e] at hz; cases hz
  | some p' =>
    rw [e] at hz
    cases hz
    rw [eqv_dP]
    exact decide_eq_false (h m p' hm e)
theorem eqv_Pself (p : Pg) : PyData.eqv (dP p) (dP p) = true := by rw [eqv_dP]; exact decide_eq_true rfl
theorem TpAll.rev {H : Hp} : ∀ {vs : List V} {ds : List PyData}, TpAll H vs ds → TpAll H vs.reverse ds.reverse
  | _, _, .nil => .nil
  | _, _, .cons h t => by
    rw [List.reverse_cons, List.reverse_cons]
    exact (TpAll.rev t).snoc h
/-- a list of one or two pairs, laid apart from the source -/
def Good (a : Addr) (H H' : Hp) (G : Addr) : Prop := Src H' a ∧ But a H H' ∧ G ≠ a ∧ ∃ (gs : List V) (ns : List (Pg × Pg)), H' G = some (.lst gs) ∧ TpAll H' gs (ns.map dR) ∧ (∀ r ∈ ns, okR r) ∧ ns.length ≤ 2
theorem srcS {Ha Hb : Hp} {a : Addr} (s : Same Ha Hb) (h : Src Ha a) : Src Hb a := by
  obtain ⟨g, x, c, e⟩ := h
  exact ⟨g, x, c, s _ _ e⟩
theorem good1 {a : Addr} {H Hn : Hp} {x y : V} {p p' : Pg} (sn : Src Hn a) (bn : But a H Hn) (hx : Tp Hn x (dP p)) (hy : Tp Hn y (dP p')) (o : okP p) (o' : okP p') {t : Addr} (nt : Hn t = none) {g : Addr} (ng : upd Hn t (.tup [x, y]) g = none) : Good a H (upd (upd Hn t (.tup [x, y])) g (.lst [.ref t])) g := by
  have s1 := same_upd (o := .tup [x, y]) nt
  have s2 := same_upd (o := .lst [.ref t]) ng
  have s := s1.trans s2
  have sg := srcS s1 sn
  refine ⟨srcS s sn, bn.trans (But.of s), (sg.ne ng).symm, _, [(p, p')], upd_same, .cons (.tup (s2 _ _ upd_same) (.cons (hx.nl (NL.of s)) (.cons (hy.nl (NL.of s)) .nil))) .nil, fun r hr => ?_, (by show 1 ≤ 2; decide)⟩
  rw [List.mem_singleton.mp hr]
  exact ⟨o, o'⟩
theorem good0 {a : Addr} {H Hn : Hp} {v : V} {r : Pg × Pg} (sn : Src Hn a) (bn : But a H Hn) (hv : Tp Hn v (dR r)) (o : okR r) {g : Addr} (ng : Hn g = none) : Good a H (upd Hn g (.lst [v])) g := by
  have s := same_upd (o := .lst [v]) ng
  refine ⟨srcS s sn, bn.trans (But.of s), (sn.ne ng).symm, _, [r], upd_same, .cons (hv.nl (NL.of s)) .nil, fun q hq => ?_, (by show 1 ≤ 2; decide)⟩
  rw [List.mem_singleton.mp hq]
  exact o
theorem page_at {H : Hp} {ks : List V} {bk : List Lf} (ok : okBk bk) (tk : TpAll H ks ((allP bk).map dP)) {c : Int} (h0 : 0 ≤ c) (h1 : c < ks.length) : ∃ x p, atI ks c = some x ∧ Tp H x (dP p) ∧ okP p := by
  obtain ⟨x, ex⟩ : ∃ x, ks[c.toNat]? = some x := ⟨_, List.getElem?_eq_getElem (by omega)⟩
  obtain ⟨d, ed, tx⟩ := tk.get ex
  rw [List.getElem?_map] at ed
  cases e : (allP bk)[c.toNat]? with
  | none => rw [e] at ed; cases ed
  | some p =>
    rw [e] at ed
    cases ed
    exact ⟨x, p, at_of' (Int.toNat_of_nonneg h0).symm ex, tx, all_okP ok p (List.mem_of_getElem? e)⟩
theorem good2 {a : Addr} {H Hn : Hp} {v1 v2 : V} {r1 r2 : Pg × Pg} (sn : Src Hn a) (bn : But a H Hn) (h1 : Tp Hn v1 (dR r1)) (h2 : Tp Hn v2 (dR r2)) (o1 : okR r1) (o2 : okR r2) {g : Addr} (ng : Hn g = none) : Good a H (upd Hn g (.lst [v1, v2])) g := by
  have s := same_upd (o := .lst [v1, v2]) ng
  refine ⟨srcS s sn, bn.trans (But.of s), (sn.ne ng).symm, _, [r1, r2], upd_same, .cons (h1.nl (NL.of s)) (.cons (h2.nl (NL.of s)) .nil), fun q hq => ?_, (by show 2 ≤ 2; decide)⟩
  rcases List.mem_cons.mp hq with h | h
  · rw [h]; exact o1
  · rw [List.mem_singleton.mp h]; exact o2
/-! ### dicts whose keys are data of tuples, of any depth up to 8 -/
mutual
def nkD : PyData → PySem.NestedKey
  | .int i => .num i
  | .str x => .text x
  | .bool b => .num (if b = true then 1 else 0)
  | .tuple ds => .tup (nkDs ds)
  | _ => .none
def nkDs : List PyData → List PySem.NestedKey
  | [] => []
  | d :: r => nkD d :: nkDs r
end
mutual
theorem nested_tp {P : Program} {w : World} {H : Hp} {h : Heap} (ok : HOk P w H h) : ∀ {v : V} {d : PyData} {u : Value}, Tp H v d → RelV v u → PySem.NestedIs h (nkD d) u
  | _, _, _, .non, r => by
    cases (show _ = Value.none from r)
    exact .none
  | _, _, _, .bl b, r => by
    cases (show _ = Value.bool b from r)
    exact .bool rfl
  | _, _, _, .int i, r => by
    obtain ⟨t, rfl⟩ := (show ∃ t, _ = Value.int i t from r)
    exact .int i t
  | _, _, _, .str z, r => by
    obtain ⟨t, rfl⟩ := (show ∃ t, _ = Value.str z t from r)
    exact .text z t
  | _, _, _, .tup (a := a) (vs := vs) e t, r => by
    cases (show _ = Value.ref a from r)
    obtain ⟨_, its, rv, o, h1, h2, n, h3⟩ := (show ObjOk P w H h a (.tup vs) from ok a _ e)
    exact .tup h1 h2 h3 (by simpa using nestedAll_tp ok t rv)
theorem nestedAll_tp {P : Program} {w : World} {H : Hp} {h : Heap} (ok : HOk P w H h) : ∀ {vs : List V} {ds : List PyData} {us : List Value}, TpAll H vs ds → Vals vs us → PySem.NestedAll h (nkDs ds) us
  | _, _, _, .nil, r => by
    cases r
    exact .nil
  | _, _, _, .cons a t, r => by
    cases r with
    | cons r1 r2 => exact .cons (nested_tp ok a r1) (nestedAll_tp ok t r2)
end
mutual
def noL : PyData → Bool
  | .list _ => false
  | .dict _ => false
  | .tuple ds => noLs ds
  | _ => true
def noLs : List PyData → Bool
  | [] => true
  | d :: r => noL d && noLs r
end
mutual
theorem nested_dp {X : Cx} {pins : List (Addr × Obj)} {σ : L2.St} {H : Hp} {s : Shared} (I : Inv X pins σ H s) : ∀ {v : V} {d : PyData} {u : Value}, Dp X.K H v d → noL d = true → RelV v u → PySem.NestedIs s.heap (nkD d) u
  | _, _, _, .non, _, r => by
    cases (show _ = Value.none from r)
    exact .none
  | _, _, _, .bl b, _, r => by
    cases (show _ = Value.bool b from r)
    exact .bool rfl
  | _, _, _, .int i, _, r => by
    obtain ⟨t, rfl⟩ := (show ∃ t, _ = Value.int i t from r)
    exact .int i t
  | _, _, _, .str z, _, r => by
    obtain ⟨t, rfl⟩ := (show ∃ t, _ = Value.str z t from r)
    exact .text z t
  | _, _, _, .lst _ _, n, _ => nomatch n
  | _, _, _, .tup e t, n, r => by
    rename_i a vs ds
    cases (show _ = Value.ref a from r)
    obtain ⟨its, rv, ⟨o, h1, h2, k, h3⟩, _⟩ := I.tuple e
    exact .tup h1 h2 h3 (by simpa using nestedAll_dp I t n rv)
theorem nestedAll_dp {X : Cx} {pins : List (Addr × Obj)} {σ : L2.St} {H : Hp} {s : Shared} (I : Inv X pins σ H s) : ∀ {vs : List V} {ds : List PyData} {us : List Value}, DpAll X.K H vs ds → noLs ds = true → Vals vs us → PySem.NestedAll s.heap (nkDs ds) us
  | _, _, _, .nil, _, r => by
    cases r
    exact .nil
  | _, _, _, .cons a t, n, r => by
    have n2 : (noL _ && noLs _) = true := n
    rw [Bool.and_eq_true] at n2
    cases r with
    | cons r1 r2 => exact .cons (nested_dp I a n2.1 r1) (nestedAll_dp I t n2.2 r2)
end
/-- at b lies the key k -/
def NKey (H : Hp) (b : Addr) (k : PySem.NestedKey) : Prop := ∃ d, Tp H (.ref b) d ∧ nkD d = k ∧ k.depth ≤ 8
theorem NKey.nl {H H' : Hp} {b : Addr} {k : PySem.NestedKey} (m : NL H H') (h : NKey H b k) : NKey H' b k := by
  obtain ⟨d, h1, h2⟩ := h
  exact ⟨d, h1.nl m, h2⟩
theorem nkey_is {P : Program} {w : World} {H : Hp} {h : Heap} {b : Addr} {k : PySem.NestedKey} (ok : HOk P w H h) (q : NKey H b k) : (PySem.nestedKind P w).is h k b := by
  obtain ⟨d, h1, rfl, h3⟩ := q
  exact ⟨nested_tp ok h1 rfl, h3⟩
abbrev NE := PySem.NestedKey × Addr × V
abbrev NU := PySem.NestedKey × Addr × Value
def entN (w : World) (x : NU) : DictEntry := ⟨x.1.hash w, .ref x.2.1, x.2.2⟩
def RelN (p : NE) (q : NU) : Prop := p.1 = q.1 ∧ p.2.1 = q.2.1 ∧ RelV p.2.2 q.2.2
def rawN (w : World) (a : Addr) (kvs : List NE) : HO := .ext fun h => kvs.length ≤ sizeLine ∧ (a == sysModules) = false ∧ ∃ xs : List NU, Paired RelN kvs xs ∧
  ∃ o es ep, h.get? a = some o ∧ o.ExactDict ∧ o.data = .dict es ep ∧ es.toList = xs.map (entN w) ∧ (xs.map (·.1)).Nodup
theorem rawN_st {w : World} {a : Addr} {kvs : List NE} : ∀ h1 h2 : Heap, (kvs.length ≤ sizeLine ∧ (a == sysModules) = false ∧ ∃ xs : List NU, Paired RelN kvs xs ∧ ∃ o es ep, h1.get? a = some o ∧ o.ExactDict ∧ o.data = .dict es ep ∧ es.toList = xs.map (entN w) ∧ (xs.map (·.1)).Nodup) →
    (∀ o, h1.get? a = some o → h2.get? a = some o) → kvs.length ≤ sizeLine ∧ (a == sysModules) = false ∧ ∃ xs : List NU, Paired RelN kvs xs ∧ ∃ o es ep, h2.get? a = some o ∧ o.ExactDict ∧ o.data = .dict es ep ∧ es.toList = xs.map (entN w) ∧ (xs.map (·.1)).Nodup := by
  rintro h1 h2 ⟨z, y, xs, r, o, es, ep, e, c⟩ k
  exact ⟨z, y, xs, r, o, es, ep, k _ e, c⟩
/-- a dict of such keys -/
def DN (w : World) (H : Hp) (a : Addr) (kvs : List NE) : Prop := H a = some (rawN w a kvs) ∧ ∀ p ∈ kvs, NKey H p.2.1 p.1
theorem rawN_ne {w : World} {a : Addr} {kvs : List NE} {xs : List V} : rawN w a kvs ≠ .lst xs := fun z => by
  have z' : HO.ext _ = HO.lst xs := z
  cases z'
theorem rawN_net {w : World} {a : Addr} {kvs : List NE} {xs : List V} : rawN w a kvs ≠ .tup xs := fun z => by
  have z' : HO.ext _ = HO.tup xs := z
  cases z'
theorem DN.nl {w : World} {H H' : Hp} {a : Addr} {kvs : List NE} (m : NL H H') (h : DN w H a kvs) : DN w H' a kvs := ⟨m _ _ h.1 fun _ => rawN_ne, fun p hp => (h.2 p hp).nl m⟩
def atN (kvs : List NE) (k : PySem.NestedKey) : Option V := (kvs.find? fun p => decide (p.1 = k)).map (·.2.2)
def putN (kvs : List NE) (k : PySem.NestedKey) (b : Addr) (v : V) : List NE := if (atN kvs k).isSome = true then kvs.map (fun p => if p.1 = k then (p.1, p.2.1, v) else p) else kvs ++ [(k, b, v)]
theorem putN_len (kvs : List NE) (k : PySem.NestedKey) (b : Addr) (v : V) : (putN kvs k b v).length ≤ kvs.length + 1 := by
  unfold putN
  split
  · rw [List.length_map]; exact Nat.le_succ _
  · rw [List.length_append]; exact Nat.le_refl _
theorem atN_put (kvs : List NE) (k q : PySem.NestedKey) (b : Addr) (v : V) : atN (putN kvs k b v) q = if q = k then some v else atN kvs q := by
  have up : ∀ l : List NE, ((l.map fun p => if p.1 = k then (p.1, p.2.1, v) else p).find? fun p => decide (p.1 = q)).map (·.2.2) = if q = k then (if (atN l k).isSome = true then some v else none) else atN l q := by
    intro l
    induction l with
    | nil => unfold atN; split <;> rfl
    | cons p r ih =>
      unfold atN at ih ⊢
      rw [List.map_cons, List.find?_cons, List.find?_cons, List.find?_cons]
      by_cases c1 : p.1 = k
      · rw [if_pos c1]
        by_cases c2 : q = k
        · rw [decide_eq_true (show p.1 = q from c1.trans c2.symm), decide_eq_true c1, if_pos c2]
          rfl
        · rw [decide_eq_false (fun z : p.1 = q => c2 (z.symm.trans c1)), if_neg c2]
          rw [if_neg c2] at ih
          exact ih
      · rw [if_neg c1, decide_eq_false c1]
        by_cases c2 : p.1 = q
        · rw [decide_eq_true c2, if_neg (fun z => c1 (c2.trans z))]
        · rw [decide_eq_false c2]
          exact ih
  unfold putN
  by_cases e : (atN kvs k).isSome = true
  · rw [if_pos e]
    have := up kvs
    rw [if_pos e] at this
    exact this
  · rw [if_neg e]
    unfold atN at e ⊢
    rw [List.find?_append]
    by_cases c : q = k
    · subst c
      rw [if_pos rfl]
      cases h : kvs.find? fun p => decide (p.1 = q) with
      | none => rw [Option.none_or, List.find?_cons, decide_eq_true rfl]; rfl
      | some p => rw [h] at e; exact absurd rfl e
    · rw [if_neg c]
      cases h : kvs.find? fun p => decide (p.1 = q) with
      | none => rw [Option.none_or, List.find?_cons, decide_eq_false (fun z : k = q => c z.symm)]; rfl
      | some p => rfl
theorem relN_at {kvs : List NE} {xs : List NU} (r : Paired RelN kvs xs) (k : PySem.NestedKey) : RelO (atN kvs k) ((atKey xs k).map (·.2)) := by
  induction r with
  | nil => exact True.intro
  | @cons p q ps qs h t ih =>
    obtain ⟨h1, _, h3⟩ := h
    unfold atN atKey at ih ⊢
    rw [List.find?_cons, List.find?_cons, h1]
    by_cases e : q.1 = k
    · rw [decide_eq_true e]; exact h3
    · rw [decide_eq_false e]; exact ih
theorem relN_map {kvs : List NE} {xs : List NU} (r : Paired RelN kvs xs) (k : PySem.NestedKey) {v : V} {u : Value} (rv : RelV v u) : Paired RelN (kvs.map fun p => if p.1 = k then (p.1, p.2.1, v) else p) (xs.map (putAt k u)) := by
  induction r with
  | nil => exact .nil
  | @cons p q ps qs h t ih =>
    rw [List.map_cons, List.map_cons]
    refine .cons ?_ ih
    obtain ⟨h1, h2, h3⟩ := h
    unfold putAt
    by_cases e : p.1 = k
    · rw [if_pos e, if_pos (h1.symm.trans e)]; exact ⟨h1, h2, rv⟩
    · rw [if_neg e, if_neg (fun z => e (h1.trans z))]; exact ⟨h1, h2, h3⟩
theorem relN_put {kvs : List NE} {xs : List NU} (r : Paired RelN kvs xs) (k : PySem.NestedKey) (b : Addr) {v : V} {u : Value} (rv : RelV v u) : Paired RelN (putN kvs k b v) (storedH xs k b u) := by
  have e : (atN kvs k).isSome = (atKey xs k).isSome := by
    rw [(relN_at r k).isSome_eq, Option.isSome_map]
  unfold putN storedH
  rw [e]
  by_cases q : (atKey xs k).isSome = true
  · rw [if_pos q, if_pos q]; exact relN_map r k rv
  · rw [if_neg q, if_neg q]; exact Paired.snoc r ⟨rfl, rfl, rv⟩
theorem putN_keys {H : Hp} {kvs : List NE} {k : PySem.NestedKey} {b : Addr} {v : V} (h : ∀ p ∈ kvs, NKey H p.2.1 p.1) (hb : NKey H b k) : ∀ p ∈ putN kvs k b v, NKey H p.2.1 p.1 := fun p hp => by
  unfold putN at hp
  split at hp
  · obtain ⟨q, hq, rfl⟩ := List.mem_map.mp hp
    split
    · exact h q hq
    · exact h q hq
  · rcases List.mem_append.mp hp with e | e
    · exact h p e
    · rw [List.mem_singleton.mp e]; exact hb
theorem dn_rd {P : Program} {w : World} {H : Hp} {h : Heap} {a : Addr} {kvs : List NE} (ok : HOk P w H h) (e : DN w H a kvs) : kvs.length ≤ sizeLine ∧ (a == sysModules) = false ∧ ∃ xs, Paired RelN kvs xs ∧ h.DictOfH (PySem.nestedKind P w) a xs := by
  obtain ⟨⟨z, y, xs, r, o, es, ep, h1, h2, h3, h4, h5⟩, _⟩ := (show ObjOk P w H h a (rawN w a kvs) from ok a _ e.1)
  refine ⟨z, y, xs, r, o, es, ep, h1, h2, h3, h4, fun x hx => ?_, h5⟩
  have all : ∀ {l : List NE} {m : List NU}, Paired RelN l m → (∀ p ∈ l, NKey H p.2.1 p.1) → ∀ x ∈ m, (PySem.nestedKind P w).is h x.1 x.2.1 := by
    intro l m q
    induction q with
    | nil => intro _ x hx; exact nomatch hx
    | @cons p q ps qs hq t ih =>
      intro hk x hx
      rcases List.mem_cons.mp hx with e | hx
      · subst e
        have := nkey_is (P := P) (w := w) ok (hk p (List.mem_cons_self ..))
        rw [hq.1, hq.2.1] at this
        exact this
      · exact ih (fun p hp => hk p (List.mem_cons_of_mem _ hp)) x hx
  exact all r e.2 x hx
theorem dn_empty {P : Program} {w : World} {H : Hp} (h : Heap) (hb : sysModules < h.objs.size) : ObjOk P w H (h.push { cls := .type "dict", data := .dict #[] }) h.objs.size (rawN w h.objs.size []) :=
  ⟨⟨Nat.zero_le _, beq_eq_false_iff_ne.mpr (Ne.symm (Nat.ne_of_lt hb)), [], .nil, _, #[], 0, Heap.get?_push_size _ rfl, ⟨rfl, rfl, rfl⟩, rfl, rfl, List.nodup_nil⟩, ⟨_, Heap.get?_push_size _ rfl⟩, rawN_st⟩
section
variable {X : Cx} {pins : List (Addr × Obj)} {σ : L2.St} {H : Hp} {s : Shared} {a b : Addr} {k : PySem.NestedKey} {kvs : List NE} {A : Around} {E : Value → Shared → Prop}
theorem dn_get {v : V} {Q : Value → Shared → Prop} (hu : A.units + 64 < cLine) (I : Inv X pins σ H s) (e : DN X.w H a kvs) (hb : (PySem.nestedKind X.prog X.w).is s.heap k b) (l : atN kvs k = some v) (h : ∀ w' s', Inv X pins σ H s' → RelV v w' → Q w' s') :
    wpAny (model X.prog X.w) A (getItem (.ref a) (.ref b)) Q E s := by
  obtain ⟨z, hd, xs, rel, dd⟩ := dn_rd I.hok e
  obtain ⟨w', hw, rw'⟩ := RelO.some_of (v := v) (o := (atKey xs k).map (·.2)) (by rw [← l]; exact relN_at rel k)
  obtain ⟨p, hp, hp2⟩ := Option.map_eq_some_iff.mp hw
  refine wpAny_getItem_heap (knd := PySem.nestedKind X.prog X.w) (show A.units + 1 + 8 < cLine by omega) hb dd hp ?_
  rw [hp2]
  exact h w' _ (I.tok _) rw'
theorem dn_new {P : Program} {w : World} {H' : Hp} {h' : Heap} {a : Addr} {kvs : List NE} {xs : List NU} (z : kvs.length ≤ sizeLine) (hd : (a == sysModules) = false) (rel : Paired RelN kvs xs) (dd : h'.DictOfH (PySem.nestedKind P w) a xs) : ObjOk P w H' h' a (rawN w a kvs) := by
  obtain ⟨o, es, ep, h1, h2, h3, h4, _, h5⟩ := dd
  exact ⟨⟨z, hd, xs, rel, o, es, ep, h1, h2, h3, h4, h5⟩, ⟨o, h1⟩, rawN_st⟩
theorem DN.put {w : World} {H : Hp} {a b : Addr} {kvs : List NE} {k : PySem.NestedKey} {v : V} (e : DN w H a kvs) (hb : NKey H b k) : DN w (upd H a (rawN w a (putN kvs k b v))) a (putN kvs k b v) := by
  have tp : ∀ {c : Addr} {q : PySem.NestedKey}, NKey H c q → NKey (upd H a (rawN w a (putN kvs k b v))) c q := fun {c q} ⟨d, h1, h2⟩ => by
    refine ⟨d, ?_, h2⟩
    have go : ∀ {H' : Hp}, (∀ c ys, H c = some (.tup ys) → H' c = some (.tup ys)) → ∀ {u : V} {d : PyData}, Tp H u d → Tp H' u d := fun {H'} m => @Tp.rec H (fun u d _ => Tp H' u d) (fun us ds _ => TpAll H' us ds) .non .bl .int .str (fun h _ r => .tup (m _ _ h) r) .nil (fun _ _ a b => .cons a b)
    exact go (fun c ys ec => by rw [upd_ne (fun z => by rw [z, e.1] at ec; exact rawN_net (Option.some.inj ec))]; exact ec) h1
  exact ⟨upd_same, fun p hp => putN_keys (fun p hp => tp (e.2 p hp)) (tp hb) p hp⟩
theorem dn_set {v : V} {r : Value} {QQ : Unit → Shared → Prop} (hu : X.A.units + 64 < cLine) (I : Inv X pins σ H s) (e : DN X.w H a kvs) (hb : NKey H b k) (small : kvs.length < sizeLine) (rv : RelV v r)
    (go : ∀ s', Inv X pins σ (upd H a (rawN X.w a (putN kvs k b v))) s' → QQ () s') : wpAny (model X.prog X.w) X.A (dictSet a (.ref b) r) QQ E s := by
  obtain ⟨le, nsys, xs, rel, dd⟩ := dn_rd I.hok e
  have le2 : (putN kvs k b v).length ≤ sizeLine := Nat.le_trans (putN_len kvs k b v) small
  refine wpAny_dictSet_heap (knd := PySem.nestedKind X.prog X.w) (hsz := by rw [← Paired.length rel]; exact le) (show X.A.units + 8 < cLine by omega) (nkey_is I.hok hb) dd fun h' new only => go _ ?_
  obtain ⟨o, es, ep, at_, _⟩ := id new
  exact d_write I (by rw [e.1]; exact True.intro) only ⟨o, at_⟩ (dn_new le2 nsys (relN_put rel k b rv) new)
variable {o i : Expr} {pos : Pos} {td ty : TE}
/-- d[y], y data without lists -/
def tNGet (K : PySem.W.Frag) (w : World) (td ty : TE) : TE := fun σ H Q => td σ H fun x H1 => ty σ H1 fun y H2 => ∃ a kvs b d v, x = .ref a ∧ DN w H2 a kvs ∧ y = .ref b ∧ Dp K H2 (.ref b) d ∧ noL d = true ∧ (nkD d).depth ≤ 8 ∧ atN kvs (nkD d) = some v ∧ Q v H2
theorem pe_nget (hu : X.A.units + 64 < cLine) (ho : PE X o td) (hi : PE X i ty) (hs : NoSl i) : PE X (.Subscript o i pos) (tNGet X.K X.w td ty) := by
  constructor
  intro pins s σ H Q I h
  refine subD_of PySem.F.slot_dict_getitem.lookup hs (thn (ho.run pins s σ H _ I h) ?_)
  rintro u s1 ⟨x, H1, I1, rx, q1⟩
  refine thn (hi.run pins s1 σ H1 _ I1 q1) ?_
  rintro iv s2 ⟨y, H2, I2, ry, a, kvs, b, d, v, rfl, e, rfl, hd, hn, h8, l, q2⟩
  cases rx
  cases ry
  obtain ⟨_, _, xs, _, dd⟩ := dn_rd I2.hok e
  exact ⟨dd.typeIs, dn_get hu I2 e ⟨nested_dp I2 hd hn rfl, h8⟩ l fun w' s3 I3 rw' => ⟨v, H2, I3, rw', q2⟩⟩
end
section
variable {X : Cx}
/-- {k: v for target in iter}: D the new dict -/
def tDcN (w : World) (wi : TI) (g : TG) (tk tv : TE) (vs : List Nat) : TE := fun σ H Q => wi σ H fun J H1 => ∀ D, H1 D = Option.none → ∃ W : Nat → Nat → Hp → Prop, (∃ m, W 0 m (upd H1 D (rawN w D []))) ∧ ∀ i m H, W i m H →
  (J.stop i H ∧ Q (.ref D) H) ∨ (J.go i H ∧ ∃ Nx : Hp → Prop, (∀ H', Nx H' → ∃ m', m' < m ∧ W (i + 1) m' H') ∧ ∀ x H', J.yld i H x H' → g x (wipe σ vs) H' fun σ2 H2 => wipe σ2 vs = wipe σ vs ∧
    tk σ2 H2 fun y H4 => tv σ2 H4 fun z H5 => ∃ b kvs k, y = .ref b ∧ DN w H5 D kvs ∧ NKey H5 b k ∧ kvs.length < sizeLine ∧ Nx (upd H5 D (rawN w D (putN kvs k b z))))
theorem dcN_core {pins : List (Addr × Obj)} {s : Shared} {σ : L2.St} {H : Hp} {Q : VK} {use : Option (Value → Sem Unit)} {Qf : Value → Shared → Prop} {kx vx tg iter : Expr} {scope : Scope} {own : List (Str × Nat)} {pos : Pos} {wi : TI} {g : TG} {tk tv : TE} (hu : X.A.units + 64 < cLine) (hc : X.calm = true) (hN : X.N.Nodup) (hi : PI X tg iter wi) (ok : BlkOk X.N X.env.scope scope own)
    (hg : ∀ (s : Shared) (H : Hp) (C : Addr) (cl : List (Str × Addr)) (fp : List Addr), PG (X.blk s H scope (compEnvC scope cl C X.env) fp) tg g)
    (hk : ∀ (s : Shared) (H : Hp) (C : Addr) (cl : List (Str × Addr)) (fp : List Addr), PE (X.blk s H scope (compEnvC scope cl C X.env) fp) kx tk)
    (hv : ∀ (s : Shared) (H : Hp) (C : Addr) (cl : List (Str × Addr)) (fp : List Addr), PE (X.blk s H scope (compEnvC scope cl C X.env) fp) vx tv) (hs : ∀ x, foldedSetIterable iter X.env x = pure x) (I : Inv X pins σ H s) (h : tDcN X.w wi g tk tv (own.map (·.2)) σ H Q)
    (hRR : ∀ (D : Addr) (ce : Env) (s' : Shared) (m : Str → Option Value) (H' : Hp), Inv X pins σ H' s' → Q (.ref D) H' → s'.heap.Ns ce.locals m → FpOk X pins H' ce.locals → compEnds (model X.prog X.w) X.A X.xe use Qf (.ref D) ce (.ok .next) s') :
    wpAny (model X.prog X.w) X.A (comprehension (.DictComp kx vx [⟨tg, iter, [], 0⟩] scope pos) scope X.env (firstIterPos [⟨tg, iter, [], 0⟩] pos) newDict false (eval iter X.env) use) Qf X.xe s := by
  have hfree : ∀ y ∈ scope.names, y.2 = .free → ∃ c, X.env.cells.lookup y.1 = some c := fun y hy e => (ok.free y hy e).elim (fun k => I.ok.has _ (.inl k)) (fun k => I.ok.has _ (.inr k))
  refine comprehension_at (use := use) rfl hs (closure_ok hfree) ok.kind (fun y hy e => by rw [ok.uniq y hy, e]) (thn (hi.run pins s σ H _ I h) fun xv s1 hx => thn hx fun itv s2 h2 => ?_)
  obtain ⟨it, fp, tn, J, H2, rfl, I2, T, st2, f2, q⟩ := h2
  refine wpAny_newObj_type (newEnv_comp ?_)
  obtain ⟨D, hD⟩ : ∃ D, s2.heap.objs.size = D := ⟨_, rfl⟩
  obtain ⟨W, ⟨m0, w0⟩, turn⟩ := q D (I2.hok.fresh (Nat.le_of_eq hD))
  rw [hD]
  obtain ⟨s3, hs3⟩ : ∃ s3 : Shared, s3 = { s2 with heap := s2.heap.push { cls := .type "dict", data := .dict #[] } } := ⟨_, rfl⟩
  have h3 : s3.heap = s2.heap.push { cls := .type "dict", data := .dict #[] } := by rw [hs3]
  have I3 : Inv X pins σ (upd H2 D (rawN X.w D [])) s3 := by
    rw [hs3]
    refine I2.laid (t' := s2.toks) (fun b o e => Heap.get?_push_of_some _ e) (Nat.le_of_eq hD) ?_
    rw [← hD]
    exact dn_empty s2.heap I2.big
  have f3 : ∀ b ∈ fp, FpOk X pins (upd H2 D (rawN X.w D [])) b ∧ b < s3.heap.objs.size := fun b hb => by
    obtain ⟨o, e, _⟩ := T.obj _ _ st2 b hb
    have hlt := Heap.lt_size e
    refine ⟨⟨?_, (f2 b hb).2⟩, by rw [h3, Heap.size_push]; exact Nat.lt_succ_of_lt hlt⟩
    rw [upd_ne (by rw [← hD]; exact Nat.ne_of_lt hlt)]
    exact (f2 b hb).1
  have hch : ∀ b ∈ fp, (b ∈ X.ex ∨ X.s_0.heap.objs.size ≤ b) ∧ b ≠ X.env.locals ∧ (∀ x c, X.env.cells.lookup x = some c → c ≠ b) ∧ ∀ p ∈ X.pn ++ pins, p.1 ≠ b := fun b hb => ⟨(f3 b hb).1.2.2.2.1, (f3 b hb).1.2.1, (f3 b hb).1.2.2.2.2.1, (f3 b hb).1.2.2.2.2.2⟩
  have I4 := block_start I3 ok hN f3
  rw [← hs3]
  show codeAny _ _ (.compStart (.DictComp kx vx [⟨tg, iter, [], 0⟩] scope pos) 0 (.ref it) (.ref D) (compEnvC scope (cellsFrom (s3.heap.objs.size + 1) scope.names (cloFrom X.env.cells scope.names [])) s3.heap.objs.size X.env)) (compEnds (model X.prog X.w) X.A X.xe use Qf (.ref D) (compEnvC scope (cellsFrom (s3.heap.objs.size + 1) scope.names (cloFrom X.env.cells scope.names [])) s3.heap.objs.size X.env)) { s3 with heap := pushCells (s3.heap.push { cls := .type "dict", data := .dict #[] }) scope.names }
  have pg := hg s3 (upd H2 D (rawN X.w D [])) s3.heap.objs.size (cellsFrom (s3.heap.objs.size + 1) scope.names (cloFrom X.env.cells scope.names [])) fp
  have pk := hk s3 (upd H2 D (rawN X.w D [])) s3.heap.objs.size (cellsFrom (s3.heap.objs.size + 1) scope.names (cloFrom X.env.cells scope.names [])) fp
  have pv := hv s3 (upd H2 D (rawN X.w D [])) s3.heap.objs.size (cellsFrom (s3.heap.objs.size + 1) scope.names (cloFrom X.env.cells scope.names [])) fp
  obtain ⟨ce, hce⟩ : ∃ ce, ce = compEnvC scope (cellsFrom (s3.heap.objs.size + 1) scope.names (cloFrom X.env.cells scope.names [])) s3.heap.objs.size X.env := ⟨_, rfl⟩
  have cL : ce.locals = s3.heap.objs.size := by rw [hce]; rfl
  rw [← hce] at I4 pg pk pv ⊢
  have nfp : ∀ b ∈ fp, (upd H2 D (rawN X.w D [])) b = Option.none := fun b hb => (f3 b hb).1.1
  have st4 : tn 0 (pushCells (s3.heap.push { cls := .type "dict", data := .dict #[] }) scope.names) := T.keep _ _ _ st2 fun b _ o e => pushCells_keeps _ _ _ _ (Heap.get?_push_of_some _ (by rw [h3]; exact Heap.get?_push_of_some _ e))
  generalize upd H2 D (rawN X.w D []) = H3 at I3 I4 pg pk pv w0 nfp f3
  have stat : ∀ {σ' : L2.St} {H' : Hp} {s' : Shared}, Inv (X.blk s3 H3 scope ce fp) [] σ' H' s' → (∀ b ∈ fp, H' b = Option.none) → ∀ b ∈ fp, FpOk (X.blk s3 H3 scope ce fp) [] H' b := fun {σ' H' s'} I' hn b hb =>
    ⟨hn b hb, (I'.ok.exf b hb).1, I'.ok.exfs b hb, .inl hb, fun x c e => (I'.ok.exf b hb).2 x c e, fun p hp => absurd (show p ∈ ([] : List (Addr × Obj)) ++ [] from hp) (by simp)⟩
  have loop : ∀ s4 : Shared, Inv (X.blk s3 H3 scope ce fp) [] (wipe σ (own.map (·.2))) H3 s4 → tn 0 s4.heap → codeAny (model X.prog X.w) X.A (.compLoop (.DictComp kx vx [⟨tg, iter, [], 0⟩] scope pos) 0 (.ref it) (.ref D) ce) (compEnds (model X.prog X.w) X.A X.xe use Qf (.ref D) ce) s4 := by
    intro s4 I4 st4
    refine compLoop_anyD (fun n s' => ∃ i H', Inv (X.blk s3 H3 scope ce fp) [] (wipe σ (own.map (·.2))) H' s' ∧ tn i s'.heap ∧ (∀ b ∈ fp, H' b = Option.none) ∧ W i n H') ?_ m0 ⟨0, H3, I4, st4, nfp, w0⟩
    rintro n s5 ⟨i, H5, I5, st5, n5, w5⟩
    rcases turn i n H5 w5 with ⟨stop, qq⟩ | ⟨go, Nx, hNx, step⟩
    · refine thnF (T.done (X.blk s3 H3 scope ce fp) rfl rfl rfl hc i [] s5 _ H5 (fun _ _ => False) I5 (stat I5 n5) st5 stop) fun r s6 ⟨hr, I6⟩ => ?_
      subst hr
      have I7 : Inv X pins σ H5 s6 := I3.call' (ch := fp) I6.os I6.base I6.hok I6.bare hch
      have nC : H5 ce.locals = Option.none := I6.free
      obtain ⟨m, hn, _⟩ := I6.loc
      have f : FpOk X pins H5 ce.locals := by rw [cL] at nC ⊢; exact I3.fpOk (Nat.le_refl _) nC
      exact hRR D ce s6 m H5 I7 qq hn f
    · refine thnF (T.item (X.blk s3 H3 scope ce fp) rfl rfl rfl hc i [] s5 _ H5 (fun _ _ => False) I5 (stat I5 n5) st5 go) fun r s6 ⟨u, hr, h6⟩ => ?_
      subst hr
      refine thnF h6 fun _ s7 ⟨x, H7, I7, r7, y7, st7, n7⟩ => ?_
      refine thnF (pg.run _ s7 _ H7 x u _ (I7.pinned (stat I7 n7) (T.obj _ _ st7)) r7 (step x H7 y7)) fun _ s8 ⟨σ8, H8, I8, hw8, q8⟩ => ?_
      refine wpAny_tests_nil ?_
      have fin : ∀ {s' : Shared} {H' : Hp}, Inv (X.blk s3 H3 scope ce fp) ([] ++ pinsAt fp s7.heap) σ8 H' s' → Nx H' → ∃ m, m < n ∧ ∃ i H', Inv (X.blk s3 H3 scope ce fp) [] (wipe σ (own.map (·.2))) H' s' ∧ tn i s'.heap ∧ (∀ b ∈ fp, H' b = Option.none) ∧ W i m H' := fun {s' H'} I' nx => by
        obtain ⟨m', hm, w'⟩ := hNx H' nx
        have pin' : ∀ b ∈ fp, ∀ o, s7.heap.get? b = some o → s'.heap.get? b = some o ∧ H' b = Option.none := fun b hb o e =>
          let z := I'.pin (b, o) (List.mem_append_right _ (List.mem_append_right _ (mem_pinsAt hb e)))
          ⟨z.1, z.2.1⟩
        refine ⟨m', hm, i + 1, H', (I'.unpinned (pins := [])).weak (by rw [← hw8, wipe_length]) (fun j v e => ?_), T.keep _ _ _ st7 fun b hb o e => (pin' b hb o e).1, fun b hb => ?_, w'⟩
        · rw [← hw8] at e
          exact (wipe_some e).1
        · obtain ⟨o, e, _⟩ := T.obj _ _ st7 b hb
          exact (pin' b hb o e).2
      rw [if_pos rfl]
      refine thnF (pk.run _ s8 σ8 H8 _ I8 q8) fun z s10 ⟨yk, H10, I10, r10, q10⟩ => ?_
      refine thnF (pv.run _ s10 σ8 H10 _ I10 q10) fun z2 s11 ⟨yv, H11, I11, r11, b, kvs, k, ek, hD11, hb11, hz11, nx⟩ => ?_
      subst ek
      cases r10
      exact dn_set (X := X.blk s3 H3 scope ce fp) hu I11 hD11 hb11 hz11 r11 fun s12 I12 => fin I12 nx
  exact codeAny_compStart_dict (loop _ I4 st4) (T.self X.A 0 _ _ _ st4 (loop _ I4 st4))
theorem pe_dcN {kx vx tg iter : Expr} {scope : Scope} {own : List (Str × Nat)} {pos : Pos} {wi : TI} {g : TG} {tk tv : TE} (hu : X.A.units + 64 < cLine) (hc : X.calm = true) (hN : X.N.Nodup) (hi : PI X tg iter wi) (ok : BlkOk X.N X.env.scope scope own)
    (hg : ∀ (s : Shared) (H : Hp) (C : Addr) (cl : List (Str × Addr)) (fp : List Addr), PG (X.blk s H scope (compEnvC scope cl C X.env) fp) tg g)
    (hk : ∀ (s : Shared) (H : Hp) (C : Addr) (cl : List (Str × Addr)) (fp : List Addr), PE (X.blk s H scope (compEnvC scope cl C X.env) fp) kx tk)
    (hv : ∀ (s : Shared) (H : Hp) (C : Addr) (cl : List (Str × Addr)) (fp : List Addr), PE (X.blk s H scope (compEnvC scope cl C X.env) fp) vx tv) (hs : ∀ x, foldedSetIterable iter X.env x = pure x := by intro _; rfl) :
    PE X (.DictComp kx vx [⟨tg, iter, [], 0⟩] scope pos) (tDcN X.w wi g tk tv (own.map (·.2))) := by
  constructor
  intro pins s σ H Q I h
  rw [arm_eval_DictComp]
  refine dcN_core (use := Option.none) hu hc hN hi ok hg hk hv hs I h fun D ce s' m H' I' q hn f => ⟨m, hn, fun h'' sb => ?_⟩
  obtain ⟨f0, f1, f2, f3, f4, f5⟩ := f
  exact ⟨.ref D, H', I'.turned (t' := s'.toks) (fun b o hb e => (sb.2 b hb).trans e) f0 f1 f3 f4 f5, rfl, q⟩
theorem ps_setDcN {i : Nat} {y : Str} {py spos : Pos} {kx vx tg iter : Expr} {scope : Scope} {own : List (Str × Nat)} {pos : Pos} {wi : TI} {g : TG} {tk tv : TE} (hu : X.A.units + 64 < cLine) (hc : X.calm = true) (hN : X.N.Nodup) (hi : PI X tg iter wi) (ok : BlkOk X.N X.env.scope scope own)
    (hg : ∀ (s : Shared) (H : Hp) (C : Addr) (cl : List (Str × Addr)) (fp : List Addr), PG (X.blk s H scope (compEnvC scope cl C X.env) fp) tg g)
    (hk : ∀ (s : Shared) (H : Hp) (C : Addr) (cl : List (Str × Addr)) (fp : List Addr), PE (X.blk s H scope (compEnvC scope cl C X.env) fp) kx tk)
    (hv : ∀ (s : Shared) (H : Hp) (C : Addr) (cl : List (Str × Addr)) (fp : List Addr), PE (X.blk s H scope (compEnvC scope cl C X.env) fp) vx tv) (hs : ∀ x, foldedSetIterable iter X.env x = pure x := by intro _; rfl) (hy : X.N[i]? = some y) (hyl : X.env.scope.names.lookup y = some .local) (hsw : swapsWith (.DictComp kx vx [⟨tg, iter, [], 0⟩] scope pos) (some (.Name y py)) spos.line X.env = pure true) :
    PS X (.Assign [.Name y py] (.DictComp kx vx [⟨tg, iter, [], 0⟩] scope pos) spos) (tAsg (tDcN X.w wi g tk tv (own.map (·.2))) (gName i)) := by
  constructor
  intro pins s σ H D I h
  rw [exec_Assign_Name_used _ _ _ _ hsw]
  refine wpAny_bind (wpAny_standAt (wpAny_bind ?_))
  show wpAny _ X.A (do let _ ← comprehension (.DictComp kx vx [⟨tg, iter, [], 0⟩] scope pos) scope X.env (firstIterPos [⟨tg, iter, [], 0⟩] pos) newDict false (eval iter X.env) (some (assign (.Name y py) X.env))) _ _ s
  have h : tDcN X.w wi g tk tv (own.map (·.2)) σ H (fun x H1 => gName i x σ H1 D.nx) := h
  refine wpAny_bind (thn (dcN_core (Qf := fun _ s' => SP X pins D .next s') hu hc hN hi ok hg hk hv hs I h fun L C s' m H' I' q hn f => ?_) fun _ s' hq => wpAny_pure (wpAny_pure hq))
  show wpAny _ _ (assign (.Name y py) X.env (.ref L)) _ _ _
  refine wpAny_assign_Name (store_ok2 (v := V.ref L) I' hN hy (.inl hyl) rfl (fun s2 I2 ⟨a, sb, ha⟩ => ?_) (.inr hyl))
  obtain ⟨f0, f1, f2, f3, f4, f5⟩ := f
  have apart : C.locals ≠ a := ha.elim (fun z => by rw [z]; exact f1) (fun z e => f4 y a z e.symm)
  exact ⟨m, hn.sameBut sb apart, fun h3 sb3 => ⟨_, H', I2.turned (t' := s2.toks) (fun b o hb e => (sb3.2 b hb).trans e) f0 f1 f3 f4 f5, q⟩⟩
theorem sw_trueD {kx vx : Expr} {gs : List Comprehension} {scope : Scope} {pos py : Pos} {y : Str} {l : Nat} {env : Env} (hk : env.scope.kind = .function) (hy : env.scope.names.lookup y = some .local) (hl : (py.line == pos.line) = true)
    (ha : (scope.names.any fun (n, k) => n == y && (k == .local || k == .cell)) = false) : swapsWith (.DictComp kx vx gs scope pos) (some (.Name y py)) l env = pure true := by
  have k1 : env.blockKind = .function := by unfold Env.blockKind; rw [hk]; rfl
  have k2 : env.kindOf y = some .local := hy
  unfold swapsWith
  simp only [k1, k2, ha, Expr.pos, hl]
  rfl
end
theorem dcN_it {wo : World} {J : It} {n : Nat} {G : Hp → Prop} {Y : Nat → Hp → V → Hp → Prop} (w : Walk J n G Y) {g : TG} {tk tv : TE} {vs : List Nat} {σ : L2.St} {H1 : Hp} {D : Addr} {Qd : Hp → Prop} (Pv : Nat → Hp → Prop) (h0 : Pv 0 (upd H1 D (rawN wo D []))) (hG : ∀ i H, i ≤ n → Pv i H → G H)
    (hs : ∀ i x H H', i < n → Pv i H → Y i H x H' → g x (wipe σ vs) H' fun σ2 H2 => wipe σ2 vs = wipe σ vs ∧ tk σ2 H2 fun y H4 => tv σ2 H4 fun z H5 => ∃ b kvs k, y = .ref b ∧ DN wo H5 D kvs ∧ NKey H5 b k ∧ kvs.length < sizeLine ∧ Pv (i + 1) (upd H5 D (rawN wo D (putN kvs k b z)))) (hd : ∀ H, Pv n H → Qd H) :
    ∃ W : Nat → Nat → Hp → Prop, (∃ m, W 0 m (upd H1 D (rawN wo D []))) ∧ ∀ i m H, W i m H →
      (J.stop i H ∧ Qd H) ∨ (J.go i H ∧ ∃ Nx : Hp → Prop, (∀ H', Nx H' → ∃ m', m' < m ∧ W (i + 1) m' H') ∧ ∀ x H', J.yld i H x H' → g x (wipe σ vs) H' fun σ2 H2 => wipe σ2 vs = wipe σ vs ∧
        tk σ2 H2 fun y H4 => tv σ2 H4 fun z H5 => ∃ b kvs k, y = .ref b ∧ DN wo H5 D kvs ∧ NKey H5 b k ∧ kvs.length < sizeLine ∧ Nx (upd H5 D (rawN wo D (putN kvs k b z)))) := by
  refine ⟨fun i m H => m = n - i ∧ i ≤ n ∧ Pv i H, ⟨n, by simp, Nat.zero_le _, h0⟩, ?_⟩
  rintro i m H ⟨rfl, hi, p⟩
  have q := hG i H hi p
  by_cases hlt : i < n
  · exact .inr ⟨w.goes i H hlt q, Pv (i + 1), fun H' p' => ⟨n - (i + 1), by omega, rfl, hlt, p'⟩, fun x H' y => hs i x H H' hlt p (w.yields i H x H' hlt q y)⟩
  · have e : i = n := by omega
    subst e
    exact .inl ⟨w.stops H q, hd H p⟩
/-! ### {} and setdefault of a dict with nested keys -/
section
variable {X : Cx}
def tDNewN (w : World) : TE := fun _ H Q => ∀ p, H p = none → Q (.ref p) (upd H p (rawN w p []))
theorem pe_dnewN {pos : Pos} : PE X (.Dict [] [] pos) (tDNewN X.w) := ⟨fun pins s σ H Q I h =>
  wpAny_Dict_empty ⟨.ref s.heap.objs.size, _, I.laid (a := s.heap.objs.size) (o := rawN X.w s.heap.objs.size []) (t' := s.toks) (fun _ _ q => Heap.get?_push_of_some _ q) (Nat.le_refl _) (dn_empty s.heap I.big), rfl, h _ (I.hok.fresh (Nat.le_refl _))⟩⟩
def tNSetd (w : World) (td ty tx : TE) : TE := fun σ H Q => td σ H fun x H1 => ∃ a kvs1, x = .ref a ∧ DN w H1 a kvs1 ∧ ty σ H1 fun y H2 => tx σ H2 fun z H3 => ∃ kvs b k, y = .ref b ∧ DN w H3 a kvs ∧ NKey H3 b k ∧ kvs.length < sizeLine ∧
  (∀ v, atN kvs k = some v → Q v H3) ∧ (atN kvs k = none → Q z (upd H3 a (rawN w a (putN kvs k b z))))
variable {o e f : Expr} {td ty tx : TE} {apos cpos : Pos}
theorem pe_nsetd (hu : X.A.units + 64 < cLine) (ho : PE X o td) (he : PE X e ty) (hf : PE X f tx) (m : M2 X o "setdefault" apos e f cpos) : PE X (.Call (.Attribute o "setdefault" apos) [e, f] [] cpos) (tNSetd X.w td ty tx) := by
  refine ⟨fun pins s σ H Q I h => ?_⟩
  refine wpAny_Call_method m.base m.few m.line PySem.F.plainAttrs_dict PySem.F.slot_dict_setdefault PySem.F.type_dict_setdefault (thn (ho.run pins s σ H _ I h) fun u s1 ⟨x, H1, I1, rx, a, kvs1, ex, d, q1⟩ => ?_)
  subst ex
  obtain rfl : u = Value.ref a := rx
  obtain ⟨_, _, xs1, _, dd1⟩ := dn_rd I1.hok d
  refine ⟨dd1.typeIs, fun b q => ?_, ?_⟩
  · cases q
    obtain ⟨ob, _, _, h1, h2, _⟩ := dd1
    exact ⟨ob, h1, h2.2.1⟩
  rw [m.trees]
  refine Calls.callWith_builtin rfl (Calls.evalArgs_plain (Calls.spliced_cons (thn (he.run pins s1 σ H1 _ I1 q1) fun iv s2 ⟨y, H2, I2, ry, q2⟩ =>
    Calls.spliced_cons (thn (hf.run pins s2 σ H2 _ I2 q2) fun fv s3 ⟨z, H3, I3, rz, kvs, b, k, ey, dn, nk, hl, q3, q4⟩ => Calls.spliced_nil ?_))))
  subst ey
  obtain rfl : iv = Value.ref b := ry
  obtain ⟨le, nsys, xs, rel, dd⟩ := dn_rd I3.hok dn
  refine call_setdefault_heap (knd := PySem.nestedKind X.prog X.w) (hsz := by rw [← Paired.length rel]; exact le) (show X.A.units + 1 + 8 < cLine by omega) (nkey_is I3.hok nk) nsys dd (fun p hp => ?_) fun hn h' new only => ?_
  · have r := relN_at rel k
    rw [hp] at r
    cases q0 : atN kvs k with
    | none => rw [q0] at r; exact (show False from r).elim
    | some v => rw [q0] at r; exact ⟨v, H3, I3.tok _, r, q3 v q0⟩
  · have r := relN_at rel k
    rw [hn] at r
    cases q0 : atN kvs k with
    | some v => rw [q0] at r; exact (show False from r).elim
    | none =>
      have le2 : (putN kvs k b z).length ≤ sizeLine := Nat.le_trans (putN_len kvs k b z) hl
      refine ⟨z, _, ?_, rz, q4 q0⟩
      obtain ⟨o, es, ep, at_, _⟩ := id new
      exact d_write I3 (by rw [dn.1]; exact True.intro) only ⟨o, at_⟩ (dn_new le2 nsys (relN_put rel k b rz) new)
end
theorem join_cc (sep x y : Str) (r : List Str) : Txt.join sep (x :: y :: r) = x ++ sep ++ Txt.join sep (y :: r) := by
  unfold Txt.join
  rw [StrLaws.glued_eq_join, StrLaws.glued_eq_join]
  rfl
/-! ### corrections -/
structure Co where
  p : Pg
  r : Int
  w : Int
  o : Str
  n : Str
def dC (c : Co) : PyData := .tuple [dP c.p, .int c.r, .int c.w, .str c.o, .str c.n]
def Wd (z : Str) : Prop := tokB z = true ∧ ∀ x ∈ z.cps.toList, x < 128
def okC (c : Co) : Prop := okP c.p ∧ (0 ≤ c.r ∧ c.r ≤ 11) ∧ (0 ≤ c.w ∧ c.w ≤ 29) ∧ Wd c.o ∧ Wd c.n ∧ c.o ≠ c.n
def wC (c : Co) : List Str := ["on", fP c.p, toString c.r, toString c.w, "for", c.o, "read", c.n]
def fC (c : Co) : Str := Txt.join " " (wC c)
theorem Wd.free {z : Str} (h : Wd z) : 32 ∉ z.cps.toList := by
  have h := h.1
  unfold tokB at h
  simp only [Bool.and_eq_true, decide_eq_true_eq] at h
  exact h.2
theorem Wd.len {z : Str} (h : Wd z) : 1 ≤ z.length ∧ z.length ≤ 20 := by
  have h := h.1
  unfold tokB at h
  simp only [Bool.and_eq_true, decide_eq_true_eq] at h
  exact h.1
theorem num_free {i : Int} (h0 : 0 ≤ i) (h1 : i ≤ 99) : ∀ c ∈ ((toString i : Str)).cps.toList, 48 ≤ c ∧ c ≤ 57 := (num_ok h0 h1).2.2.1
theorem fL_sgn {L : List Int} (h : okL L) : ∀ c ∈ (fL L).cps.toList, c = 46 ∨ (48 ≤ c ∧ c ≤ 57) := by
  intro c hc
  unfold fL at hc
  rw [TL.join_eq] at hc
  rcases (mem_join _ _ _).mp hc with ⟨t, ht, h1⟩ | ⟨_, h1⟩
  · obtain ⟨i, hi, rfl⟩ := List.mem_map.mp ht
    exact .inr (num_free (h.2.2 i hi).1 (h.2.2 i hi).2 c h1)
  · revert h1
    have : TL.tl "." = [46] := by decide +kernel
    intro h1
    have h1 : c ∈ TL.tl "." := h1
    rw [this] at h1
    exact .inl (List.mem_singleton.mp h1)
theorem fP_sgn {p : Pg} (h : okP p) : ∀ c ∈ (fP p).cps.toList, c = 46 ∨ (48 ≤ c ∧ c ≤ 57) ∨ c = 97 ∨ c = 98 := by
  intro c hc
  unfold fP at hc
  rw [cps_toList_append] at hc
  rcases List.mem_append.mp hc with h1 | h1
  · rcases fL_sgn h.1 c h1 with h | h
    · exact .inl h
    · exact .inr (.inl h)
  · have ea : ("a" : Str).cps.toList = [97] := by decide +kernel
    have eb : ("b" : Str).cps.toList = [98] := by decide +kernel
    split at h1
    · rw [ea] at h1; exact .inr (.inr (.inl (List.mem_singleton.mp h1)))
    · rw [eb] at h1; exact .inr (.inr (.inr (List.mem_singleton.mp h1)))
theorem wC_sgn {c : Co} (h : okC c) : ∀ z ∈ wC c, ∀ x ∈ z.cps.toList, x ≠ 32 ∧ x < 128 := by
  obtain ⟨hp, hr, hw, ho, hn, _⟩ := h
  have lit : ∀ z : Str, z.cps.toList.all (fun x => decide (x ≠ 32) && decide (x < 128)) = true → ∀ x ∈ z.cps.toList, x ≠ 32 ∧ x < 128 := fun z e x hx => by
    have := List.all_eq_true.mp e x hx
    rw [Bool.and_eq_true] at this
    exact ⟨of_decide_eq_true this.1, of_decide_eq_true this.2⟩
  intro z hz
  simp only [wC, List.mem_cons, List.not_mem_nil, or_false] at hz
  rcases hz with rfl | rfl | rfl | rfl | rfl | rfl | rfl | rfl
  · exact lit _ (by decide +kernel)
  · intro x hx
    have := fP_sgn hp x hx
    omega
  · intro x hx
    have := num_free hr.1 (by omega) x hx
    omega
  · intro x hx
    have := num_free hw.1 (by omega) x hx
    omega
  · exact lit _ (by decide +kernel)
  · exact fun x hx => ⟨fun e => ho.free (e ▸ hx), ho.2 x hx⟩
  · exact lit _ (by decide +kernel)
  · exact fun x hx => ⟨fun e => hn.free (e ▸ hx), hn.2 x hx⟩
theorem split_fC {c : Co} (h : okC c) : Txt.split (fC c) " " = wC c := TL.split_join (s := 32) (S := []) (by rfl) (by decide +kernel) (by unfold wC; exact fun z => nomatch z) fun z hz hx => (wC_sgn h z hz 32 hx).1 rfl
theorem join_one (s x : Str) : Txt.join s [x] = x := by rw [TL.join_eq]; rfl
theorem fC_law (c : Co) : "on " ++ fP c.p ++ " " ++ toString c.r ++ " " ++ toString c.w ++ " for " ++ c.o ++ " read " ++ c.n = fC c := by
  unfold fC wC
  rw [join_cc, join_cc, join_cc, join_cc, join_cc, join_cc, join_cc, join_one]
  rw [show ("on " : Str) = "on" ++ " " by decide +kernel, show (" for " : Str) = " " ++ "for" ++ " " by decide +kernel, show (" read " : Str) = " " ++ "read" ++ " " by decide +kernel]
  simp only [Str.append_assoc]
theorem app_len (x y : Str) : (x ++ y).length = x.length + y.length := by
  show (x.cps ++ y.cps).size = _
  rw [Array.size_append]; rfl
theorem fC_len {c : Co} (h : okC c) : (fC c).length ≤ 80 := by
  obtain ⟨hp, hr, hw, ho, hn, _⟩ := h
  rw [← fC_law c]
  simp only [app_len]
  have := (fP_len hp).1
  have := (num_ok hr.1 (by omega)).1
  have := (num_ok hw.1 (by omega)).1
  have := ho.len.2
  have := hn.len.2
  have e1 : ("on " : Str).length = 3 := by decide +kernel
  have e2 : (" " : Str).length = 1 := by decide +kernel
  have e3 : (" for " : Str).length = 5 := by decide +kernel
  have e4 : (" read " : Str).length = 6 := by decide +kernel
  omega
theorem fC_sgn {c : Co} (h : okC c) : ∀ x ∈ (fC c).cps.toList, x < 128 := by
  intro x hx
  unfold fC at hx
  rw [TL.join_eq] at hx
  rcases (mem_join _ _ _).mp hx with ⟨t, ht, h1⟩ | ⟨_, h1⟩
  · exact (wC_sgn h t ht x h1).2
  · have : TL.tl " " = [32] := by decide +kernel
    have h1 : x ∈ TL.tl " " := h1
    rw [this] at h1
    rw [List.mem_singleton.mp h1]
    decide
/-! ### what is shown -/
/-- what repr serves -/
def Shown (d : PyData) : Prop := d.showable = true ∧ d.hasDict = false ∧ d.depth ≤ 8 ∧ d.shown.length ≤ sizeLine
def Sm (B k : Nat) (d : PyData) : Prop := d.showable = true ∧ d.hasDict = false ∧ d.depth ≤ k ∧ d.shown.length ≤ B
theorem sm_all {B k : Nat} : ∀ {ds : List PyData}, (∀ d ∈ ds, Sm B k d) → PyData.showableAll ds = true ∧ PyData.hasDictAll ds = false ∧ PyData.depthAll ds ≤ k ∧ ((PyData.shownAll ds).map (·.length)).sum ≤ ds.length * B ∧ (PyData.shownAll ds).length = ds.length
  | [], _ => ⟨rfl, rfl, Nat.zero_le _, Nat.zero_le _, rfl⟩
  | d :: r, h => by
    obtain ⟨h1, h2, h3, h4⟩ := h d (List.mem_cons_self ..)
    obtain ⟨k1, k2, k3, k4, k5⟩ := sm_all fun e he => h e (List.mem_cons_of_mem _ he)
    refine ⟨?_, ?_, ?_, ?_, ?_⟩
    · show (d.showable && PyData.showableAll r) = true
      rw [h1, k1]
      rfl
    · show (d.hasDict || PyData.hasDictAll r) = false
      rw [h2, k2]
      rfl
    · show max d.depth (PyData.depthAll r) ≤ k
      omega
    · show ((d.shown :: PyData.shownAll r).map (·.length)).sum ≤ (r.length + 1) * B
      rw [List.map_cons, List.sum_cons, Nat.add_mul, Nat.one_mul]
      omega
    · show (d.shown :: PyData.shownAll r).length = r.length + 1
      rw [List.length_cons, k5]
theorem sm_tup {B k : Nat} {ds : List PyData} (hl : ds.length ≤ 5) (h : ∀ d ∈ ds, Sm B k d) : Sm (5 * B + 13) (k + 1) (.tuple ds) := by
  obtain ⟨k1, k2, k3, k4, k5⟩ := sm_all h
  refine ⟨k1, k2, Nat.succ_le_succ k3, ?_⟩
  have := tupleText_len_le (PyData.shownAll ds)
  have hm : ds.length * B ≤ 5 * B := Nat.mul_le_mul_right _ hl
  show (tupleText (PyData.shownAll ds)).length ≤ _
  omega
theorem sm_shown {B k : Nat} {d : PyData} (h : Sm B k d) (hB : B ≤ 10000000) (hk : k ≤ 8) : Shown d := by
  obtain ⟨h1, h2, h3, h4⟩ := h
  refine ⟨h1, h2, by omega, ?_⟩
  rw [sizeLine_eq]
  omega
theorem Sm.mono {B B' k k' : Nat} {d : PyData} (h : Sm B k d) (hB : B ≤ B') (hk : k ≤ k') : Sm B' k' d := ⟨h.1, h.2.1, Nat.le_trans h.2.2.1 hk, Nat.le_trans h.2.2.2 hB⟩
theorem sm_tupN {B k n : Nat} {ds : List PyData} (hl : ds.length ≤ n) (h : ∀ d ∈ ds, Sm B k d) : Sm (n * B + 2 * n + 3) (k + 1) (.tuple ds) := by
  obtain ⟨k1, k2, k3, k4, k5⟩ := sm_all h
  refine ⟨k1, k2, Nat.succ_le_succ k3, ?_⟩
  have := tupleText_len_le (PyData.shownAll ds)
  have hm : ds.length * B ≤ n * B := Nat.mul_le_mul_right _ hl
  show (tupleText (PyData.shownAll ds)).length ≤ _
  omega
theorem sm_int {i : Int} (h : i.natAbs ≤ 200) : Sm 300 0 (.int i) := by
  refine ⟨decide_eq_true ?_, rfl, Nat.le_refl 0, ?_⟩
  · exact Nat.lt_of_le_of_lt (Nat.log2_le_self _) (by omega)
  · have := len_str_of_int i
    show (Str.ofString (toString i)).length ≤ 300
    omega
theorem sm_str {z : Str} {n : Nat} (h : z.length ≤ n) (hc : ∀ c ∈ z.cps.toList, c < 128) : Sm (10 * n + 2) 0 (.str z) := by
  refine ⟨rfl, rfl, Nat.le_refl 0, ?_⟩
  have := PySem.StrLaws.reprText_len z fun c h => Nat.lt_trans (hc c h) (by decide)
  show (reprText z).length ≤ _
  omega
theorem Tp.tups {H H' : Hp} (m : ∀ c ys, H c = some (.tup ys) → H' c = some (.tup ys)) : ∀ {u : V} {d : PyData}, Tp H u d → Tp H' u d := @Tp.rec H (fun u d _ => Tp H' u d) (fun us ds _ => TpAll H' us ds) .non .bl .int .str (fun h _ r => .tup (m _ _ h) r) .nil (fun _ _ a b => .cons a b)
theorem TpAll.tups {H H' : Hp} (m : ∀ c ys, H c = some (.tup ys) → H' c = some (.tup ys)) : ∀ {us : List V} {ds : List PyData}, TpAll H us ds → TpAll H' us ds
  | _, _, .nil => .nil
  | _, _, .cons a r => .cons (a.tups m) (r.tups m)
theorem tups_ins {x C dx : Addr} {fs : List (Str × V)} {H H' : Hp} (hx : H x = some (.ins C dx fs)) (b : But x H H') : ∀ c ys, H c = some (.tup ys) → H' c = some (.tup ys) := fun c ys e => b _ _ (fun z => by rw [z, hx] at e; cases e) e
theorem Tp.butI {x C dx : Addr} {fs : List (Str × V)} {H H' : Hp} {u : V} {d : PyData} (h : Tp H u d) (hx : H x = some (.ins C dx fs)) (b : But x H H') : Tp H' u d := h.tups (tups_ins hx b)
theorem TpAll.butI {x C dx : Addr} {fs : List (Str × V)} {H H' : Hp} {us : List V} {ds : List PyData} (h : TpAll H us ds) (hx : H x = some (.ins C dx fs)) (b : But x H H') : TpAll H' us ds := h.tups (tups_ins hx b)
theorem tpC_inv {H : Hp} {v : V} {c : Co} (h : Tp H v (dC c)) : ∃ (a : Addr) (pv : V), v = .ref a ∧ H a = some (.tup [pv, .int c.r, .int c.w, .str c.o, .str c.n]) ∧ Tp H pv (dP c.p) := by
  cases h with
  | tup h r =>
    cases r with
    | cons h1 r =>
      cases r with
      | cons h2 r =>
        cases r with
        | cons h3 r =>
          cases r with
          | cons h4 r =>
            cases r with
            | cons h5 r =>
              cases r
              cases h2
              cases h3
              cases h4
              cases h5
              exact ⟨_, _, rfl, h, h1⟩
def Pd : Nat → PyData → Prop
  | 0, _ => False
  | _ + 1, .int _ => True
  | _ + 1, .str z => PyData.strOk z = true
  | n + 1, .tuple ds => ds.length ≤ 1000 ∧ ∀ d ∈ ds, Pd n d
  | _ + 1, _ => False
theorem lay_pd : ∀ (n : Nat) (d : PyData), Pd n d → d.canLay0 = true ∧ d.depth ≤ n
  | 0, _, h => h.elim
  | _ + 1, .int _, _ => ⟨rfl, Nat.zero_le _⟩
  | _ + 1, .str z, h => ⟨h, Nat.zero_le _⟩
  | n + 1, .tuple ds, h => by
    have key : ∀ es : List PyData, (∀ d ∈ es, Pd n d) → PyData.canLayAll0 es = true ∧ PyData.depthAll es ≤ n := by
      intro es
      induction es with
      | nil => exact fun _ => ⟨rfl, Nat.zero_le _⟩
      | cons d r ih =>
        intro hh
        have h1 := lay_pd n d (hh d (List.mem_cons_self ..))
        have h2 := ih fun e he => hh e (List.mem_cons_of_mem _ he)
        refine ⟨?_, ?_⟩
        · show (d.canLay0 && PyData.canLayAll0 r) = true
          rw [h1.1, h2.1]
          rfl
        · show max d.depth (PyData.depthAll r) ≤ n
          omega
    have := key ds h.2
    exact ⟨this.1, Nat.succ_le_succ this.2⟩
  | _ + 1, .none, h => by simp [Pd] at h
  | _ + 1, .bool _, h => by simp [Pd] at h
  | _ + 1, .list _, h => by simp [Pd] at h
  | _ + 1, .dict _, h => by simp [Pd] at h
theorem layl_pd {n : Nat} {ds : List PyData} (h : ∀ d ∈ ds, Pd n d) : (PyData.list ds).canLay0 = true ∧ (PyData.list ds).depth ≤ n + 1 := by
  induction ds with
  | nil => exact ⟨rfl, Nat.succ_le_succ (Nat.zero_le _)⟩
  | cons d r ih =>
    have h1 := lay_pd n d (h d (List.mem_cons_self ..))
    have h2 := ih fun e he => h e (List.mem_cons_of_mem _ he)
    refine ⟨?_, ?_⟩
    · show (d.canLay0 && (PyData.list r).canLay0) = true
      rw [h1.1, h2.1]
      rfl
    · have h3 : PyData.depthAll r + 1 ≤ n + 1 := h2.2
      show max d.depth (PyData.depthAll r) + 1 ≤ n + 1
      omega
theorem shaped_pdl {n : Nat} {ds : List PyData} (h : ∀ d ∈ ds, Pd n d) (hn : n ≤ 60) : SeqAt.shaped (.list ds) = true := by
  have := layl_pd h
  unfold SeqAt.shaped
  rw [Bool.and_eq_true]
  exact ⟨this.1, decide_eq_true (by omega)⟩
theorem eqv_pdl {n : Nat} {ds : List PyData} (h : ∀ d ∈ ds, Pd n d) : PyData.eqv (.list ds) (.list ds) = true := SeqAt.eqv_refl _ (layl_pd h).1
theorem nk_ints : ∀ L : List Int, nkDs (L.map PyData.int) = L.map PySem.NestedKey.num
  | [] => rfl
  | i :: r => by
    show PySem.NestedKey.num i :: nkDs (r.map PyData.int) = _
    rw [nk_ints r]
    rfl
theorem nk_P (p : Pg) : nkD (dP p) = .tup [.tup (p.1.map PySem.NestedKey.num), .num p.2] := by
  show PySem.NestedKey.tup [.tup (nkDs (p.1.map PyData.int)), .num p.2] = _
  rw [nk_ints]
def keyC (c : Co) : PyData := .tuple [dP c.p, .int c.r, .int c.w]
theorem key_depth (c : Co) : (nkD (keyC c)).depth ≤ 8 := by
  have : ∀ L : List Int, PySem.NestedKey.depthAll (L.map PySem.NestedKey.num) = 0 := by
    intro L
    induction L with
    | nil => rfl
    | cons x r ih => show max 0 (PySem.NestedKey.depthAll (r.map PySem.NestedKey.num)) = 0; rw [ih]; rfl
  show (PySem.NestedKey.tup [nkD (dP c.p), .num c.r, .num c.w]).depth ≤ 8
  rw [nk_P]
  show max (max (PySem.NestedKey.depthAll (c.p.1.map PySem.NestedKey.num) + 1) (max 0 0) + 1) (max 0 (max 0 0)) + 1 ≤ 8
  rw [this]
  decide
theorem ok_tok {z : Str} (h : ∀ x ∈ z.cps.toList, x < 128) : PyData.strOk z = true := by
  show z.cps.all (· < 0x110000) = true
  rw [← Array.all_toList, List.all_eq_true]
  intro x hx
  exact decide_eq_true (Nat.lt_trans (h x hx) (by decide))
theorem pd_P {p : Pg} (h : okP p) (n : Nat) : Pd (n + 3) (dP p) := ⟨by show 2 ≤ 1000; decide, fun d hd => by
  rcases List.mem_cons.mp hd with e | e
  · rw [e]
    refine ⟨by rw [List.length_map]; have := h.1.1; omega, fun f hf => ?_⟩
    obtain ⟨i, _, rfl⟩ := List.mem_map.mp hf
    trivial
  · rw [List.mem_singleton.mp e]; trivial⟩
theorem pd_C {c : Co} (h : okC c) : Pd 4 (dC c) := ⟨by show 5 ≤ 1000; decide, fun d hd => by
  obtain ⟨hp, hr, hw, ho, hn, _⟩ := h
  simp only [List.mem_cons, List.not_mem_nil, or_false] at hd
  rcases hd with rfl | rfl | rfl | rfl | rfl
  · exact pd_P hp 0
  · trivial
  · trivial
  · exact ok_tok ho.2
  · exact ok_tok hn.2⟩
theorem pd_Cs {cs : List Co} (h : ∀ c ∈ cs, okC c) : ∀ d ∈ cs.map dC, Pd 4 d := fun d hd => by
  obtain ⟨c, hc, rfl⟩ := List.mem_map.mp hd
  exact pd_C (h c hc)
theorem pd_Ct {cs : List Co} (h : ∀ c ∈ cs, okC c) (l : cs.length ≤ 60) : Pd 5 (.tuple (cs.map dC)) := ⟨by rw [List.length_map]; omega, pd_Cs h⟩
theorem shaped_pd {n : Nat} {d : PyData} (h : Pd n d) (hn : n ≤ 60) : SeqAt.shaped d = true := by
  have := lay_pd n d h
  unfold SeqAt.shaped
  rw [Bool.and_eq_true]
  exact ⟨this.1, decide_eq_true (by omega)⟩
theorem eqv_pd {n : Nat} {d : PyData} (h : Pd n d) : PyData.eqv d d = true := SeqAt.eqv_refl _ (lay_pd n d h).1
theorem no_none (cs : List Co) : ((cs.map dC).any fun z => PyData.eqv z .none) = false := by
  rw [List.any_eq_false]
  intro z hz
  obtain ⟨c, _, rfl⟩ := List.mem_map.mp hz
  exact Bool.false_ne_true
theorem atN_mem {kvs : List NE} {k : PySem.NestedKey} {v : V} (h : atN kvs k = some v) : ∃ p ∈ kvs, p.2.2 = v := by
  unfold atN at h
  obtain ⟨p, hp, e⟩ := Option.map_eq_some_iff.mp h
  exact ⟨p, List.mem_of_find?_eq_some hp, e⟩
theorem none_of {H H' : Hp} (s : Same H H') {p : Addr} (n : H' p = none) : H p = none := by
  cases e : H p with
  | none => rfl
  | some o => rw [s _ _ e] at n; cases n
/-! ### tokens that the law draws -/
def SG : Str := "abmw0129/.-:()*+!\"#$&',;<=>?@ABCDEFGHIJKLMNOPQRSTUVWXYZ[\\]^_`cdefghijklnopqrstuvxyz345678{|}~"
theorem SG_len : SG.cps.toList.length = 93 := by decide +kernel
theorem all_sgn {z : Str} (h : z.cps.toList.all (fun x => decide (x ≠ 32) && decide (x < 128)) = true) : ∀ x ∈ z.cps.toList, x ≠ 32 ∧ x < 128 := fun x hx => by
  have := List.all_eq_true.mp h x hx
  rw [Bool.and_eq_true] at this
  exact ⟨of_decide_eq_true this.1, of_decide_eq_true this.2⟩
theorem SG_sgn : ∀ x ∈ SG.cps.toList, x ≠ 32 ∧ x < 128 := all_sgn (by decide +kernel)
theorem tok_of {z : Str} (l1 : 1 ≤ z.length) (l2 : z.length ≤ 20) (h : ∀ x ∈ z.cps.toList, x ≠ 32 ∧ x < 128) : Wd z := by
  refine ⟨?_, fun x hx => (h x hx).2⟩
  unfold tokB
  simp only [Bool.and_eq_true, decide_eq_true_eq]
  exact ⟨⟨l1, l2⟩, fun m => (h 32 m).1 rfl⟩
theorem Wd.sgn {z : Str} (h : Wd z) : ∀ x ∈ z.cps.toList, x ≠ 32 ∧ x < 128 := fun x hx => ⟨fun e => h.free (e ▸ hx), h.2 x hx⟩
theorem app_sgn {x y : Str} {P : Nat → Prop} (hx : ∀ c ∈ x.cps.toList, P c) (hy : ∀ c ∈ y.cps.toList, P c) : ∀ c ∈ (x ++ y).cps.toList, P c := fun c hc => by
  rw [cps_toList_append] at hc
  rcases List.mem_append.mp hc with h | h
  · exact hx c h
  · exact hy c h
theorem one_sgn {c : Nat} {P : Nat → Prop} (h : P c) : ∀ x ∈ (⟨#[c]⟩ : Str).cps.toList, P x := fun x hx => by
  rw [List.mem_singleton.mp (show x ∈ [c] from hx)]
  exact h
theorem str_len (z : Str) : z.length = z.cps.toList.length := rfl
theorem cut1 {z : Str} (h : 1 ≤ z.length) : (cutS z (some 1) none).cps.toList = z.cps.toList.drop 1 := by
  unfold cutS
  rw [HT.sIx_none, show HT.sIx z.length 0 (some 1) = 1 by
    have := HT.sIx_nat z.length 0 1
    rw [show ((1 : Nat) : Int) = 1 from rfl] at this
    rw [this]
    omega]
  show (((z.cps.toList.drop 1).take (z.length - 1)).toArray).toList = _
  rw [List.take_of_length_le (by rw [List.length_drop]; exact Nat.le_refl _)]
theorem cut1_len {z : Str} (h : 1 ≤ z.length) : (cutS z (some 1) none).length = z.length - 1 := by
  rw [str_len, cut1 h, List.length_drop]
  rfl
theorem tok_new {z y : Str} (hz : Wd z) (hy : y.length = 1) (hs : ∀ x ∈ y.cps.toList, x ≠ 32 ∧ x < 128) : Wd (y ++ cutS z (some 1) none) := by
  have l := hz.len
  refine tok_of (by rw [app_len]; omega) (by rw [app_len, cut1_len l.1]; omega) (app_sgn hs fun c hc => hz.sgn c ?_)
  rw [cut1 l.1] at hc
  exact List.mem_of_mem_drop hc
def WS : List Str := ["on", "for", "read", "0", "11", "7a", "7.0.1b", "clear", "leaf", "-"]
theorem WS_len : WS.length = 10 := rfl
theorem WS_tok : ∀ z ∈ WS, Wd z := fun z hz => by
  simp only [WS, List.mem_cons, List.not_mem_nil, or_false] at hz
  rcases hz with rfl | rfl | rfl | rfl | rfl | rfl | rfl | rfl | rfl | rfl <;> exact tok_of (by decide +kernel) (by decide +kernel) (all_sgn (by decide +kernel))
theorem shown_Ps {p : Pg} (h : okP p) : Sm 7578 2 (dP p) := by
  obtain ⟨⟨h1, h2, h3⟩, h4⟩ := h
  refine sm_tup (B := 1513) (k := 1) (by show 2 ≤ 5; decide) fun d hd => ?_
  rcases List.mem_cons.mp hd with e | e
  · rw [e]
    refine sm_tup (B := 300) (k := 0) (by rw [List.length_map]; omega) fun f hf => ?_
    obtain ⟨i, hi, rfl⟩ := List.mem_map.mp hf
    have := h3 i hi
    exact sm_int (by omega)
  · rw [List.mem_singleton.mp e]
    exact (sm_int (by omega)).mono (by decide) (by decide)
theorem shown_C {c : Co} (h : okC c) : Sm 37903 3 (dC c) := by
  obtain ⟨hp, hr, hw, ho, hn, _⟩ := h
  refine sm_tup (B := 7578) (k := 2) (by show 5 ≤ 5; decide) fun d hd => ?_
  simp only [List.mem_cons, List.not_mem_nil, or_false] at hd
  rcases hd with rfl | rfl | rfl | rfl | rfl
  · exact shown_Ps hp
  · exact (sm_int (by omega)).mono (by decide) (by decide)
  · exact (sm_int (by omega)).mono (by decide) (by decide)
  · exact (sm_str (n := 20) ho.len.2 ho.2).mono (by decide) (by decide)
  · exact (sm_str (n := 20) hn.len.2 hn.2).mono (by decide) (by decide)
theorem shown_Cs {cs : List Co} (h : ∀ c ∈ cs, okC c) (l : cs.length ≤ 60) : Shown (.tuple (cs.map dC)) := by
  refine sm_shown (sm_tupN (B := 37903) (k := 3) (n := 60) (by rw [List.length_map]; exact l) fun d hd => ?_) (by decide) (by decide)
  obtain ⟨c, hc, rfl⟩ := List.mem_map.mp hd
  exact shown_C (h c hc)
theorem shown_Fs {cs : List Co} (h : ∀ c ∈ cs, okC c) (l : cs.length ≤ 60) : Shown (dS (cs.map fC)) := by
  refine sm_shown (sm_tupN (B := 802) (k := 0) (n := 60) (by rw [List.length_map, List.length_map]; exact l) fun d hd => ?_) (by decide) (by decide)
  obtain ⟨z, hz, rfl⟩ := List.mem_map.mp hd
  obtain ⟨c, hc, rfl⟩ := List.mem_map.mp hz
  exact sm_str (fC_len (h c hc)) (fC_sgn (h c hc))
theorem fC_map (cs : List Co) : (cs.map fun c => V.str (fC c)) = (cs.map fC).map V.str := by rw [List.map_map]; rfl
def shI (i : Nat) : Str := (PyData.int (i : Int)).shown
theorem shI_okN {i : Nat} (h : i ≤ 20000) : (PyData.int (i : Int)).showable = true ∧ (PyData.int (i : Int)).hasDict = false ∧ (PyData.int (i : Int)).depth ≤ 8 ∧ (PyData.int (i : Int)).shown.length ≤ sizeLine := by
  refine ⟨decide_eq_true ?_, rfl, Nat.zero_le _, ?_⟩
  · by_cases z : ((i : Int)).natAbs = 0
    · rw [z]; decide
    · have : ((i : Int)).natAbs.log2 < 15 := (Nat.log2_lt z).mpr (by omega)
      omega
  · have := len_str_of_int (i : Int)
    show (Str.ofString (toString (i : Int))).length ≤ _
    rw [sizeLine_eq]
    omega
theorem sm_listN {B k n : Nat} {ds : List PyData} (hl : ds.length ≤ n) (h : ∀ d ∈ ds, Sm B k d) : Sm (n * B + 2 * n + 3) (k + 1) (.list ds) := by
  obtain ⟨k1, k2, k3, k4, k5⟩ := sm_all h
  refine ⟨k1, k2, Nat.succ_le_succ k3, ?_⟩
  have := listText_len_le (PyData.shownAll ds)
  have hm : ds.length * B ≤ n * B := Nat.mul_le_mul_right _ hl
  show (listText (PyData.shownAll ds)).length ≤ _
  omega

/-! ### corrections, as they are judged -/
def tkB : PyData → Bool
  | .str z => tokB z
  | _ => false
def sOf : PyData → Str
  | .str z => z
  | _ => Str.empty
def keptC (d : PyData) : Option Co := match items d with
  | some [p, r, w, o, n] => (match keptPD p with
    | none => none
    | some pg => if wI 0 11 r = true ∧ wI 0 29 w = true ∧ tkB o = true ∧ tkB n = true ∧ sOf o ≠ sOf n then some ⟨pg, toI r, toI w, sOf o, sOf n⟩ else none)
  | _ => none
def kcD (d : PyData) : PyData := match keptC d with
  | some c => dC c
  | none => .none
theorem keptC_at {d p r w o n : PyData} (h : items d = some [p, r, w, o, n]) : keptC d = match keptPD p with
    | none => none
    | some pg => if wI 0 11 r = true ∧ wI 0 29 w = true ∧ tkB o = true ∧ tkB n = true ∧ sOf o ≠ sOf n then some ⟨pg, toI r, toI w, sOf o, sOf n⟩ else none := by
  unfold keptC
  rw [h]
theorem keptC_len {d : PyData} {ds : List PyData} (h : items d = some ds) (l : ds.length ≠ 5) : keptC d = none := by
  unfold keptC
  rw [h]
  match ds, l with
  | [], _ => rfl
  | [_], _ => rfl
  | [_, _], _ => rfl
  | [_, _, _], _ => rfl
  | [_, _, _, _], _ => rfl
  | [_, _, _, _, _], l => exact absurd rfl l
  | _ :: _ :: _ :: _ :: _ :: _ :: _, _ => rfl
theorem keptC_atom {d : PyData} (h : items d = none) : keptC d = none := by
  unfold keptC
  rw [h]
theorem kept_dP {p : Pg} (h : okP p) : keptPD (dP p) = some p := by
  show (if wI 0 1 (.int p.2) = true then (match keptD (dL p.1) with | some L => some (L, toI (.int p.2)) | none => none) else none) = some p
  have e : wI 0 1 (.int p.2) = true := decide_eq_true (by have := h.2; omega)
  rw [if_pos e, kept_dL h.1]
  rfl
theorem kept_dC {c : Co} (h : okC c) : keptC (dC c) = some c := by
  obtain ⟨hp, hr, hw, ho, hn, hne⟩ := h
  rw [keptC_at (p := dP c.p) (r := .int c.r) (w := .int c.w) (o := .str c.o) (n := .str c.n) rfl, kept_dP hp]
  exact if_pos ⟨decide_eq_true hr, decide_eq_true hw, ho.1, hn.1, hne⟩
/-- the texts right in a row are short -/
def Sb (d : PyData) : Prop := ∀ ds, items d = some ds → ∀ z, PyData.str z ∈ ds → z.length ≤ 200
/-! ### shaped anew -/
mutual
def shp : Nat → PyData → PyData
  | w, .tuple ds => if w % 2 = 1 then .list (shps (w / 2) ds) else .tuple (shps (w / 2) ds)
  | _, .none => .none
  | _, .bool b => .bool b
  | _, .int i => .int i
  | _, .str z => .str z
  | _, .list ds => .list ds
  | _, .dict kvs => .dict kvs
def shps : Nat → List PyData → List PyData
  | _, [] => []
  | w, d :: r => shp w d :: shps w r
end
theorem shps_map (w : Nat) : ∀ ds : List PyData, shps w ds = ds.map (shp w)
  | [] => rfl
  | d :: r => by show shp w d :: shps w r = _; rw [shps_map w r]; rfl
theorem items_shp (w : Nat) (ds : List PyData) : items (shp w (.tuple ds)) = some (ds.map (shp (w / 2))) := by
  show items (if w % 2 = 1 then .list (shps (w / 2) ds) else .tuple (shps (w / 2) ds)) = _
  rw [shps_map]
  split <;> rfl
theorem toO_shp (w : Nat) (d : PyData) : toO (shp w d) = toO d := by
  cases d with
  | tuple ds =>
    show toO (if w % 2 = 1 then .list (shps (w / 2) ds) else .tuple (shps (w / 2) ds)) = none
    split <;> rfl
  | _ => rfl
theorem wI_shp (l m : Int) (w : Nat) (d : PyData) : wI l m (shp w d) = wI l m d := by
  cases d with
  | tuple ds =>
    show wI l m (if w % 2 = 1 then .list (shps (w / 2) ds) else .tuple (shps (w / 2) ds)) = false
    split <;> rfl
  | _ => rfl
theorem tkB_shp (w : Nat) (d : PyData) : tkB (shp w d) = tkB d := by
  cases d with
  | tuple ds =>
    show tkB (if w % 2 = 1 then .list (shps (w / 2) ds) else .tuple (shps (w / 2) ds)) = false
    split <;> rfl
  | _ => rfl
theorem sOf_shp (w : Nat) (d : PyData) : sOf (shp w d) = sOf d := by
  cases d with
  | tuple ds =>
    show sOf (if w % 2 = 1 then .list (shps (w / 2) ds) else .tuple (shps (w / 2) ds)) = Str.empty
    split <;> rfl
  | _ => rfl
theorem toI_shp (w : Nat) (d : PyData) : toI (shp w d) = toI d := by
  cases d with
  | tuple ds =>
    show toI (if w % 2 = 1 then .list (shps (w / 2) ds) else .tuple (shps (w / 2) ds)) = 0
    split <;> rfl
  | _ => rfl
theorem kept_shp (w : Nat) (d : PyData) : keptD (shp w d) = keptD d := by
  cases d with
  | tuple ds =>
    unfold keptD
    rw [items_shp]
    show keep ((ds.map (shp (w / 2))).map toO) = keep (ds.map toO)
    rw [List.map_map]
    congr 1
    exact List.map_congr_left fun d _ => toO_shp _ d
  | _ => rfl
theorem keptP_shp (w : Nat) (d : PyData) : keptPD (shp w d) = keptPD d := by
  cases d with
  | tuple ds =>
    unfold keptPD
    rw [items_shp]
    match ds with
    | [] => rfl
    | [_] => rfl
    | [x, y] =>
      show (if wI 0 1 (shp (w / 2) y) = true then (match keptD (shp (w / 2) x) with | some L => some (L, toI (shp (w / 2) y)) | none => none) else none) = _
      rw [wI_shp, kept_shp, toI_shp]
      rfl
    | _ :: _ :: _ :: _ => rfl
  | _ => rfl
theorem keptC_shp (w : Nat) (d : PyData) : keptC (shp w d) = keptC d := by
  cases d with
  | tuple ds =>
    by_cases l : ds.length = 5
    · match ds, l with
      | [p, r, x, o, n], _ =>
        rw [keptC_at (items_shp w [p, r, x, o, n]), keptC_at (d := .tuple [p, r, x, o, n]) rfl, keptP_shp, wI_shp, wI_shp, tkB_shp, tkB_shp, sOf_shp, sOf_shp, toI_shp, toI_shp]
    · rw [keptC_len (items_shp w ds) (by rw [List.length_map]; exact l), keptC_len (d := .tuple ds) rfl l]
  | _ => rfl
theorem str_shp {w : Nat} {d : PyData} {z : Str} (h : shp w d = .str z) : d = .str z := by
  cases d with
  | tuple ds =>
    have h : (if w % 2 = 1 then PyData.list (shps (w / 2) ds) else .tuple (shps (w / 2) ds)) = .str z := h
    split at h <;> cases h
  | str y => exact h
  | none => cases h
  | bool _ => cases h
  | int _ => cases h
  | list _ => cases h
  | dict _ => cases h
theorem Sb_shp {w : Nat} {d : PyData} (h : Sb d) : Sb (shp w d) := by
  cases d with
  | tuple ds =>
    intro es he z hz
    rw [items_shp] at he
    cases he
    obtain ⟨e, he, e2⟩ := List.mem_map.mp hz
    rw [str_shp e2] at he
    exact h ds rfl z he
  | _ => exact h
/-- so deep at most, no lists in it -/
def Dn : Nat → PyData → Prop
  | 0, _ => False
  | n + 1, .tuple ds => ds.length ≤ 1000 ∧ ∀ d ∈ ds, Dn n d
  | _ + 1, .list _ => False
  | _ + 1, .dict _ => False
  | _ + 1, _ => True
def firstN (ds : List PyData) : Option Nat := ds.findIdx? fun d => (keptC d).isNone
theorem firstN_at {ds : List PyData} {i : Nat} {d : PyData} (h : ∀ j, j < i → ∀ e, ds[j]? = some e → keptC e ≠ none) (hi : ds[i]? = some d) (e : keptC d = none) : firstN ds = some i := by
  obtain ⟨hl, rfl⟩ := List.getElem?_eq_some_iff.mp hi
  refine List.findIdx?_eq_some_iff_getElem.mpr ⟨hl, by rw [e]; rfl, fun j hj => ?_⟩
  have := h j hj _ (List.getElem?_eq_getElem (Nat.lt_trans hj hl))
  cases q : keptC ds[j] with
  | none => exact absurd q this
  | some c => simp
theorem firstN_some {ds : List PyData} {i : Nat} (h : firstN ds = some i) : ∃ d, ds[i]? = some d ∧ keptC d = none ∧ ∀ j, j < i → ∀ e, ds[j]? = some e → keptC e ≠ none := by
  obtain ⟨hl, h1, h2⟩ := List.findIdx?_eq_some_iff_getElem.mp h
  refine ⟨_, List.getElem?_eq_getElem hl, Option.isNone_iff_eq_none.mp h1, fun j hj e he q => ?_⟩
  obtain ⟨hl2, rfl⟩ := List.getElem?_eq_some_iff.mp he
  have := h2 j hj
  rw [q] at this
  exact absurd this (by decide)
theorem firstN_key : ∀ ds : List PyData, (∀ d ∈ ds, (keptC d).isNone = false) → ∃ cs : List Co, ds.map keptC = cs.map some
  | [], _ => ⟨[], rfl⟩
  | d :: r, h => by
    obtain ⟨cs, e⟩ := firstN_key r fun x hx => h x (List.mem_cons_of_mem _ hx)
    have := h d (List.mem_cons_self ..)
    cases q : keptC d with
    | none => rw [q] at this; cases this
    | some c => exact ⟨c :: cs, by rw [List.map_cons, List.map_cons, e, q]⟩
theorem firstN_none {ds : List PyData} (h : firstN ds = none) : ∃ cs : List Co, ds.map keptC = cs.map some := firstN_key ds fun d hd => List.findIdx?_eq_none_iff.mp h d hd
def Pe (n : Nat) (d : PyData) : Prop := d = .none ∨ Pd n d
theorem shaped_pel {n : Nat} {ds : List PyData} (h : ∀ d ∈ ds, Pe n d) (hn : n ≤ 60) : SeqAt.shaped (.list ds) = true := by
  have key : (PyData.list ds).canLay0 = true ∧ (PyData.list ds).depth ≤ n + 1 := by
    induction ds with
    | nil => exact ⟨rfl, Nat.succ_le_succ (Nat.zero_le _)⟩
    | cons d r ih =>
      have h1 : d.canLay0 = true ∧ d.depth ≤ n := by
        rcases h d (List.mem_cons_self ..) with rfl | h
        · exact ⟨rfl, Nat.zero_le _⟩
        · exact lay_pd n d h
      have h2 := ih fun e he => h e (List.mem_cons_of_mem _ he)
      refine ⟨?_, ?_⟩
      · show (d.canLay0 && (PyData.list r).canLay0) = true
        rw [h1.1, h2.1]
        rfl
      · have h3 : PyData.depthAll r + 1 ≤ n + 1 := h2.2
        show max d.depth (PyData.depthAll r) + 1 ≤ n + 1
        omega
  unfold SeqAt.shaped
  rw [Bool.and_eq_true]
  exact ⟨key.1, decide_eq_true (by omega)⟩
theorem map_kc {ds : List PyData} {cs : List Co} (h : ds.map keptC = cs.map some) : ds.map kcD = cs.map dC := by
  induction ds generalizing cs with
  | nil =>
    cases cs with
    | nil => rfl
    | cons c r => cases h
  | cons d r ih =>
    cases cs with
    | nil => cases h
    | cons c q =>
      rw [List.map_cons, List.map_cons] at h
      injection h with h1 h2
      rw [List.map_cons, List.map_cons, ih h2]
      unfold kcD
      rw [h1]
theorem shown_CsL {cs : List Co} (h : ∀ c ∈ cs, okC c) (l : cs.length ≤ 60) : Shown (.list (cs.map dC)) := by
  refine sm_shown (sm_listN (B := 37903) (k := 3) (n := 60) (by rw [List.length_map]; exact l) fun d hd => ?_) (by decide) (by decide)
  obtain ⟨c, hc, rfl⟩ := List.mem_map.mp hd
  exact shown_C (h c hc)
/-- pages that are none -/
def bad8 (p : Pg) : List PyData := [.none, .str "7a", .tuple [dL p.1], .tuple [dL p.1, .int 2], .tuple [dL p.1, .int (-1)], .tuple [dL p.1, .bool true], .tuple [dL p.1, .int p.2, .int 0], .tuple [.tuple [], .int p.2]]
def bad5 (p : Pg) : List PyData := [.tuple [.tuple ((p.1.dropLast ++ [0]).map PyData.int), .int p.2], .tuple [.tuple [.int 1, .int 2, .int 3, .int 4], .int p.2], .tuple [.tuple [.int 100], .int p.2], .tuple [.tuple [.int 0, .int (-1), .int 1], .int p.2], .tuple [.str "7", .int p.2]]
theorem dn_ints (n : Nat) (L : List Int) (l : L.length ≤ 1000) : Dn (n + 2) (.tuple (L.map PyData.int)) := ⟨by rw [List.length_map]; exact l, fun d hd => by
  obtain ⟨i, _, rfl⟩ := List.mem_map.mp hd
  trivial⟩
theorem badk {x : PyData} {s : Int} (h : keptD x = none) : keptPD (.tuple [x, .int s]) = none := by
  show (if wI 0 1 (.int s) = true then (match keptD x with | some L => some (L, toI (.int s)) | none => none) else none) = none
  rw [h]
  split <;> rfl
theorem kept_last0 {L : List Int} (h : okL L) : keptD (.tuple ((L.dropLast ++ [0]).map PyData.int)) = none := by
  have h9 : ok99 (L.dropLast ++ [0]) := fun i hi => by
    rcases List.mem_append.mp hi with h1 | h1
    · exact h.2.2 i (List.dropLast_subset _ h1)
    · rw [List.mem_singleton.mp h1]; decide
  show keep (((L.dropLast ++ [0]).map PyData.int).map toO) = none
  rw [toO_ints h9, keep_map, if_neg]
  rintro ⟨_, h2⟩
  apply h2
  rw [List.getLastD_eq_getLast?, List.getLast?_append]
  rfl
theorem bad_P {p : Pg} (ok : okP p) {d : PyData} (h : d ∈ bad8 p ++ bad5 p) : keptPD d = none ∧ Dn 4 d := by
  have l3 := ok.1.1
  have dl : Dn 3 (dL p.1) := dn_ints 1 p.1 (by omega)
  simp only [bad8, bad5, List.cons_append, List.nil_append, List.mem_cons, List.not_mem_nil, or_false] at h
  have two : ∀ {x : PyData} {s : Int}, Dn 3 x → Dn 4 (.tuple [x, .int s]) := fun h => ⟨by show 2 ≤ 1000; decide, fun d hd => by
    rcases List.mem_cons.mp hd with e | e
    · rw [e]; exact h
    · rw [List.mem_singleton.mp e]; trivial⟩
  rcases h with rfl | rfl | rfl | rfl | rfl | rfl | rfl | rfl | rfl | rfl | rfl | rfl | rfl
  · exact ⟨rfl, trivial⟩
  · exact ⟨rfl, trivial⟩
  · exact ⟨rfl, by show 1 ≤ 1000; decide, fun d hd => by rw [List.mem_singleton.mp hd]; exact dl⟩
  · exact ⟨rfl, two dl⟩
  · exact ⟨rfl, two dl⟩
  · exact ⟨rfl, by show 2 ≤ 1000; decide, fun d hd => by
      rcases List.mem_cons.mp hd with e | e
      · rw [e]; exact dl
      · rw [List.mem_singleton.mp e]; trivial⟩
  · exact ⟨rfl, by show 3 ≤ 1000; decide, fun d hd => by
      simp only [List.mem_cons, List.not_mem_nil, or_false] at hd
      rcases hd with rfl | rfl | rfl
      · exact dl
      · trivial
      · trivial⟩
  · exact ⟨badk rfl, two ⟨by show 0 ≤ 1000; decide, fun _ h => nomatch h⟩⟩
  · exact ⟨badk (kept_last0 ok.1), two (dn_ints 1 _ (by rw [List.length_append, List.length_dropLast]; show _ + 1 ≤ 1000; omega))⟩
  · exact ⟨badk (by decide +kernel), two (dn_ints 1 [1, 2, 3, 4] (by decide))⟩
  · exact ⟨badk (by decide +kernel), two (dn_ints 1 [100] (by decide))⟩
  · exact ⟨badk (by decide +kernel), two (dn_ints 1 [0, -1, 1] (by decide))⟩
  · exact ⟨badk rfl, two trivial⟩
/-! ### how deep, and what is shown, shaped anew -/
theorem Dn.succ : ∀ {n : Nat} {d : PyData}, Dn n d → Dn (n + 1) d
  | 0, _, h => h.elim
  | n + 1, .tuple ds, h => ⟨h.1, fun d hd => (h.2 d hd).succ⟩
  | _ + 1, .list _, h => h.elim
  | _ + 1, .dict _, h => h.elim
  | _ + 1, .none, _ => trivial
  | _ + 1, .bool _, _ => trivial
  | _ + 1, .int _, _ => trivial
  | _ + 1, .str _, _ => trivial
theorem dn_P (n : Nat) {p : Pg} (h : okP p) : Dn (n + 3) (dP p) := ⟨by show 2 ≤ 1000; decide, fun d hd => by
  have hd : d ∈ [dL p.1, .int p.2] := hd
  simp only [List.mem_cons, List.not_mem_nil, or_false] at hd
  rcases hd with rfl | rfl
  · have l3 := h.1.1
    exact dn_ints n p.1 (by omega)
  · trivial⟩
theorem dn_C (n : Nat) {c : Co} (h : okC c) : Dn (n + 4) (dC c) := ⟨by show 5 ≤ 1000; decide, fun d hd => by
  obtain ⟨hp, _⟩ := h
  have hd : d ∈ [dP c.p, .int c.r, .int c.w, .str c.o, .str c.n] := hd
  simp only [List.mem_cons, List.not_mem_nil, or_false] at hd
  rcases hd with rfl | rfl | rfl | rfl | rfl
  · exact dn_P n hp
  all_goals trivial⟩
theorem dn_Cs (n : Nat) {cs : List Co} (h : ∀ c ∈ cs, okC c) (l : cs.length ≤ 1000) : Dn (n + 5) (.tuple (cs.map dC)) := ⟨by rw [List.length_map]; exact l, fun d hd => by
  obtain ⟨c, hc, rfl⟩ := List.mem_map.mp hd
  exact dn_C n (h c hc)⟩
theorem sm_shpT {B k n w : Nat} {ds : List PyData} (hl : ds.length ≤ n) (h : ∀ d ∈ ds, Sm B k (shp (w / 2) d)) : Sm (n * B + 2 * n + 3) (k + 1) (shp w (.tuple ds)) := by
  have h' : ∀ e ∈ ds.map (shp (w / 2)), Sm B k e := fun e he => by
    obtain ⟨d, hd, rfl⟩ := List.mem_map.mp he
    exact h d hd
  show Sm _ _ (if w % 2 = 1 then .list (shps (w / 2) ds) else .tuple (shps (w / 2) ds))
  rw [shps_map]
  split
  · exact sm_listN (by rw [List.length_map]; exact hl) h'
  · exact sm_tupN (by rw [List.length_map]; exact hl) h'
theorem sm_shpP (w : Nat) {p : Pg} (h : okP p) : Sm 4900 2 (shp w (dP p)) := by
  obtain ⟨⟨h1, h2, h3⟩, h4⟩ := h
  refine (sm_shpT (n := 2) (B := 1513) (k := 1) (ds := [dL p.1, .int p.2]) (by show 2 ≤ 2; decide) fun d hd => ?_).mono (by decide) (by decide)
  rcases List.mem_cons.mp hd with e | e
  · rw [e]
    refine (sm_shpT (n := 5) (B := 300) (k := 0) (ds := p.1.map PyData.int) (by rw [List.length_map]; omega) fun f hf => ?_).mono (by decide) (by decide)
    obtain ⟨i, hi, rfl⟩ := List.mem_map.mp hf
    have := h3 i hi
    show Sm 300 0 (.int i)
    exact sm_int (by omega)
  · rw [List.mem_singleton.mp e]
    show Sm 1513 1 (.int p.2)
    exact (sm_int (by omega)).mono (by decide) (by decide)
theorem sm_shpC (w : Nat) {c : Co} (h : okC c) : Sm 37903 3 (shp w (dC c)) := by
  obtain ⟨hp, hr, hw, ho, hn, _⟩ := h
  refine (sm_shpT (n := 5) (B := 7578) (k := 2) (ds := [dP c.p, .int c.r, .int c.w, .str c.o, .str c.n]) (by show 5 ≤ 5; decide) fun d hd => ?_).mono (by decide) (by decide)
  simp only [List.mem_cons, List.not_mem_nil, or_false] at hd
  rcases hd with rfl | rfl | rfl | rfl | rfl
  · exact (sm_shpP _ hp).mono (by decide) (by decide)
  · exact (show Sm 300 0 (.int c.r) from sm_int (by omega)).mono (by decide) (by decide)
  · exact (show Sm 300 0 (.int c.w) from sm_int (by omega)).mono (by decide) (by decide)
  · exact (show Sm _ 0 (.str c.o) from sm_str (n := 20) ho.len.2 ho.2).mono (by decide) (by decide)
  · exact (show Sm _ 0 (.str c.n) from sm_str (n := 20) hn.len.2 hn.2).mono (by decide) (by decide)
theorem shown_shp (w : Nat) {cs : List Co} (h : ∀ c ∈ cs, okC c) (l : cs.length ≤ 60) : Shown (shp w (.tuple (cs.map dC))) := by
  refine sm_shown (sm_shpT (B := 37903) (k := 3) (n := 60) (by rw [List.length_map]; exact l) fun d hd => ?_) (by decide) (by decide)
  obtain ⟨c, hc, rfl⟩ := List.mem_map.mp hd
  exact sm_shpC _ (h c hc)
theorem firstN_shp (w : Nat) (ds : List PyData) : firstN (ds.map (shp w)) = firstN ds := by
  unfold firstN
  rw [List.findIdx?_map]
  congr 1
  funext d
  show (keptC (shp w d)).isNone = _
  rw [keptC_shp]
theorem map_shp (w : Nat) (ds : List PyData) : (ds.map (shp w)).map keptC = ds.map keptC := by
  rw [List.map_map]
  exact List.map_congr_left fun d _ => keptC_shp w d
theorem keptC_page {p r w o n : PyData} (h : keptPD p = none) : keptC (.tuple [p, r, w, o, n]) = none := by
  show (match keptPD p with | none => none | some pg => if wI 0 11 r = true ∧ wI 0 29 w = true ∧ tkB o = true ∧ tkB n = true ∧ sOf o ≠ sOf n then some (⟨pg, toI r, toI w, sOf o, sOf n⟩ : Co) else none) = none
  rw [h]
theorem keptC_if {p r w o n : PyData} (h : ¬ (wI 0 11 r = true ∧ wI 0 29 w = true ∧ tkB o = true ∧ tkB n = true ∧ sOf o ≠ sOf n)) : keptC (.tuple [p, r, w, o, n]) = none := by
  show (match keptPD p with | none => none | some pg => if wI 0 11 r = true ∧ wI 0 29 w = true ∧ tkB o = true ∧ tkB n = true ∧ sOf o ≠ sOf n then some (⟨pg, toI r, toI w, sOf o, sOf n⟩ : Co) else none) = none
  cases keptPD p with
  | none => rfl
  | some pg => exact if_neg h
theorem Sb_tup {ds : List PyData} (h : ∀ z, PyData.str z ∈ ds → z.length ≤ 200) : Sb (.tuple ds) := fun es e => by
  cases e
  exact h
def oddR : List PyData := [.int (-1), .int 12, .bool true, .none, .str "3"]
def oddW : List PyData := [.int (-1), .int 30, .bool false, .none, .str "0"]
def oddS : List PyData := [.str "", .str "abcdefghijklmnopqrstu", .str "a b", .none, .int 7, .tuple [.str "a"]]
theorem oddR_bad : ∀ d ∈ oddR, wI 0 11 d = false ∧ (∀ z, PyData.str z = d → z.length ≤ 200) ∧ Dn 4 d := fun d hd => by
  simp only [oddR, List.mem_cons, List.not_mem_nil, or_false] at hd
  rcases hd with rfl | rfl | rfl | rfl | rfl <;> refine ⟨by decide +kernel, fun z e => ?_, trivial⟩ <;> cases e
  decide +kernel
theorem oddW_bad : ∀ d ∈ oddW, wI 0 29 d = false ∧ (∀ z, PyData.str z = d → z.length ≤ 200) ∧ Dn 4 d := fun d hd => by
  simp only [oddW, List.mem_cons, List.not_mem_nil, or_false] at hd
  rcases hd with rfl | rfl | rfl | rfl | rfl <;> refine ⟨by decide +kernel, fun z e => ?_, trivial⟩ <;> cases e
  decide +kernel
theorem oddS_bad : ∀ d ∈ oddS, tkB d = false ∧ (∀ z, PyData.str z = d → z.length ≤ 200) ∧ Dn 4 d := fun d hd => by
  simp only [oddS, List.mem_cons, List.not_mem_nil, or_false] at hd
  rcases hd with rfl | rfl | rfl | rfl | rfl | rfl
  · exact ⟨by decide +kernel, fun z e => by cases e; decide +kernel, trivial⟩
  · exact ⟨by decide +kernel, fun z e => by cases e; decide +kernel, trivial⟩
  · exact ⟨by decide +kernel, fun z e => by cases e; decide +kernel, trivial⟩
  · exact ⟨by decide +kernel, (fun z e => by cases e), trivial⟩
  · exact ⟨by decide +kernel, (fun z e => by cases e), trivial⟩
  · exact ⟨by decide +kernel, (fun z e => by cases e), by show 1 ≤ 1000; decide, fun d hd => by rw [List.mem_singleton.mp hd]; trivial⟩
theorem bad_Pz {p : Pg} {d : PyData} (h : d ∈ bad8 p ++ bad5 p) (z : Str) (e : d = .str z) : z.length ≤ 200 := by
  simp only [bad8, bad5, List.cons_append, List.nil_append, List.mem_cons, List.not_mem_nil, or_false] at h
  rcases h with rfl | rfl | rfl | rfl | rfl | rfl | rfl | rfl | rfl | rfl | rfl | rfl | rfl <;> cases e
  decide +kernel
/-- the list spoilt so far -/
def InvB (cs : List Co) (ds : List PyData) (l : Nat) : Prop := ds.length = cs.length ∧ (∀ i, i < l → ds[i]? = (cs.map dC)[i]?) ∧ (l < cs.length → ∃ d, ds[l]? = some d ∧ keptC d = none) ∧ ∀ d ∈ ds, Sb d ∧ Dn 5 d ∧ ∀ c, keptC d = some c → okC c
theorem InvB.start {cs : List Co} (h : ∀ c ∈ cs, okC c) (sb : ∀ c, okC c → Sb (dC c)) : InvB cs (cs.map dC) cs.length := ⟨by rw [List.length_map], fun _ _ => rfl, fun h => absurd h (Nat.lt_irrefl _), fun d hd => by
  obtain ⟨c, hc, rfl⟩ := List.mem_map.mp hd
  refine ⟨sb c (h c hc), dn_C 1 (h c hc), fun c' e => ?_⟩
  rw [kept_dC (h c hc)] at e
  cases e
  exact h c hc⟩
theorem InvB.step {cs : List Co} {ds : List PyData} {l t : Nat} {d : PyData} (h : InvB cs ds l) (ht : t < cs.length) (k : keptC d = none) (s : Sb d) (n : Dn 5 d) : InvB cs (ds.set t d) (if t < l then t else l) := by
  obtain ⟨h1, h2, h3, h4⟩ := h
  refine ⟨by rw [List.length_set]; exact h1, fun i hi => ?_, fun hl => ?_, fun e he => ?_⟩
  · have : i < t ∧ i < l := by split at hi <;> omega
    rw [List.getElem?_set_ne (by omega)]
    exact h2 i this.2
  · by_cases c : t ≤ l
    · have : (if t < l then t else l) = t := by split <;> omega
      rw [this]
      exact ⟨d, by rw [List.getElem?_set_self (by omega)], k⟩
    · have : (if t < l then t else l) = l := by split <;> omega
      rw [this] at hl ⊢
      rw [List.getElem?_set_ne (by omega)]
      exact h3 hl
  · rcases List.mem_or_eq_of_mem_set he with h | h
    · exact h4 e h
    · rw [h]
      exact ⟨s, n, fun c e => by rw [k] at e; cases e⟩
theorem InvB.first {cs : List Co} {ds : List PyData} {l : Nat} (h : InvB cs ds l) (ok : ∀ c ∈ cs, okC c) (hl : l < cs.length) : firstN ds = some l := by
  obtain ⟨d, e, k⟩ := h.2.2.1 hl
  refine firstN_at (fun j hj e he z => ?_) e k
  rw [h.2.1 j hj, List.getElem?_map] at he
  cases q : cs[j]? with
  | none => rw [q] at he; cases he
  | some c =>
    rw [q] at he
    cases he
    rw [kept_dC (ok c (List.mem_of_getElem? q))] at z
    cases z
theorem InvB.dn {cs : List Co} {ds : List PyData} {l : Nat} (h : InvB cs ds l) (l62 : cs.length ≤ 62) : Dn 7 (.tuple ds) := ⟨by have := h.1; omega, fun d hd => (h.2.2.2 d hd).2.1.succ⟩
theorem parts_C {c : Co} (h : okC c) : ∀ e ∈ [dP c.p, PyData.int c.r, .int c.w, .str c.o, .str c.n], keptC e = none ∧ Sb e := fun e he => by
  simp only [List.mem_cons, List.not_mem_nil, or_false] at he
  rcases he with rfl | rfl | rfl | rfl | rfl
  · refine ⟨keptC_len (ds := [dL c.p.1, .int c.p.2]) rfl (by show 2 ≠ 5; decide), fun ds e => ?_⟩
    cases e
    intro z hz
    simp only [List.mem_cons, List.not_mem_nil, or_false] at hz
    rcases hz with hz | hz <;> cases hz
  · exact ⟨keptC_atom rfl, fun ds e => by cases e⟩
  · exact ⟨keptC_atom rfl, fun ds e => by cases e⟩
  · exact ⟨keptC_atom rfl, fun ds e => by cases e⟩
  · exact ⟨keptC_atom rfl, fun ds e => by cases e⟩
theorem flS {zs : List Str} : ∀ z ∈ zs.map V.str, flatB z = true := fun z hz => by
  obtain ⟨_, _, rfl⟩ := List.mem_map.mp hz
  rfl
section
variable {P : Program} {w : World} {K : PySem.W.Frag} {mg : Str → Option Value} {base : Heap}
/-! ### the promises -/
theorem nf_self {K : PySem.W.Frag} {C : Addr} : PySem.W.notFirst K C (.ref C) = true := by
  unfold PySem.W.notFirst
  simp
def sp_is_integer (K : PySem.W.Frag) : Sp := fun vs H Q _ => ∃ (v : V) (d : PyData), vs = [v] ∧ Dp K H v d ∧ Q (.bl (isI d)) H
def sp_is_within (K : PySem.W.Frag) : Sp := fun vs H Q _ => ∃ (v : V) (d : PyData) (l m : Int), vs = [v, .int l, .int m] ∧ Dp K H v d ∧ Q (.bl (wI l m d)) H
def sz (l m : Int) (d : PyData) : Bool := match items d with
  | some ds => decide (l ≤ (ds.length : Int) ∧ (ds.length : Int) ≤ m)
  | none => false
def sp_is_sized (K : PySem.W.Frag) : Sp := fun vs H Q _ => ∃ (v : V) (d : PyData) (l m : Int), vs = [v, .int l, .int m] ∧ Dp K H v d ∧ ∀ H', Same H H' → Q (.bl (sz l m d)) H'
def sp_source (K : PySem.W.Frag) : Sp := fun vs H Q _ => ∃ (a : Addr) (ns : List Int) (k : Nat), vs = [.ref a, .int k] ∧ SqL K H a (ns.map V.int) ∧ ∀ p H', Same H H' → H p = none → Src H' p → Q (.ref p) H'
def sp_pick (K : PySem.W.Frag) : Sp := fun vs H Q _ => ∃ (a : Addr) (m : Int), vs = [.ref a, .int m] ∧ Src H a ∧ 0 ≤ m ∧ m ≤ 1000000 ∧ ∀ r H', Src H' a → But a H H' → 0 ≤ r → (r < m ∨ r = 0 ∧ m = 0) → Q (.int r) H'
def TL (H : Hp) (x : V) (L : List Int) : Prop := ∃ l, x = .ref l ∧ H l = some (.tup (L.map V.int))
/-- listed corrections -/
def ErAt (C : Addr) (H : Hp) (v : V) (cs : List Co) : Prop := ∃ (x dx a : Addr) (t : V) (us : List V), v = .ref x ∧ H x = some (.ins C dx [("corrections", .ref a), ("_turns", t)]) ∧ H a = some (.tup us) ∧ TpAll H us (cs.map dC)
theorem ErAt.nl {C : Addr} {H H' : Hp} {v : V} {cs : List Co} (m : NL H H') (h : ErAt C H v cs) : ErAt C H' v cs := by
  obtain ⟨x, dx, a, t, us, e, h1, h2, h3⟩ := h
  exact ⟨x, dx, a, t, us, e, m _ _ h1 (fun _ z => nomatch z), m _ _ h2 (fun _ z => nomatch z), h3.nl m⟩
def CsAt (H : Hp) (us : List V) (cs : List Co) : Prop := TpAll H us (cs.map dC) ∧ (∀ c ∈ cs, okC c) ∧ cs.length ≤ 60
def sp_token (K : PySem.W.Frag) : Sp := fun vs H Q _ => ∃ (a : Addr) (m : Int), vs = [.ref a, .int m] ∧ Src H a ∧ 1 ≤ m ∧ m ≤ 20 ∧ ∀ z H', Src H' a → But a H H' → Wd z → Q (.str z) H'
def sp_other (K : PySem.W.Frag) : Sp := fun vs H Q _ => ∃ z : Str, vs = [.str z] ∧ Wd z ∧ ∀ y : Str, Wd y → z ≠ y → Q (.str y) H
def sp_label (K : PySem.W.Frag) : Sp := fun vs H Q _ => ∃ a : Addr, vs = [.ref a] ∧ Src H a ∧ ∀ p (L : List Int) H', Src H' a → But a H H' → H' p = some (.tup (L.map V.int)) → okL L → Q (.ref p) H'
def sp_TooMany_init (K : PySem.W.Frag) (C : Addr) : Sp := fun vs H Q _ => ∃ (a : Addr) (v : V), vs = [.ref a, v] ∧ OexC K C ∧ PySem.W.findIn K (.ref C) "word" = some none ∧ H a = some (exo a C none) ∧ ∀ dx, H dx = none → dx ≠ a → Q .non (upd (upd H dx (exd dx [("word", v)])) a (exo a C (some dx)))
def sp_BadCorrection_init (K : PySem.W.Frag) (C : Addr) : Sp := fun vs H Q _ => ∃ (a : Addr) (v : V), vs = [.ref a, v] ∧ OexC K C ∧ PySem.W.findIn K (.ref C) "place" = some none ∧ H a = some (exo a C none) ∧ ∀ dx, H dx = none → dx ≠ a → Q .non (upd (upd H dx (exd dx [("place", v)])) a (exo a C (some dx)))
def sp_turns_at_places (K : PySem.W.Frag) : Sp := fun vs H Q _ => ∃ (a : Addr) (us : List V) (cs : List Co), vs = [.ref a] ∧ H a = some (.tup us) ∧ CsAt H us cs ∧ ∀ t H', Same H H' → Q (.ref t) H'
theorem same_made {H0 H1 : Hp} {a dx C : Addr} {f : Str} {v : V} (s : Same H0 H1) (na : H1 a = none) (nd : upd H1 a (exo a C none) dx = none) (ne : dx ≠ a) :
    Same H0 (upd (del (upd (upd (upd H1 a (exo a C none)) dx (exd dx [(f, v)])) a (exo a C (some dx))) a) dx (.xd [(f, v)])) := fun b o e => by
  have e1 := s b o e
  have nd1 : H1 dx = none := by rw [upd_ne ne] at nd; exact nd
  have ba : b ≠ a := ne_of_none e1 na
  have bd : b ≠ dx := ne_of_none e1 nd1
  rw [upd_ne bd, del_ne ba, upd_ne ba, upd_ne bd, upd_ne ba]
  exact e1
theorem noPart {σ : L2.St} {H : Hp} {Q : Option Int → Hp → Prop} (h : Q none H) : tNoPart σ H Q := h
theorem nf_ty {K : PySem.W.Frag} {C : Addr} {t : String} (h : PySem.W.subIn K (.type t) (.ref C) = some false) : PySem.W.notFirst K C (.type t) = true := by
  unfold PySem.W.notFirst
  rw [h]
  simp
/-- no list and no tuple -/
def NoRow (K : PySem.W.Frag) (H : Hp) (v : V) : Prop := ∃ t : Value, (∀ H', Same H H' → TyX K H' v t) ∧ PySem.W.kitAny K t [.type "tuple", .type "list"] = some false
def sp_is_tuple (K : PySem.W.Frag) : Sp := fun vs H Q _ => ∃ v : V, vs = [v] ∧ ((NoRow K H v ∧ ∀ H', Same H H' → Q (.bl false) H') ∨ ∃ d : PyData, Dp K H v d ∧ ∀ H', Same H H' → Q (.bl (items d).isSome) H')
def sp_kept_label (K : PySem.W.Frag) : Sp := fun vs H Q _ => ∃ (v : V) (d : PyData) (H0 : Hp), vs = [v] ∧ Td H0 H v d ∧ (keptD d = none → ∀ H', Same H H' → Q .non H') ∧ (∀ L, keptD d = some L → ∀ y H', Same H H' → TL H' y L → Q y H')
def sp_kept_page (K : PySem.W.Frag) : Sp := fun vs H Q _ => ∃ (v : V) (d : PyData) (H0 : Hp), vs = [v] ∧ Td H0 H v d ∧ (keptPD d = none → ∀ H', Same H H' → Q .non H') ∧ (∀ p, keptPD d = some p → ∀ y H', Same H H' → Tp H' y (dP p) → Q y H')
def sp_is_token (K : PySem.W.Frag) : Sp := fun vs H Q _ => ∃ (v : V) (d : PyData) (H0 : Hp), vs = [v] ∧ Td H0 H v d ∧ (∀ z, d = .str z → z.length ≤ 200) ∧ Q (.bl (tkB d)) H
def sp_kept_correction (K : PySem.W.Frag) : Sp := fun vs H Q _ => ∃ (v : V) (d : PyData) (H0 : Hp), vs = [v] ∧ Td H0 H v d ∧ Sb d ∧ ∀ y H', Same H H' → Tp H' y (kcD d) → Q y H'
/-- what may be handed over as corrections -/
def JIn (ds : List PyData) : Prop := ds.length ≤ 1000 ∧ (∀ e ∈ ds, Sb e) ∧ ∀ e ∈ ds, ∀ c, keptC e = some c → okC c
def sp_judged_corrections (K : PySem.W.Frag) (CE CT CC : Addr) : Sp := fun vs H Q E => ∃ v : V, vs = [v] ∧ ((NoRow K H v ∧ ∀ H', Same H H' → E (.ref CE) none H') ∨ ∃ (d : PyData) (H0 : Hp), Td H0 H v d ∧
  (items d = none → ∀ H', Same H H' → E (.ref CE) none H') ∧ ∀ ds, items d = some ds → JIn ds ∧ (60 < ds.length → ∀ H' dd, Same H H' → H' dd = some (.xd [("word", .str "correction")]) → E (.ref CT) (some dd) H') ∧
  (ds.length ≤ 60 → (∀ i : Nat, firstN ds = some i → ∀ H' dd, Same H H' → H' dd = some (.xd [("place", .int i)]) → E (.ref CC) (some dd) H') ∧ (∀ cs : List Co, ds.map keptC = cs.map some → ∀ p us' H', Same H H' → H' p = some (.tup us') → TpAll H' us' (cs.map dC) → Q (.ref p) H')))
def sp_Errata_init (K : PySem.W.Frag) (C CE CT CC : Addr) : Sp := fun vs H Q E => ∃ (x dx : Addr) (v : V), vs = [.ref x, v] ∧ H x = some (.ins C dx []) ∧ ((NoRow K H v ∧ ∀ H', But x H H' → E (.ref CE) none H') ∨ ∃ (d : PyData) (H0 : Hp), Td H0 H v d ∧
  (items d = none → ∀ H', But x H H' → E (.ref CE) none H') ∧ ∀ ds, items d = some ds → JIn ds ∧ (60 < ds.length → ∀ H' dd, But x H H' → H' dd = some (.xd [("word", .str "correction")]) → E (.ref CT) (some dd) H') ∧
  (ds.length ≤ 60 → (∀ i : Nat, firstN ds = some i → ∀ H' dd, But x H H' → H' dd = some (.xd [("place", .int i)]) → E (.ref CC) (some dd) H') ∧ (∀ cs : List Co, ds.map keptC = cs.map some → ∀ H', But x H H' → ErAt C H' (.ref x) cs → Q .non H')))
def sp_Errata_len (K : PySem.W.Frag) (C : Addr) : Sp := fun vs H Q _ => ∃ (v : V) (cs : List Co), vs = [v] ∧ ErAt C H v cs ∧ Q (.int cs.length) H
abbrev sp_Errata_iter (K : PySem.W.Frag) (C : Addr) : Nat → Sp := spIter K C "corrections"
def sp_Errata_eq (K : PySem.W.Frag) (C : Addr) : Sp := fun vs H Q _ => ∃ (v w : V) (cs : List Co), vs = [v, w] ∧ ErAt C H v cs ∧ (∀ c ∈ cs, okC c) ∧ cs.length ≤ 60 ∧ ((∃ ds : List Co, ErAt C H w ds ∧ (∀ c ∈ ds, okC c) ∧ ds.length ≤ 60 ∧ Q (.bl (PyData.eqv (.tuple (cs.map dC)) (.tuple (ds.map dC)))) H) ∨ (∃ t : Value, TyX K H w t ∧ PySem.W.kitOne K t (.ref C) = some false ∧ Q (.bl false) H))
def sp_law_is_integer (K : PySem.W.Frag) : Sp := fun vs H Q _ => ∃ i : Int, vs = [.int i] ∧ Q (.bl true) H
def sp_correction (K : PySem.W.Frag) : Sp := fun vs H Q _ => ∃ a : Addr, vs = [.ref a] ∧ Src H a ∧ ∀ y c H', Src H' a → But a H H' → Tp H' y (dC c) → okC c → Q y H'
def sp_spoilt_page (K : PySem.W.Frag) : Sp := fun vs H Q _ => ∃ (v : V) (p : Pg) (k : Nat), vs = [v, .int k] ∧ k < 13 ∧ Tp H v (dP p) ∧ okP p ∧ ∀ y d H', Same H H' → Tp H' y d → keptPD d = none → Dn 4 d → (∀ z, d = .str z → z.length ≤ 200) → Q y H'
def sp_spoilt (K : PySem.W.Frag) : Sp := fun vs H Q _ => ∃ (a : Addr) (v : V) (c : Co), vs = [.ref a, v] ∧ Src H a ∧ Tp H v (dC c) ∧ okC c ∧ ∀ y d H', Src H' a → But a H H' → Tp H' y d → keptC d = none → Sb d → Dn 5 d → Q y H'
def sp_shaped (K : PySem.W.Frag) (n : Nat) : Sp := fun vs H Q _ => ∃ (v : V) (d : PyData) (w : Nat), vs = [v, .int w] ∧ Tp H v d ∧ Dn n d ∧ ∀ y H', Same H H' → Td H H' y (shp w d) → Q y H'
def sp_made (K : PySem.W.Frag) (C : Addr) : Sp := fun vs H Q _ => ∃ v : V, vs = [v] ∧ ((NoRow K H v ∧ ∀ p H', Same H H' → H' p = some (.lst [.str "errata"]) → Q (.ref p) H') ∨ ∃ (d : PyData) (H0 : Hp), Td H0 H v d ∧
  (items d = none → ∀ p H', Same H H' → H' p = some (.lst [.str "errata"]) → Q (.ref p) H') ∧ ∀ ds, items d = some ds → JIn ds ∧ (60 < ds.length → ∀ p H', Same H H' → H' p = some (.lst [.str "many", .str "'correction'"]) → Q (.ref p) H') ∧
  (ds.length ≤ 60 → (∀ i : Nat, firstN ds = some i → ∀ p H', Same H H' → H' p = some (.lst [.str "bad", .str (shI i)]) → Q (.ref p) H') ∧ (∀ cs : List Co, ds.map keptC = cs.map some → ∀ p e H', Same H H' → H p = none → H' p = some (.lst [.str "good", e]) → ErAt C H' e cs → Q (.ref p) H')))
def sp_keeps (K : PySem.W.Frag) (C : Addr) : Sp := fun vs H Q _ => ∃ (v : V) (b : Addr) (us : List V) (cs : List Co), vs = [v, .ref b] ∧ ErAt C H v cs ∧ H b = some (.lst us) ∧ CsAt H us cs ∧ ∀ H', Same H H' → Q (.bl true) H'
def sp_equals (K : PySem.W.Frag) (C : Addr) : Sp := fun vs H Q _ => ∃ (v : V) (b : Addr) (us : List V) (cs : List Co), vs = [v, .ref b] ∧ ErAt C H v cs ∧ H b = some (.lst us) ∧ CsAt H us cs ∧ ∀ H', Same H H' → Q (.bl true) H'
def sp_odd_thing (K : PySem.W.Frag) (C : Addr) : Sp := fun vs H Q _ => ∃ (a b : Addr) (us : List V) (cs : List Co), vs = [.ref a, .ref b] ∧ Src H a ∧ b ≠ a ∧ H b = some (.lst us) ∧ CsAt H us cs ∧ ∀ (p q : Addr) (v : V) (zs : List Str) H', Src H' a → But a H H' → H' p = some (.lst [v, .ref q]) → H' q = some (.lst (zs.map V.str)) →
  ((∃ c : Co, Tp H' v (dC c) ∧ okC c ∧ zs = (["bad", "0"] : List Str)) ∨ (NoRow K H' v ∧ zs = (["errata"] : List Str)) ∨ (∃ d, Tp H' v d ∧ items d = none ∧ zs = (["errata"] : List Str))) → Q (.ref p) H'
def sp_good_asked (K : PySem.W.Frag) : Sp := fun vs H Q _ => ∃ (b : Addr) (us : List V) (cs : List Co) (w : Nat), vs = [.ref b, .int w] ∧ H b = some (.lst us) ∧ CsAt H us cs ∧ ∀ H', Q (.bl true) H'
def sp_law (K : PySem.W.Frag) : Sp := fun vs H Q _ => ∃ (a : Addr) (ns : List Int), vs = [.ref a] ∧ SqL K H a (ns.map V.int) ∧ ns.length ≤ 63 ∧ ∀ H', Q (.bl true) H'
theorem NoRow.same {K : PySem.W.Frag} {H H' : Hp} {v : V} (h : NoRow K H v) (s : Same H H') : NoRow K H' v := by
  obtain ⟨t, a, b⟩ := h
  exact ⟨t, fun H2 s2 => a H2 (s.trans s2), b⟩
theorem sl_goT {K : PySem.W.Frag} {H : Hp} {Q : VK} {a : Addr} {xs : List V} {lo hi : Option Int} (ha : H a = some (.tup xs)) (h : ∀ c H', Same H H' → H' c = some (.tup (cutV xs lo hi)) → Q (.ref c) H') : rSlA K (.ref a) lo hi H Q :=
  ⟨a, xs, rfl, .inl (.inl ha), fun e => h a H (Same.refl H) (by rw [cut_whole e]; exact ha), fun _ p np => h p _ (same_upd np) upd_same⟩
theorem cat_goT {K : PySem.W.Frag} {H : Hp} {Q : VK} {a b : Addr} {xs ys : List V} (ha : H a = some (.tup xs)) (hb : H b = some (.tup ys)) (l : xs.length + ys.length ≤ 1000) (h : ∀ c H', Same H H' → H' c = some (.tup (xs ++ ys)) → Q (.ref c) H') : rCatA K (.ref a) (.ref b) H Q :=
  ⟨a, b, xs, ys, rfl, rfl, .inl (.inl ha), .inl (.inl hb), Nat.le_of_lt (smallM (by omega)), fun e => h b H (Same.refl H) (by rw [e]; exact hb), fun _ e => h a H (Same.refl H) (by rw [e, List.append_nil]; exact ha), fun _ _ p np => h p _ (same_upd np) upd_same⟩
theorem sb_C {c : Co} (h : okC c) : Sb (dC c) := fun ds e z hz => by
  cases e
  simp only [List.mem_cons, List.not_mem_nil, or_false] at hz
  rcases hz with h1 | h1 | h1 | h1 | h1
  · cases h1
  · cases h1
  · cases h1
  · cases h1; have := h.2.2.2.1.len.2; omega
  · cases h1; have := h.2.2.2.2.1.len.2; omega
theorem kept_Cs {cs : List Co} (h : ∀ c ∈ cs, okC c) : (cs.map dC).map keptC = cs.map some := by
  rw [List.map_map]
  exact List.map_congr_left fun c hc => kept_dC (h c hc)
theorem jin_C {cs : List Co} (h : ∀ c ∈ cs, okC c) (l : cs.length ≤ 1000) : JIn (cs.map dC) := by
  refine ⟨by rw [List.length_map]; exact l, fun e he => ?_, fun e he c ec => ?_⟩
  · obtain ⟨c, hc, rfl⟩ := List.mem_map.mp he
    exact sb_C (h c hc)
  · obtain ⟨c', hc, rfl⟩ := List.mem_map.mp he
    rw [kept_dC (h c' hc)] at ec
    cases ec
    exact h _ hc
theorem firstN_Cs {cs : List Co} (h : ∀ c ∈ cs, okC c) {i : Nat} (e : firstN (cs.map dC) = some i) : False := by
  obtain ⟨d, hd, ed, _⟩ := firstN_some e
  obtain ⟨c, hc, rfl⟩ := List.mem_map.mp (List.mem_of_getElem? hd)
  rw [kept_dC (h c hc)] at ed
  cases ed
/-- Errata of a good list -/
theorem mkE {K : PySem.W.Frag} {C CE CT CC D : Addr} {H : Hp} {us : List V} {cs : List Co} {R : V → Hp → Prop} {E' : XK} (hD : H D = some (.lst us)) (hc : CsAt H us cs) (k : ∀ x H', Same H H' → ErAt C H' (.ref x) cs → R (.ref x) H') :
    ∀ x dx, H x = none → H dx = none → dx ≠ x → sp_Errata_init K C CE CT CC [.ref x, .ref D] (upd (upd H dx (.own x)) x (.ins C dx [])) (fun v H2 => v = .non ∧ R (.ref x) H2) E' := fun x dx nx ndx dxx => by
  have z1 : Same H (upd (upd H dx (.own x)) x (.ins C dx [])) := fun b o e => by
    have c1 : b ≠ x := fun z => by rw [z, nx] at e; cases e
    have c2 : b ≠ dx := fun z => by rw [z, ndx] at e; cases e
    rw [upd_ne c1, upd_ne c2]
    exact e
  have fin : ∀ {H6 : Hp}, But x (upd (upd H dx (.own x)) x (.ins C dx [])) H6 → Same H H6 := fun bt b o e => bt b o (fun z => by rw [z, nx] at e; cases e) (z1 b o e)
  refine ⟨x, dx, .ref D, rfl, upd_same, .inr ⟨.list (cs.map dC), fun _ => none, .lst (z1 _ _ hD) rfl ((hc.1.td).same z1), fun e => (by cases e), fun ds e => ?_⟩⟩
  cases e
  have l60 := hc.2.2
  refine ⟨jin_C hc.2.1 (by omega), fun l => absurd l (by rw [List.length_map]; omega), fun _ => ⟨fun i e => (firstN_Cs hc.2.1 e).elim, fun cs' e H6 bt he => ⟨rfl, ?_⟩⟩⟩
  rw [kept_Cs hc.2.1] at e
  have : cs = cs' := by
    have := congrArg (List.filterMap id) e
    simpa using this
  subst this
  exact k x H6 (fin bt) he
theorem CsAt.nl {H H' : Hp} {us : List V} {cs : List Co} (m : NL H H') (h : CsAt H us cs) : CsAt H' us cs := ⟨h.1.nl m, h.2⟩
theorem kit_not {K : PySem.W.Frag} {C : Addr} {t : String} (h1 : PySem.W.isClsIn K C = true) (h2 : PySem.W.typeIn K (.ref C) = some (.type "type")) (h3 : PySem.W.subIn K (.type t) (.ref C) = some false) : PySem.W.kitOne K (.type t) (.ref C) = some false := by
  unfold PySem.W.kitOne
  rw [if_neg (by simp)]
  unfold PySem.W.kitCls
  have h1' : (PySem.W.clsIn K C).isSome = true := h1
  simp only [h1', h2, beq_self_eq_true, Bool.and_self, if_true]
  exact h3
theorem TpAll.reverse {H : Hp} : ∀ {us : List V} {ds : List PyData}, TpAll H us ds → TpAll H us.reverse ds.reverse
  | _, _, .nil => .nil
  | _, _, .cons h r => by rw [List.reverse_cons, List.reverse_cons]; exact r.reverse.snoc h
theorem CsAt.rev {H : Hp} {us : List V} {cs : List Co} (h : CsAt H us cs) : CsAt H us.reverse cs.reverse := ⟨by rw [List.map_reverse]; exact h.1.reverse, fun c hc => h.2.1 c (List.mem_reverse.mp hc), by rw [List.length_reverse]; exact h.2.2⟩
theorem CsAt.take {H : Hp} {us : List V} {cs : List Co} (n : Nat) (h : CsAt H us cs) : CsAt H (us.take n) (cs.take n) := ⟨by rw [List.map_take]; exact h.1.take n, fun c hc => h.2.1 c (List.mem_of_mem_take hc), by rw [List.length_take]; have := h.2.2; omega⟩
theorem CsAt.drop {H : Hp} {us : List V} {cs : List Co} (n : Nat) (h : CsAt H us cs) : CsAt H (us.drop n) (cs.drop n) := ⟨by rw [List.map_drop]; exact h.1.drop n, fun c hc => h.2.1 c (List.mem_of_mem_drop hc), by rw [List.length_drop]; have := h.2.2; omega⟩
theorem eqv_other {a b : List Co} (h : a.length ≠ b.length) : PyData.eqv (.tuple (a.map dC)) (.tuple (b.map dC)) = false := PySem.SeqAt.eqvAll_other_length (by rw [List.length_map, List.length_map]; exact h)
theorem sh_bool (b : Bool) : (PyData.bool b).showable = true ∧ (PyData.bool b).hasDict = false ∧ (PyData.bool b).depth ≤ 8 ∧ (PyData.bool b).shown.length ≤ sizeLine := by cases b <;> exact ⟨rfl, rfl, Nat.zero_le _, by rw [sizeLine_eq]; decide +kernel⟩
theorem mk_same {H : Hp} {x dx C : Addr} (nx : H x = none) (ndx : H dx = none) : Same H (upd (upd H dx (.own x)) x (.ins C dx [])) := fun b o e => by
  have c1 : b ≠ x := fun z => by rw [z, nx] at e; cases e
  have c2 : b ≠ dx := fun z => by rw [z, ndx] at e; cases e
  rw [upd_ne c1, upd_ne c2]
  exact e
theorem mk_after {H H1 H6 : Hp} {x : Addr} (nx : H x = none) (z : Same H H1) (b : But x H1 H6) : Same H H6 := fun c o e => b c o (fun y => by rw [y, nx] at e; cases e) (z c o e)
theorem map_some_inj {α : Type} {a b : List α} (h : a.map some = b.map some) : b = a := by
  have := congrArg (List.filterMap id) h
  simpa using this.symm
theorem eqv_tl (a b : List PyData) : PyData.eqv (.list a) (.list b) = PyData.eqv (.tuple a) (.tuple b) := rfl
theorem jin_shp {w : Nat} {ds : List PyData} (l : ds.length ≤ 1000) (sb : ∀ d ∈ ds, Sb d) (k : ∀ d ∈ ds, ∀ c, keptC d = some c → okC c) : JIn (ds.map (shp w)) := ⟨by rw [List.length_map]; exact l, fun e he => by
  obtain ⟨d, hd, rfl⟩ := List.mem_map.mp he
  exact Sb_shp (sb d hd), fun e he c ec => by
  obtain ⟨d, hd, rfl⟩ := List.mem_map.mp he
  rw [keptC_shp] at ec
  exact k d hd c ec⟩
theorem jin_shpC {w : Nat} {cs : List Co} (h : ∀ c ∈ cs, okC c) (l : cs.length ≤ 1000) : JIn ((cs.map dC).map (shp w)) :=
  jin_shp (by rw [List.length_map]; exact l) (fun d hd => by
    obtain ⟨c, hc, rfl⟩ := List.mem_map.mp hd
    exact sb_C (h c hc)) fun d hd c e => by
    obtain ⟨c', hc, rfl⟩ := List.mem_map.mp hd
    rw [kept_dC (h c' hc)] at e
    cases e
    exact h c hc
theorem put_lst {H : Hp} {a x : Addr} {zs : List V} (hz : zs.length ≤ 1000) (h : ∃ ws, H a = some (.lst ws) ∧ ws.length ≤ 1000) : ∃ ws, upd H x (.lst zs) a = some (.lst ws) ∧ ws.length ≤ 1000 := by
  by_cases e : a = x
  · subst e
    exact ⟨zs, upd_same, hz⟩
  · rw [upd_ne e]
    exact h
theorem TpAll.set {H : Hp} {v : V} {d : PyData} : ∀ {vs : List V} {ds : List PyData} (i : Nat), TpAll H vs ds → Tp H v d → TpAll H (vs.set i v) (ds.set i d)
  | _, _, _, .nil, _ => .nil
  | _, _, 0, .cons _ r, h => .cons h r
  | _, _, i + 1, .cons a r, h => .cons a (r.set i h)
theorem ok_BadCorrection_init (T : Tab K mg) : FnOk P w K mg base CX0 1 T.f_BadCorrection_init T.d_BadCorrection_init ["self", "place"] (sp_BadCorrection_init K T.C_BadCorrection) := by
  refine T.F_BadCorrection_init.ok sc_BadCorrection_init (fun vs H Q E h => ?_) (fun cdv A outer s H vs Q E hr h => ?_)
  · obtain ⟨a, v, rfl, _⟩ := h
    rfl
  · obtain ⟨a, v, rfl, hO, hN, ha, q⟩ := h
    refine ⟨_, (pss_one (ps_ost (pv 0) (pv 1))), ?_⟩
    exact ⟨_, rfl, _, rfl, a, _, rfl, hO, hN, .inl ⟨ha, fun dx h1 h2 => q dx h1 h2⟩⟩
theorem ok_TooMany_init (T : Tab K mg) : FnOk P w K mg base CX0 1 T.f_TooMany_init T.d_TooMany_init ["self", "word"] (sp_TooMany_init K T.C_TooMany) := by
  refine T.F_TooMany_init.ok sc_TooMany_init (fun vs H Q E h => ?_) (fun cdv A outer s H vs Q E hr h => ?_)
  · obtain ⟨a, v, rfl, _⟩ := h
    rfl
  · obtain ⟨a, v, rfl, hO, hN, ha, q⟩ := h
    refine ⟨_, (pss_one (ps_ost (pv 0) (pv 1))), ?_⟩
    exact ⟨_, rfl, _, rfl, a, _, rfl, hO, hN, .inl ⟨ha, fun dx h1 h2 => q dx h1 h2⟩⟩
theorem ok_is_integer (T : Tab K mg) : FnOk P w K mg base CX0 1 T.f_is_integer T.d_is_integer ["thing"] (sp_is_integer K) := by
  refine T.F_is_integer.ok sc_is_integer (fun vs H Q E h => ?_) (fun cdv A outer s H vs Q E hr h => ?_)
  · obtain ⟨v, d, rfl, _⟩ := h
    rfl
  · obtain ⟨v, d, rfl, hd, q⟩ := h
    refine ⟨_, (pss_one (ps_ret (pe_and (pe_callB call_isi (by rfl) T.m_isinstance (by decide +kernel) (pa_cons (pv 0) (pa_cons (pe_bltn (v := .ty "int") (u := .type "int") (by rfl) T.m_int (by decide +kernel) rfl) pa_nil))) (pe_one (pe_not (pe_callB call_isi (by rfl) T.m_isinstance (by decide +kernel) (pa_cons (pv 0) (pa_cons (pe_bltn (v := .ty "bool") (u := .type "bool") (by rfl) T.m_bool (by decide +kernel) rfl) pa_nil)))))))), ?_⟩
    cases hd with
    | non => exact ⟨_, rfl, _, _, _, _, _, rfl, .ty "int", .base .non, kit_ty (r := false) (by decide +kernel), false, rfl, q⟩
    | bl b =>
      refine ⟨_, rfl, _, _, _, _, _, rfl, .ty "int", .base (.bl b), kit_ty (by decide +kernel), true, rfl, iteT ?_⟩
      exact ⟨_, rfl, _, _, _, _, _, rfl, .ty "bool", .base (.bl b), kit_ty (r := true) (by decide +kernel), true, rfl, q⟩
    | int i =>
      refine ⟨_, rfl, _, _, _, _, _, rfl, .ty "int", .base (.int i), kit_ty (by decide +kernel), true, rfl, iteT ?_⟩
      exact ⟨_, rfl, _, _, _, _, _, rfl, .ty "bool", .base (.int i), kit_ty (r := false) (by decide +kernel), false, rfl, q⟩
    | str z => exact ⟨_, rfl, _, _, _, _, _, rfl, .ty "int", .base (.str z), kit_ty (r := false) (by decide +kernel), false, rfl, q⟩
    | lst h _ => exact ⟨_, rfl, _, _, _, _, _, rfl, .ty "int", ty_L h, kit_ty (r := false) (by decide +kernel), false, rfl, q⟩
    | tup h _ => exact ⟨_, rfl, _, _, _, _, _, rfl, .ty "int", ty_T h, kit_ty (r := false) (by decide +kernel), false, rfl, q⟩
theorem ok_is_tuple (T : Tab K mg) : FnOk P w K mg base CX0 1 T.f_is_tuple T.d_is_tuple ["thing"] (sp_is_tuple K) := by
  refine T.F_is_tuple.ok sc_is_tuple (fun vs H Q E h => ?_) (fun cdv A outer s H vs Q E hr h => ?_)
  · obtain ⟨v, rfl, _⟩ := h
    rfl
  · obtain ⟨v, rfl, hq⟩ := h
    refine ⟨_, (pss_one (ps_ret (pe_callB call_isiT (by rfl) T.m_isinstance (by decide +kernel) (pa_cons (pv 0) (pa_cons (pe_tup (pa_cons (pe_bltn (v := .ty "tuple") (u := .type "tuple") (by rfl) T.m_tuple (by decide +kernel) rfl) (pa_cons (pe_bltn (v := .ty "list") (u := .type "list") (by rfl) T.m_list (by decide +kernel) rfl) pa_nil))) pa_nil))))), ?_⟩
    refine ⟨_, rfl, (by show 2 ≤ sizeLine; decide), fun tp ntp => ?_⟩
    have s1 := same_upd (o := .tup [.ty "tuple", .ty "list"]) ntp
    rcases hq with ⟨⟨t, ht, hk⟩, q⟩ | ⟨d, hd, q⟩
    · exact ⟨_, tp, _, _, _, false, rfl, upd_same, .cons (.ty "tuple") (.cons (.ty "list") .nil), ht _ s1, hk, q _ s1⟩
    · have q1 := q _ s1
      cases hd with
      | lst h _ => exact ⟨_, tp, _, _, _, true, rfl, upd_same, .cons (.ty "tuple") (.cons (.ty "list") .nil), ty_L (s1.seq h), kit2_L, q1⟩
      | tup h _ => exact ⟨_, tp, _, _, _, true, rfl, upd_same, .cons (.ty "tuple") (.cons (.ty "list") .nil), ty_T (same_seqT s1 h), kit2_T, q1⟩
      | non => exact ⟨_, tp, _, _, _, false, rfl, upd_same, .cons (.ty "tuple") (.cons (.ty "list") .nil), .base .non, kit2_no (by decide +kernel) (by decide +kernel), q1⟩
      | bl b => exact ⟨_, tp, _, _, _, false, rfl, upd_same, .cons (.ty "tuple") (.cons (.ty "list") .nil), .base (.bl b), kit2_no (by decide +kernel) (by decide +kernel), q1⟩
      | int i => exact ⟨_, tp, _, _, _, false, rfl, upd_same, .cons (.ty "tuple") (.cons (.ty "list") .nil), .base (.int i), kit2_no (by decide +kernel) (by decide +kernel), q1⟩
      | str z => exact ⟨_, tp, _, _, _, false, rfl, upd_same, .cons (.ty "tuple") (.cons (.ty "list") .nil), .base (.str z), kit2_no (by decide +kernel) (by decide +kernel), q1⟩
theorem ok_is_token (T : Tab K mg) : FnOk P w K mg base CX0 1 T.f_is_token T.d_is_token ["thing"] (sp_is_token K) := by
  refine T.F_is_token.ok sc_is_token (fun vs H Q E h => ?_) (fun cdv A outer s H vs Q E hr h => ?_)
  · obtain ⟨v, d, H0, rfl, _⟩ := h
    rfl
  · obtain ⟨v, d, H0, rfl, hd, hz0, q⟩ := h
    refine ⟨_, (pss_one (ps_ret (pe_and (pe_callB call_isi (by rfl) T.m_isinstance (by decide +kernel) (pa_cons (pv 0) (pa_cons (pe_bltn (v := .ty "str") (u := .type "str") (by rfl) T.m_str (by decide +kernel) rfl) pa_nil))) (pe_and (pe_chain op_le op_le pe_int (pe_callB call_len_str (by rfl) T.m_len PySem.boot_len (pa_cons (pv 0) pa_nil)) (pe_glob (v := .int 20) (by rfl) T.c_MOST_SIGNS ⟨_, rfl⟩)) (pe_one (pe_cmpR op_notIn_sign pe_str (pv 0) rfl)))))), ?_⟩
    cases hd with
    | non => exact ⟨_, rfl, _, _, _, _, _, rfl, .ty "str", .base .non, kit_ty (r := false) (by decide +kernel), false, rfl, iteF q⟩
    | bl b => exact ⟨_, rfl, _, _, _, _, _, rfl, .ty "str", .base (.bl b), kit_ty (r := false) (by decide +kernel), false, rfl, iteF q⟩
    | int i => exact ⟨_, rfl, _, _, _, _, _, rfl, .ty "str", .base (.int i), kit_ty (r := false) (by decide +kernel), false, rfl, iteF q⟩
    | lst h _ _ => exact ⟨_, rfl, _, _, _, _, _, rfl, .ty "str", ty_L (.inl (.inl h)), kit_ty (r := false) (by decide +kernel), false, rfl, iteF q⟩
    | tup h _ => exact ⟨_, rfl, _, _, _, _, _, rfl, .ty "str", ty_T (.inl (.inl h)), kit_ty (r := false) (by decide +kernel), false, rfl, iteF q⟩
    | str z =>
      have hz := hz0 z rfl
      have q : Q (.bl (tokB z)) H := q
      refine ⟨_, rfl, _, _, _, _, _, rfl, .ty "str", .base (.str z), kit_ty (by decide +kernel), true, rfl, iteT ?_⟩
      have no : ∀ (P : Prop) [Decidable P], tokB z = decide P → ¬ P → Q (.bl false) H := fun P _ e n => by rw [e, decide_eq_false n] at q; exact q
      have tk : tokB z = decide (1 ≤ z.length ∧ z.length ≤ 20 ∧ 32 ∉ z.cps.toList) := by
        unfold tokB
        rw [Bool.eq_iff_iff]
        simp only [Bool.and_eq_true, decide_eq_true_eq, and_assoc]
      refine ⟨_, rfl, z, rfl, Nat.le_of_lt (smallM (by omega)), _, _, rfl, rfl, _, rfl, ite2 (fun e => ?_) (fun e => ?_)⟩
      · have e1 : (1 : Int) ≤ z.length := of_decide_eq_true e
        refine ⟨_, _, rfl, rfl, _, rfl, ite2 (fun e2 => ?_) (fun e2 => ?_)⟩
        · have e2' : (z.length : Int) ≤ 20 := of_decide_eq_true e2
          refine ⟨_, rfl, 32, z, (by rfl), rfl, ?_⟩
          rw [tk] at q
          have ee : (!decide (32 ∈ z.cps.toList)) = decide (1 ≤ z.length ∧ z.length ≤ 20 ∧ 32 ∉ z.cps.toList) := by
            rw [← decide_not]
            exact decide_eq_decide.mpr ⟨fun h => ⟨by omega, by omega, h⟩, fun h => h.2.2⟩
          rw [ee]
          exact q
        · exact no _ tk fun h => e2 (decide_eq_true (by have := h.2.1; omega))
      · exact ⟨_, rfl, iteF (no _ tk fun h => e (decide_eq_true (by have := h.1; omega)))⟩
theorem ok_Errata_len (T : Tab K mg) : FnOk P w K mg base CX0 1 T.f_Errata_len T.d_Errata_len ["self"] (sp_Errata_len K T.C_Errata) := by
  refine T.F_Errata_len.ok sc_Errata_len (fun vs H Q E h => ?_) (fun cdv A outer s H vs Q E hr h => ?_)
  · obtain ⟨v, cs, rfl, _⟩ := h
    rfl
  · obtain ⟨v, cs, rfl, ⟨x, dx, a, t, us, rfl, hx, ha, tu⟩, q⟩ := h
    refine ⟨_, (pss_one (ps_ret (pe_callB call_len_seq (by rfl) T.m_len PySem.boot_len (pa_cons (pe_fld (pv 0) rfl) pa_nil)))), ?_⟩
    have lu := tu.len
    rw [List.length_map] at lu
    refine ⟨_, rfl, x, _, dx, _, _, rfl, hx, T.cl_Errata, T.na_Errata_corrections, rfl, a, us, rfl, .inr (.inl (.inl ha)), ?_⟩
    rw [lu]
    exact q
theorem ok_Errata_iter (T : Tab K mg) : InOk P w K mg base 1 T.f_Errata_iter T.d_Errata_iter ["self"] (sp_Errata_iter K T.C_Errata) := by
  refine in_ok T.F_Errata_iter sc_Errata_iter (fun nn vs H Q E h => ?_) (fun cdv A outer s H vs Q E hr h => ?_)
  · obtain ⟨b, dx, l, fs, zs, rfl, _⟩ := h
    rfl
  · obtain ⟨b, dx, l, fs, zs, rfl, hb, hf, hz, q⟩ := h
    refine ⟨_, (pss_one (ps_ret (pe_callB call_iterT (by rfl) T.m_iter (by decide +kernel) (pa_cons (pe_fld (pv 0) rfl) pa_nil)))), ?_⟩
    exact ⟨_, rfl, b, _, dx, fs, _, rfl, hb, T.cl_Errata, T.na_Errata_corrections, hf, l, zs, rfl, hz, fun it n1 n2 => q it n1 n2⟩
theorem ok_Errata_eq (T : Tab K mg) : FnOk P w K mg base CX0 1 T.f_Errata_eq T.d_Errata_eq ["self", "other"] (sp_Errata_eq K T.C_Errata) := by
  refine T.F_Errata_eq.ok sc_Errata_eq (fun vs H Q E h => ?_) (fun cdv A outer s H vs Q E hr h => ?_)
  · obtain ⟨v, w, cs, rfl, _⟩ := h
    rfl
  · obtain ⟨v, w, cs, rfl, ⟨x, dx, a, t, us, rfl, hx, ha, tu⟩, ok, l60, hh⟩ := h
    refine ⟨_, (pss_one (ps_ret (pe_and (pe_callB call_isi (by rfl) T.m_isinstance (by decide +kernel) (pa_cons (pv 1) (pa_cons (pe_glob (v := .ref T.C_Errata) (by rfl) T.cg_Errata rfl) pa_nil))) (pe_one (pe_cmpR (op_eqD hr.units) (pe_fld (pv 0) rfl) (pe_fld (pv 1) rfl) (nomark _)))))), ?_⟩
    rcases hh with ⟨ds, ⟨y, dy, b, t2, us2, rfl, hy, hb, tu2⟩, ok2, l2, q⟩ | ⟨t', ty, kk, q⟩
    · refine ⟨_, rfl, _, _, _, _, _, rfl, .own T.C_Errata, .base (.ins hy T.cl_Errata T.ca_Errata T.cn_Errata T.ct_Errata T.cm_Errata), kit_self, true, rfl, iteT ?_⟩
      refine ⟨_, rfl, x, _, dx, _, _, rfl, hx, T.cl_Errata, T.na_Errata_corrections, rfl, _, rfl, y, _, dy, _, _, rfl, hy, T.cl_Errata, T.na_Errata_corrections, rfl, ?_⟩
      exact ⟨.tuple (cs.map dC), .tuple (ds.map dC), .tup (.inl (.inl ha)) tu.dp, .tup (.inl (.inl hb)) tu2.dp, shaped_pd (pd_Ct ok l60) (by decide), shaped_pd (pd_Ct ok2 l2) (by decide), q⟩
    · exact ⟨_, rfl, _, _, _, _, _, rfl, .own T.C_Errata, ty, kk, false, rfl, iteF q⟩
theorem ok_turns_at_places (T : Tab K mg) : FnOk P w K mg base CX0 1 T.f_turns_at_places T.d_turns_at_places ["corrections"] (sp_turns_at_places K) := by
  refine T.F_turns_at_places.ok sc_turns_at_places (fun vs H Q E h => ?_) (fun cdv A outer s H vs Q E hr h => ?_)
  · obtain ⟨a, us, cs, rfl, _⟩ := h
    rfl
  · obtain ⟨a, us, cs, rfl, ha, ⟨tu, ok, l60⟩, q⟩ := h
    refine ⟨_, (pss_cons (ps_set (i := 1) sc_turns_at_places.nd rfl (.inl rfl) pe_dnewN)
      (pss_cons (ps_for PassesOwn.never rfl (pi_tup (pv 0)) (pg_tup (by rfl) (pgs_cons (pg_name (i := 2) sc_turns_at_places.nd rfl (.inl rfl)) (pgs_cons (pg_name (i := 3) sc_turns_at_places.nd rfl (.inl rfl)) (pgs_cons (pg_name (i := 4) sc_turns_at_places.nd rfl (.inl rfl)) (pgs_cons (pg_name (i := 5) sc_turns_at_places.nd rfl (.inl rfl)) (pgs_cons (pg_name (i := 6) sc_turns_at_places.nd rfl (.inl rfl)) pgs_nil))))))
      (pss_one (ps_expr (pe_bm PySem.F.plainAttrs_list PySem.F.slot_list_append PySem.F.type_list_append mt_append (pe_nsetd (by have z := hr.units; exact z) (pv 1) (pe_tup (pa_cons (pv 2) (pa_cons (pv 3) (pa_cons (pv 4) pa_nil)))) (pe_lst pa_nil) ⟨rfl, rfl, rfl, rfl⟩) (pa_cons (pe_tup (pa_cons (pv 5) (pa_cons (pv 6) pa_nil))) pa_nil)))))
      (pss_one (ps_ret (pv 1))))), ?_⟩
    have lu := tu.len
    rw [List.length_map] at lu
    have cw : (cxOf CX0 P w K mg base N_turns_at_places (Str.ofString "_turns_at_places") (defScope s_turns_at_places) T.f_turns_at_places cdv A outer s H E).nox.w = w := rfl
    rw [cw]
    refine fun t nt => ?_
    have s0 := same_upd (o := rawN w t []) nt
    have dn0 : DN w (upd H t (rawN w t [])) t [] := ⟨upd_same, fun _ h => nomatch h⟩
    refine ⟨_, rfl, a, rfl, ⟨_, .inl (.inl (s0 _ _ ha))⟩, for_tup (xs := us) (fun i σ' H' => ∃ (y2 y3 y4 y5 y6 : Option V) (kvs : List NE), σ' = [some (.ref a), some (.ref t), y2, y3, y4, y5, y6] ∧ Same H H' ∧ DN w H' t kvs ∧ kvs.length ≤ i ∧ ∀ p ∈ kvs, ∃ l ys, p.2.2 = .ref l ∧ H l = none ∧ H' l = some (.lst ys) ∧ ys.length ≤ i) ⟨none, none, none, none, none, [], rfl, s0, dn0, Nat.le_refl _, fun _ h => nomatch h⟩ (fun i σ' H' _ hh => by obtain ⟨_, _, _, _, _, _, _, s, _⟩ := hh; exact .inl (.inl (s _ _ ha))) ?_ ?_⟩
    · rintro i x σ' H1 hx ⟨y2, y3, y4, y5, y6, kvs, rfl, s1, dn, lk, hk⟩
      have i60 : i < 60 := by
        have := (List.getElem?_eq_some_iff.mp hx).1
        omega
      obtain ⟨d, ed, tx⟩ := tu.get hx
      obtain ⟨c, ec, rfl⟩ : ∃ c, cs[i]? = some c ∧ d = dC c := by
        rw [List.getElem?_map] at ed
        cases e : cs[i]? with
        | none => rw [e] at ed; cases ed
        | some l => rw [e] at ed; exact ⟨l, rfl, (Option.some.inj ed).symm⟩
      obtain ⟨b, pv, rfl, hb, hp⟩ := tpC_inv (tx.nl (NL.of s1))
      refine ⟨b, _, rfl, .inl (.inl hb), rfl, _, _, rfl, _, _, rfl, _, _, rfl, _, _, rfl, _, _, rfl, rfl, ?_⟩
      refine ⟨_, rfl, t, kvs, rfl, dn, _, rfl, _, rfl, _, rfl, (by show 3 ≤ sizeLine; decide), fun kb nkb => ?_⟩
      have s2 := same_upd (o := .tup [pv, .int c.r, .int c.w]) nkb
      have hkb : Tp (upd H1 kb (.tup [pv, .int c.r, .int c.w])) (.ref kb) (keyC c) := .tup upd_same (.cons (hp.nl (NL.of s2)) (.cons (.int _) (.cons (.int _) .nil)))
      generalize upd H1 kb (.tup [pv, .int c.r, .int c.w]) = H2 at s2 hkb
      refine ⟨Nat.zero_le _, fun z nz => ?_⟩
      have s3 := same_upd (o := .lst []) nz
      have hz : upd H2 z (.lst []) z = some (.lst []) := upd_same
      generalize upd H2 z (.lst []) = H3 at s3 hz
      have s23 := s2.trans s3
      have fz : H z = none := none_of (s1.trans s2) nz
      have nk : NKey H3 kb (nkD (keyC c)) := ⟨keyC c, hkb.nl (NL.of s3), rfl, key_depth c⟩
      have dn3 := dn.nl (NL.of s23)
      have tz : z ≠ t := fun e => by rw [e, s2 _ _ dn.1] at nz; cases nz
      refine ⟨kvs, kb, _, rfl, dn3, nk, small1000 (by omega), fun v hv => ?_, fun hn => ?_⟩
      · obtain ⟨p, hp2, rfl⟩ := atN_mem hv
        obtain ⟨l, ys, el, fl, hl, ly⟩ := hk p hp2
        rw [el]
        have hl3 := s23 _ _ hl
        refine ⟨.inl ⟨rfl, _, .inl (.inl hl3)⟩, _, rfl, _, rfl, (by show 2 ≤ sizeLine; decide), fun e ne => ?_⟩
        have s4 := same_upd (o := .tup [.str c.o, .str c.n]) ne
        generalize upd H3 e (.tup [.str c.o, .str c.n]) = H4 at s4 ⊢
        have hl4 := s4 _ _ hl3
        have s14 := s23.trans s4
        refine ⟨l, ys, _, rfl, rfl, hl4, small1000 (by omega), _, _, _, _, _, kvs, rfl, same_put (s1.trans s14) fl _, (dn3.nl (NL.of s4)).nl ((NL.refl H4).put hl4 _), by omega, fun p' hp' => ?_⟩
        obtain ⟨l', ys', el', fl', hl', ly'⟩ := hk p' hp'
        by_cases c1 : l' = l
        · subst c1
          rw [hl] at hl'
          cases hl'
          exact ⟨l', _, el', fl', upd_same, by rw [List.length_append]; show ys.length + 1 ≤ _; omega⟩
        · exact ⟨l', ys', el', fl', by rw [upd_ne c1]; exact s14 _ _ hl', by omega⟩
      · have ep : putN kvs (nkD (keyC c)) kb (.ref z) = kvs ++ [(nkD (keyC c), kb, .ref z)] := by
          unfold putN
          rw [hn]
          rfl
        have dn4 := DN.put (v := .ref z) dn3 nk
        have s4 : Same H (upd H3 t (rawN w t (putN kvs (nkD (keyC c)) kb (.ref z)))) := same_put (s1.trans s23) nt _
        have hz4 : upd H3 t (rawN w t (putN kvs (nkD (keyC c)) kb (.ref z))) z = some (.lst []) := by rw [upd_ne tz]; exact hz
        have old4 : ∀ l ys, H l = none → l ≠ t → H1 l = some (.lst ys) → upd H3 t (rawN w t (putN kvs (nkD (keyC c)) kb (.ref z))) l = some (.lst ys) := fun l ys _ ne e => by rw [upd_ne ne]; exact s23 _ _ e
        rw [ep] at dn4 s4 hz4 old4 ⊢
        generalize upd H3 t (rawN w t (kvs ++ [(nkD (keyC c), kb, .ref z)])) = H4 at dn4 s4 hz4 old4 ⊢
        refine ⟨.inl ⟨rfl, _, .inl (.inl hz4)⟩, _, rfl, _, rfl, (by show 2 ≤ sizeLine; decide), fun e ne => ?_⟩
        have s5 := same_upd (o := .tup [.str c.o, .str c.n]) ne
        generalize upd H4 e (.tup [.str c.o, .str c.n]) = H5 at s5 ⊢
        have hz5 := s5 _ _ hz4
        refine ⟨z, [], _, rfl, rfl, hz5, (by show 0 < sizeLine; decide), _, _, _, _, _, _, rfl, same_put (s4.trans s5) fz _, (dn4.nl (NL.of s5)).nl ((NL.refl H5).put hz5 _), ?_, fun p' hp' => ?_⟩
        · rw [List.length_append]
          exact Nat.succ_le_succ lk
        · rcases List.mem_append.mp hp' with h | h
          · obtain ⟨l', ys', el', fl', hl', ly'⟩ := hk p' h
            have lt : l' ≠ t := fun z => by rw [z, dn.1] at hl'; exact rawN_ne (Option.some.inj hl')
            have lz : l' ≠ z := fun e => by
              have := s2 _ _ hl'
              rw [e, nz] at this
              cases this
            exact ⟨l', ys', el', fl', by rw [upd_ne lz]; exact s5 _ _ (old4 _ _ fl' lt hl'), by omega⟩
          · rw [List.mem_singleton.mp h]
            exact ⟨z, _, rfl, fz, upd_same, by show 1 ≤ _; omega⟩
    · rintro σ' H1 ⟨y2, y3, y4, y5, y6, kvs, rfl, s1, dn, lk, hk⟩
      exact ⟨_, rfl, q t H1 s1⟩
theorem ok_source (T : Tab K mg) : FnOk P w K mg base CX0 1 T.f_source T.d_source ["_law_script", "_law_k"] (sp_source K) := by
  refine T.F_source.ok sc_source (fun vs H Q E h => ?_) (fun cdv A outer s H vs Q E hr h => ?_)
  · obtain ⟨a, ns, k, rfl, _⟩ := h
    rfl
  · obtain ⟨a, ns, k, rfl, hS, q⟩ := h
    refine ⟨_, (C8.pss_cut (ps_set (i := 2) sc_source.nd rfl (.inl rfl) (pe_ifExp (pt_cmpR op_lt (pv 1) (pe_callB call_len_seq (by rfl) T.m_len PySem.boot_len (pa_cons (pv 0) pa_nil)) (nomark _)) (pe_ix ix_list (pv 0) (pv 1) (fun _ _ => rfl)) (pe_op op_add (pe_op op_mod (pe_callTy call_int1 (by rfl) T.m_int (by decide +kernel) (pa_cons (pe_op op_add (pe_callB (cr_sum rfl) (by rfl) T.m_sum (by decide +kernel) (pa_cons (pe_slice sl_list (pv 0) po_none (po_some pe_int)) pa_nil)) (pe_op op_mul pe_int (pe_callB (cr_sum rfl) (by rfl) T.m_sum (by decide +kernel) (pa_cons (pe_slice sl_list (pv 0) (po_some pe_int) (po_some pe_int)) pa_nil)))) pa_nil)) pe_int) (pe_op op_mul pe_int (pv 1)))))
      (pss_cons (ps_set (i := 3) sc_source.nd rfl (.inl rfl) (pe_callB call_abs (by rfl) T.m_abs (by decide +kernel) (pa_cons (pv 2) pa_nil)))
      (C8.pss_cut (ps_set (i := 4) sc_source.nd rfl (.inl rfl) (pe_ifExp (pt_cmpR op_ge (pv 3) pe_int (nomark _)) (pv 3) pe_int))
      (pss_one (ps_ret (pe_lst (pa_cons (pv 4) (pa_cons (pe_op op_mod (pe_callTy call_int1 (by rfl) T.m_int (by decide +kernel) (pa_cons (pe_op op_add (pe_op op_add (pe_op op_add (pe_op op_mul (pv 3) pe_int) (pe_callTy call_int1 (by rfl) T.m_int (by decide +kernel) (pa_cons (pe_cmpR op_lt (pv 2) pe_int (nomark _)) pa_nil))) (pe_op op_mul pe_int (pv 1))) pe_int) pa_nil)) pe_int) (pa_cons pe_int pa_nil))))))))), ?_⟩
    refine ⟨fun σ' H' => ∃ c : Int, σ' = [some (.ref a), some (.int k), some (.int c), none, none] ∧ Same H H', ?_, ?_⟩
    · refine ⟨_, rfl, _, rfl, _, _, rfl, .inl hS, _, _, rfl, rfl, _, rfl, ite2 (fun e => ?_) (fun e => ?_)⟩
      · have e1 : (k : Int) < ((ns.map V.int).length : Int) := of_decide_eq_true e
        rw [List.length_map] at e1
        have hk : k < ns.length := by omega
        have g : (ns.map V.int)[k]? = some (.int ns[k]) := by
          rw [List.getElem?_map, List.getElem?_eq_getElem hk]
          rfl
        exact ⟨_, rfl, _, rfl, _, _, _, _, rfl, rfl, hS, atI_nat g, _, rfl, Same.refl H⟩
      · refine ⟨_, rfl, 1, rfl, _, _, rfl, hS, fun p1 n1 => ?_⟩
        obtain ⟨m1, c1⟩ := cut_map ns none (some 1)
        rw [c1]
        have s1 : Same H (upd H p1 (.lst (m1.map V.int))) := same_upd n1
        refine ⟨_, m1, rfl, .inl (.inl upd_same), _, rfl, 1, rfl, 2, rfl, _, _, rfl, s1.seq hS, fun p2 n2 => ?_⟩
        obtain ⟨m2, c2⟩ := cut_map ns (some 1) (some 2)
        rw [c2]
        refine ⟨_, m2, rfl, .inl (.inl upd_same), _, _, rfl, rfl, .inl ⟨by decide, by decide⟩, _, _, rfl, rfl, .inl ⟨_, rfl, _, _, rfl, rfl, (by show (0 : Int) < 1000003; decide), _, rfl, _, _, rfl, rfl, .inl ⟨by decide, by decide⟩, _, _, rfl, rfl, _, rfl, s1.trans (same_upd n2)⟩⟩
    · rintro σ' H1 ⟨c, rfl, s1⟩
      refine ⟨_, rfl, _, rfl, ?_⟩
      refine ⟨fun σ' H' => ∃ n g : Int, σ' = [some (.ref a), some (.int k), some (.int c), some (.int n), some (.int g)] ∧ H' = H1, ?_, ?_⟩
      · refine ⟨_, rfl, _, _, rfl, rfl, _, rfl, ite2 (fun e => ?_) (fun e => ?_)⟩
        · exact ⟨_, rfl, _, _, rfl, rfl⟩
        · exact ⟨_, _, rfl, rfl⟩
      · rintro σ' H' ⟨n, g, rfl, rfl⟩
        refine ⟨_, rfl, _, rfl, _, _, rfl, rfl, .inr ⟨by decide, by decide⟩, _, rfl, _, _, rfl, rfl, .inr ⟨_, rfl, _, _, rfl, rfl, _, rfl, _, _, rfl, rfl, .inl ⟨by decide, by decide⟩, _, _, rfl, rfl, _, _, rfl, rfl, .inl ⟨_, rfl, _, _, rfl, rfl, (by show (0 : Int) < 2147483647; decide), ?_⟩⟩⟩
        refine ⟨(by show 3 ≤ sizeLine; decide), fun p np => ?_⟩
        exact q p _ (s1.trans (same_upd np)) (s1.free np) ⟨_, _, _, upd_same⟩
theorem ok_pick (T : Tab K mg) : FnOk P w K mg base CX0 1 T.f_pick T.d_pick ["_law_source_here", "_law_many"] (sp_pick K) := by
  refine T.F_pick.ok sc_pick (fun vs H Q E h => ?_) (fun cdv A outer s H vs Q E hr h => ?_)
  · obtain ⟨a, m, rfl, _⟩ := h
    rfl
  · obtain ⟨a, m, rfl, ⟨g, x, c, hs⟩, h1, h2, q⟩ := h
    refine ⟨_, (pss_cons (ps_if (pt_cmpR op_lt (pv 1) pe_int (nomark _))
      (pss_one (ps_ret pe_int))
      pss_nil)
      (pss_cons (ps_if (pt_cmpR op_gt (pe_ix ix_list (pv 0) pe_int (fun _ _ => rfl)) pe_int (nomark _))
      (pss_cons (ps_set (i := 2) sc_pick.nd rfl (.inl rfl) (pe_op op_mod (pe_callTy call_int1 (by rfl) T.m_int (by decide +kernel) (pa_cons (pe_ix ix_list (pv 0) pe_int (fun _ _ => rfl)) pa_nil)) (pv 1)))
        (pss_cons (ps_asg (pe_op op_fdiv (pe_ix ix_list (pv 0) pe_int (fun _ _ => rfl)) (pv 1)) (pg_sub (pv 0) pe_int set_list))
        (pss_one (ps_ret (pv 2)))))
      pss_nil)
      (pss_cons (ps_asg (pe_op op_add (pe_ix ix_list (pv 0) pe_int (fun _ _ => rfl)) pe_int) (pg_sub (pv 0) pe_int set_list))
      (pss_cons (ps_asg (pe_op op_mod (pe_callTy call_int1 (by rfl) T.m_int (by decide +kernel) (pa_cons (pe_op op_add (pe_op op_add (pe_op op_mul (pe_ix ix_list (pv 0) pe_int (fun _ _ => rfl)) pe_int) (pe_op op_mul (pe_ix ix_list (pv 0) pe_int (fun _ _ => rfl)) pe_int)) pe_int) pa_nil)) pe_int) (pg_sub (pv 0) pe_int set_list))
      (pss_one (ps_ret (pe_op op_mod (pe_callTy call_int1 (by rfl) T.m_int (by decide +kernel) (pa_cons (pe_op op_fdiv (pe_op op_mod (pe_callTy call_int1 (by rfl) T.m_int (by decide +kernel) (pa_cons (pe_op op_add (pe_op op_add (pe_op op_mul (pe_ix ix_list (pv 0) pe_int (fun _ _ => rfl)) pe_int) (pe_op op_mul (pe_ix ix_list (pv 0) pe_int (fun _ _ => rfl)) pe_int)) pe_int) pa_nil)) pe_int) pe_int) pa_nil)) (pv 1)))))))), ?_⟩
    refine ⟨_, rfl, _, _, rfl, rfl, _, rfl, ite2 (fun e => ?_) (fun e => ?_)⟩
    · exact q 0 H ⟨g, x, c, hs⟩ (But.refl a H) (by decide) (by omega)
    · have hm : ¬ m < 2 := fun z => e (decide_eq_true z)
      refine ⟨_, rfl, _, _, _, _, rfl, rfl, .inl (.inl hs), rfl, _, _, rfl, rfl, _, rfl, ite2 (fun e => ?_) (fun e => ?_)⟩
      · refine ⟨_, rfl, _, _, _, _, rfl, rfl, .inl (.inl hs), rfl, .inl ⟨_, rfl, _, rfl, _, _, rfl, rfl, (by omega), ?_⟩⟩
        refine ⟨_, rfl, _, _, _, _, rfl, rfl, .inl (.inl hs), rfl, _, rfl, _, _, rfl, rfl, ⟨by omega, by omega⟩, ?_⟩
        refine ⟨_, rfl, _, _, _, _, rfl, rfl, hs, rfl, ?_⟩
        refine ⟨_, rfl, ?_⟩
        exact q _ _ ⟨_, _, _, upd_same⟩ (But.upd _) (Int.emod_nonneg _ (by omega)) (.inl (Int.emod_lt_of_pos _ (by omega)))
      · refine ⟨_, rfl, _, _, _, _, rfl, rfl, .inl (.inl hs), rfl, _, _, rfl, rfl, _, rfl, _, _, _, _, rfl, rfl, hs, rfl, ?_⟩
        refine ⟨_, rfl, _, _, _, _, rfl, rfl, .inl (.inl upd_same), rfl, _, _, rfl, rfl, .inr ⟨by decide, by decide⟩, _, rfl, _, _, _, _, rfl, rfl, .inl (.inl upd_same), rfl, _, _, rfl, rfl, .inr ⟨by decide, by decide⟩, _, _, rfl, rfl, _, _, rfl, rfl, .inl ⟨_, rfl, _, _, rfl, rfl, (by show (0 : Int) < 2147483647; decide), ?_⟩⟩
        refine ⟨_, rfl, _, _, _, _, rfl, rfl, upd_same, rfl, ?_⟩
        refine ⟨_, rfl, _, _, _, _, rfl, rfl, .inl (.inl upd_same), rfl, _, _, rfl, rfl, .inr ⟨by decide, by decide⟩, _, rfl, _, _, _, _, rfl, rfl, .inl (.inl upd_same), rfl, _, _, rfl, rfl, .inr ⟨by decide, by decide⟩, _, _, rfl, rfl, _, _, rfl, rfl, .inl ⟨_, rfl, _, _, rfl, rfl, (by show (0 : Int) < 2147483629; decide), _, _, rfl, rfl, ⟨by decide, by decide⟩, .inl ⟨_, rfl, _, rfl, _, _, rfl, rfl, (by omega), ?_⟩⟩⟩
        exact q _ _ ⟨_, _, _, upd_same⟩ (((But.upd _).trans (But.upd _))) (Int.emod_nonneg _ (by omega)) (.inl (Int.emod_lt_of_pos _ (by omega)))
theorem ok_law_is_integer (T : Tab K mg) : FnOk P w K mg base CX0 1 T.f_law_is_integer T.d_law_is_integer ["_law_actual"] (sp_law_is_integer K) := by
  refine T.F_law_is_integer.ok sc_law_is_integer (fun vs H Q E h => ?_) (fun cdv A outer s H vs Q E hr h => ?_)
  · obtain ⟨i, rfl, _⟩ := h
    rfl
  · obtain ⟨i, rfl, q⟩ := h
    refine ⟨_, (pss_one (ps_ret (pe_and (pe_callB call_isi (by rfl) T.m_isinstance (by decide +kernel) (pa_cons (pv 0) (pa_cons (pe_bltn (v := .ty "int") (u := .type "int") (by rfl) T.m_int (by decide +kernel) rfl) pa_nil))) (pe_one (pe_not (pe_callB call_isi (by rfl) T.m_isinstance (by decide +kernel) (pa_cons (pv 0) (pa_cons (pe_bltn (v := .ty "bool") (u := .type "bool") (by rfl) T.m_bool (by decide +kernel) rfl) pa_nil)))))))), ?_⟩
    refine ⟨_, rfl, _, _, _, _, _, rfl, .ty "int", .base (.int i), kit_ty (by decide +kernel), true, rfl, iteT ?_⟩
    exact ⟨_, rfl, _, _, _, _, _, rfl, .ty "bool", .base (.int i), kit_ty (r := false) (by decide +kernel), false, rfl, q⟩
theorem ok_other (T : Tab K mg) : FnOk P w K mg base CX0 1 T.f_other T.d_other ["_law_token_here"] (sp_other K) := by
  refine T.F_other.ok sc_other (fun vs H Q E h => ?_) (fun cdv A outer s H vs Q E hr h => ?_)
  · obtain ⟨z, rfl, _⟩ := h
    rfl
  · obtain ⟨z, rfl, tz, q⟩ := h
    refine ⟨_, (pss_cons (ps_if (pt_cmpR op_lt (pe_callB call_len_str (by rfl) T.m_len PySem.boot_len (pa_cons (pv 0) pa_nil)) pe_int (nomark _))
      (pss_one (ps_ret (pe_op op_add_str (pv 0) pe_str)))
      pss_nil)
      (pss_cons (ps_if (pt_cmpR op_eq (pe_ix ix_str (pv 0) pe_int (fun _ _ => rfl)) pe_str (nomark _))
      (pss_one (ps_ret (pe_op op_add_str pe_str (pe_slice sl_str (pv 0) (po_some pe_int) po_none))))
      pss_nil)
      (pss_one (ps_ret (pe_op op_add_str pe_str (pe_slice sl_str (pv 0) (po_some pe_int) po_none)))))), ?_⟩
    have l := tz.len
    have hz2 : z.length ≤ sizeLine := Nat.le_of_lt (small1000 (by omega))
    obtain ⟨c, r, ec⟩ : ∃ c r, z.cps.toList = c :: r := by
      cases e : z.cps.toList with
      | nil => have := str_len z; rw [e] at this; simp at this; omega
      | cons c r => exact ⟨c, r, rfl⟩
    refine ⟨_, rfl, z, rfl, hz2, _, _, rfl, rfl, _, rfl, ite2 (fun e => ?_) (fun e => ?_)⟩
    · have e20 : (z.length : Int) < 20 := of_decide_eq_true e
      have lx : ("x" : Str).length = 1 := by decide +kernel
      refine ⟨_, rfl, _, _, rfl, rfl, by rw [lx]; exact Nat.le_of_lt (small1000 (by omega)), ?_⟩
      refine q _ (tok_of (by rw [app_len]; omega) (by rw [app_len]; omega) (app_sgn tz.sgn (all_sgn (by decide +kernel)))) fun e => ?_
      have := congrArg Str.length e
      rw [app_len, lx] at this
      omega
    have hne : ∀ (d : Nat) (y : Str), y = ⟨#[d]⟩ → c ≠ d → z ≠ y ++ cutS z (some 1) none := fun d y ey n e => by
      have this : z.cps.toList = (y ++ cutS z (some 1) none).cps.toList := congrArg (fun s : Str => s.cps.toList) e
      rw [cps_toList_append, ec, ey] at this
      injection this with h1 _
      exact n h1
    have hat : atI z.cps.toList (0 : Int) = some c := at_of' (j := 0) rfl (by rw [ec]; rfl)
    refine ⟨_, rfl, _, _, c, rfl, rfl, hz2, hat, rfl, _, rfl, ite2 (fun e => ?_) (fun e => ?_)⟩
    · have hc : c = 121 := one_inj (V.str.inj (of_decide_eq_true e))
      refine ⟨_, rfl, 1, rfl, z, rfl, hz2, _, _, rfl, rfl, ?_, ?_⟩
      · exact Nat.le_of_lt (small1000 (by rw [cut1_len l.1, show ("z" : Str).length = 1 by decide +kernel]; omega))
      · exact q _ (tok_new tz (by decide +kernel) (all_sgn (by decide +kernel))) (hne 122 "z" rfl (by omega))
    · have hc : c ≠ 121 := fun z => e (decide_eq_true (by rw [z]; rfl))
      refine ⟨_, rfl, 1, rfl, z, rfl, hz2, _, _, rfl, rfl, ?_, ?_⟩
      · exact Nat.le_of_lt (small1000 (by rw [cut1_len l.1, show ("y" : Str).length = 1 by decide +kernel]; omega))
      · exact q _ (tok_new tz (by decide +kernel) (all_sgn (by decide +kernel))) (hne 121 "y" rfl hc)
theorem ok_spoilt_page (T : Tab K mg) : FnOk P w K mg base CX0 1 T.f_spoilt_page T.d_spoilt_page ["_law_page", "_law_way"] (sp_spoilt_page K) := by
  refine T.F_spoilt_page.ok sc_spoilt_page (fun vs H Q E h => ?_) (fun cdv A outer s H vs Q E hr h => ?_)
  · obtain ⟨v, p, k, rfl, _⟩ := h
    rfl
  · obtain ⟨v, p, k, rfl, hk, hv, ok, q⟩ := h
    refine ⟨_, (pss_cons (ps_asg (pv 0) (pg_tup (by rfl) (pgs_cons (pg_name (i := 2) sc_spoilt_page.nd rfl (.inl rfl)) (pgs_cons (pg_name (i := 3) sc_spoilt_page.nd rfl (.inl rfl)) pgs_nil))))
      (pss_cons (ps_set (i := 4) sc_spoilt_page.nd rfl (.inl rfl) (pe_lst (pa_cons pe_non (pa_cons pe_str (pa_cons (pe_tup (pa_cons (pv 2) pa_nil)) (pa_cons (pe_tup (pa_cons (pv 2) (pa_cons pe_int pa_nil))) (pa_cons (pe_tup (pa_cons (pv 2) (pa_cons (pe_un un_neg pe_int) pa_nil))) (pa_cons (pe_tup (pa_cons (pv 2) (pa_cons pe_bl pa_nil))) (pa_cons (pe_tup (pa_cons (pv 2) (pa_cons (pv 3) (pa_cons pe_int pa_nil)))) (pa_cons (pe_tup (pa_cons (pe_tup pa_nil) (pa_cons (pv 3) pa_nil))) pa_nil))))))))))
      (pss_cons (ps_set (i := 4) sc_spoilt_page.nd rfl (.inl rfl) (pe_op op_cat (pv 4) (pe_lst (pa_cons (pe_tup (pa_cons (pe_op op_catA (pe_slice sl_tupA (pv 2) po_none (po_some (pe_un un_neg pe_int))) (pe_tup (pa_cons pe_int pa_nil))) (pa_cons (pv 3) pa_nil))) (pa_cons (pe_tup (pa_cons (pe_tup (pa_cons pe_int (pa_cons pe_int (pa_cons pe_int (pa_cons pe_int pa_nil))))) (pa_cons (pv 3) pa_nil))) (pa_cons (pe_tup (pa_cons (pe_tup (pa_cons pe_int pa_nil)) (pa_cons (pv 3) pa_nil))) (pa_cons (pe_tup (pa_cons (pe_tup (pa_cons pe_int (pa_cons (pe_un un_neg pe_int) (pa_cons pe_int pa_nil)))) (pa_cons (pv 3) pa_nil))) (pa_cons (pe_tup (pa_cons pe_str (pa_cons (pv 3) pa_nil))) pa_nil))))))))
      (pss_one (ps_ret (pe_ix ix_list (pv 4) (pv 1) (fun _ _ => rfl))))))), ?_⟩
    obtain ⟨a, l, rfl, ha, hl⟩ := tpP_inv hv
    have l3 := ok.1.1
    refine ⟨_, rfl, a, _, rfl, .inl (.inl ha), rfl, _, _, rfl, _, _, rfl, rfl, ?_⟩
    refine ⟨_, rfl, (by show 1 ≤ sizeLine; decide), fun t3 nt3 => ?_⟩
    have s1 := same_upd (o := .tup [.ref l]) nt3
    have et3 : upd H t3 (.tup [.ref l]) t3 = some (.tup [.ref l]) := upd_same
    generalize upd H t3 (.tup [.ref l]) = H1 at s1 et3 ⊢
    have c1 : Same H H1 := s1
    refine ⟨_, rfl, (by show 2 ≤ sizeLine; decide), fun t4 nt4 => ?_⟩
    have s2 := same_upd (o := .tup [.ref l, .int 2]) nt4
    have et4 : upd H1 t4 (.tup [.ref l, .int 2]) t4 = some (.tup [.ref l, .int 2]) := upd_same
    generalize upd H1 t4 (.tup [.ref l, .int 2]) = H2 at s2 et4 ⊢
    have c2 : Same H H2 := c1.trans s2
    refine ⟨_, rfl, 1, rfl, (by show 2 ≤ sizeLine; decide), fun t5 nt5 => ?_⟩
    have s3 := same_upd (o := .tup [.ref l, .int (-1)]) nt5
    have et5 : upd H2 t5 (.tup [.ref l, .int (-1)]) t5 = some (.tup [.ref l, .int (-1)]) := upd_same
    generalize upd H2 t5 (.tup [.ref l, .int (-1)]) = H3 at s3 et5 ⊢
    have c3 : Same H H3 := c2.trans s3
    refine ⟨_, rfl, (by show 2 ≤ sizeLine; decide), fun t6 nt6 => ?_⟩
    have s4 := same_upd (o := .tup [.ref l, .bl true]) nt6
    have et6 : upd H3 t6 (.tup [.ref l, .bl true]) t6 = some (.tup [.ref l, .bl true]) := upd_same
    generalize upd H3 t6 (.tup [.ref l, .bl true]) = H4 at s4 et6 ⊢
    have c4 : Same H H4 := c3.trans s4
    refine ⟨_, rfl, _, rfl, (by show 3 ≤ sizeLine; decide), fun t7 nt7 => ?_⟩
    have s5 := same_upd (o := .tup [.ref l, .int p.2, .int 0]) nt7
    have et7 : upd H4 t7 (.tup [.ref l, .int p.2, .int 0]) t7 = some (.tup [.ref l, .int p.2, .int 0]) := upd_same
    generalize upd H4 t7 (.tup [.ref l, .int p.2, .int 0]) = H5 at s5 et7 ⊢
    have c5 : Same H H5 := c4.trans s5
    refine ⟨(by show 0 ≤ sizeLine; decide), fun u8 nu8 => ?_⟩
    have s6 := same_upd (o := .tup []) nu8
    have eu8 : upd H5 u8 (.tup []) u8 = some (.tup []) := upd_same
    generalize upd H5 u8 (.tup []) = H6 at s6 eu8 ⊢
    have c6 : Same H H6 := c5.trans s6
    refine ⟨_, rfl, (by show 2 ≤ sizeLine; decide), fun t8 nt8 => ?_⟩
    have s7 := same_upd (o := .tup [.ref u8, .int p.2]) nt8
    have et8 : upd H6 t8 (.tup [.ref u8, .int p.2]) t8 = some (.tup [.ref u8, .int p.2]) := upd_same
    generalize upd H6 t8 (.tup [.ref u8, .int p.2]) = H7 at s7 et8 ⊢
    have c7 : Same H H7 := c6.trans s7
    refine ⟨(by show 8 ≤ sizeLine; decide), fun P nP => ?_⟩
    have s8 := same_upd (o := .lst [.non, .str "7a", .ref t3, .ref t4, .ref t5, .ref t6, .ref t7, .ref t8]) nP
    have eP : upd H7 P (.lst [.non, .str "7a", .ref t3, .ref t4, .ref t5, .ref t6, .ref t7, .ref t8]) P = some (.lst [.non, .str "7a", .ref t3, .ref t4, .ref t5, .ref t6, .ref t7, .ref t8]) := upd_same
    generalize upd H7 P (.lst [.non, .str "7a", .ref t3, .ref t4, .ref t5, .ref t6, .ref t7, .ref t8]) = H8 at s8 eP ⊢
    have c8 : Same H H8 := c7.trans s8
    refine ⟨_, rfl, ?_⟩
    refine ⟨_, rfl, 1, rfl, -1, rfl, sl_goT (c8 _ _ hl) fun w H9 s9 ew => ?_⟩
    rw [cut_last, ← List.map_dropLast] at ew
    have c9 : Same H H9 := c8.trans s9
    refine ⟨(by show 1 ≤ sizeLine; decide), fun z9 nz9 => ?_⟩
    have s10 := same_upd (o := .tup [.int 0]) nz9
    have ez9 : upd H9 z9 (.tup [.int 0]) z9 = some (.tup [.int 0]) := upd_same
    generalize upd H9 z9 (.tup [.int 0]) = H10 at s10 ez9 ⊢
    have c10 : Same H H10 := c9.trans s10
    refine cat_goT (s10 _ _ ew) ez9 (by rw [List.length_map, List.length_dropLast]; show _ + 1 ≤ 1000; omega) fun x9 H11 s11 ex9 => ?_
    have c11 : Same H H11 := c10.trans s11
    refine ⟨_, rfl, (by show 2 ≤ sizeLine; decide), fun t9 nt9 => ?_⟩
    have s12 := same_upd (o := .tup [.ref x9, .int p.2]) nt9
    have et9 : upd H11 t9 (.tup [.ref x9, .int p.2]) t9 = some (.tup [.ref x9, .int p.2]) := upd_same
    generalize upd H11 t9 (.tup [.ref x9, .int p.2]) = H12 at s12 et9 ⊢
    have c12 : Same H H12 := c11.trans s12
    refine ⟨(by show 4 ≤ sizeLine; decide), fun u10 nu10 => ?_⟩
    have s13 := same_upd (o := .tup [.int 1, .int 2, .int 3, .int 4]) nu10
    have eu10 : upd H12 u10 (.tup [.int 1, .int 2, .int 3, .int 4]) u10 = some (.tup [.int 1, .int 2, .int 3, .int 4]) := upd_same
    generalize upd H12 u10 (.tup [.int 1, .int 2, .int 3, .int 4]) = H13 at s13 eu10 ⊢
    have c13 : Same H H13 := c12.trans s13
    refine ⟨_, rfl, (by show 2 ≤ sizeLine; decide), fun t10 nt10 => ?_⟩
    have s14 := same_upd (o := .tup [.ref u10, .int p.2]) nt10
    have et10 : upd H13 t10 (.tup [.ref u10, .int p.2]) t10 = some (.tup [.ref u10, .int p.2]) := upd_same
    generalize upd H13 t10 (.tup [.ref u10, .int p.2]) = H14 at s14 et10 ⊢
    have c14 : Same H H14 := c13.trans s14
    refine ⟨(by show 1 ≤ sizeLine; decide), fun u11 nu11 => ?_⟩
    have s15 := same_upd (o := .tup [.int 100]) nu11
    have eu11 : upd H14 u11 (.tup [.int 100]) u11 = some (.tup [.int 100]) := upd_same
    generalize upd H14 u11 (.tup [.int 100]) = H15 at s15 eu11 ⊢
    have c15 : Same H H15 := c14.trans s15
    refine ⟨_, rfl, (by show 2 ≤ sizeLine; decide), fun t11 nt11 => ?_⟩
    have s16 := same_upd (o := .tup [.ref u11, .int p.2]) nt11
    have et11 : upd H15 t11 (.tup [.ref u11, .int p.2]) t11 = some (.tup [.ref u11, .int p.2]) := upd_same
    generalize upd H15 t11 (.tup [.ref u11, .int p.2]) = H16 at s16 et11 ⊢
    have c16 : Same H H16 := c15.trans s16
    refine ⟨1, rfl, (by show 3 ≤ sizeLine; decide), fun u12 nu12 => ?_⟩
    have s17 := same_upd (o := .tup [.int 0, .int (-1), .int 1]) nu12
    have eu12 : upd H16 u12 (.tup [.int 0, .int (-1), .int 1]) u12 = some (.tup [.int 0, .int (-1), .int 1]) := upd_same
    generalize upd H16 u12 (.tup [.int 0, .int (-1), .int 1]) = H17 at s17 eu12 ⊢
    have c17 : Same H H17 := c16.trans s17
    refine ⟨_, rfl, (by show 2 ≤ sizeLine; decide), fun t12 nt12 => ?_⟩
    have s18 := same_upd (o := .tup [.ref u12, .int p.2]) nt12
    have et12 : upd H17 t12 (.tup [.ref u12, .int p.2]) t12 = some (.tup [.ref u12, .int p.2]) := upd_same
    generalize upd H17 t12 (.tup [.ref u12, .int p.2]) = H18 at s18 et12 ⊢
    have c18 : Same H H18 := c17.trans s18
    refine ⟨_, rfl, (by show 2 ≤ sizeLine; decide), fun t13 nt13 => ?_⟩
    have s19 := same_upd (o := .tup [.str "7", .int p.2]) nt13
    have et13 : upd H18 t13 (.tup [.str "7", .int p.2]) t13 = some (.tup [.str "7", .int p.2]) := upd_same
    generalize upd H18 t13 (.tup [.str "7", .int p.2]) = H19 at s19 et13 ⊢
    have c19 : Same H H19 := c18.trans s19
    refine ⟨(by show 5 ≤ sizeLine; decide), fun R nR => ?_⟩
    have s20 := same_upd (o := .lst [.ref t9, .ref t10, .ref t11, .ref t12, .ref t13]) nR
    have eR : upd H19 R (.lst [.ref t9, .ref t10, .ref t11, .ref t12, .ref t13]) R = some (.lst [.ref t9, .ref t10, .ref t11, .ref t12, .ref t13]) := upd_same
    generalize upd H19 R (.lst [.ref t9, .ref t10, .ref t11, .ref t12, .ref t13]) = H20 at s20 eR ⊢
    have c20 : Same H H20 := c19.trans s20
    have ft3 := (s20 _ _ (s19 _ _ (s18 _ _ (s17 _ _ (s16 _ _ (s15 _ _ (s14 _ _ (s13 _ _ (s12 _ _ (s11 _ _ (s10 _ _ (s9 _ _ (s8 _ _ (s7 _ _ (s6 _ _ (s5 _ _ (s4 _ _ (s3 _ _ (s2 _ _ et3)))))))))))))))))))
    have ft4 := (s20 _ _ (s19 _ _ (s18 _ _ (s17 _ _ (s16 _ _ (s15 _ _ (s14 _ _ (s13 _ _ (s12 _ _ (s11 _ _ (s10 _ _ (s9 _ _ (s8 _ _ (s7 _ _ (s6 _ _ (s5 _ _ (s4 _ _ (s3 _ _ et4))))))))))))))))))
    have ft5 := (s20 _ _ (s19 _ _ (s18 _ _ (s17 _ _ (s16 _ _ (s15 _ _ (s14 _ _ (s13 _ _ (s12 _ _ (s11 _ _ (s10 _ _ (s9 _ _ (s8 _ _ (s7 _ _ (s6 _ _ (s5 _ _ (s4 _ _ et5)))))))))))))))))
    have ft6 := (s20 _ _ (s19 _ _ (s18 _ _ (s17 _ _ (s16 _ _ (s15 _ _ (s14 _ _ (s13 _ _ (s12 _ _ (s11 _ _ (s10 _ _ (s9 _ _ (s8 _ _ (s7 _ _ (s6 _ _ (s5 _ _ et6))))))))))))))))
    have ft7 := (s20 _ _ (s19 _ _ (s18 _ _ (s17 _ _ (s16 _ _ (s15 _ _ (s14 _ _ (s13 _ _ (s12 _ _ (s11 _ _ (s10 _ _ (s9 _ _ (s8 _ _ (s7 _ _ (s6 _ _ et7)))))))))))))))
    have fu8 := (s20 _ _ (s19 _ _ (s18 _ _ (s17 _ _ (s16 _ _ (s15 _ _ (s14 _ _ (s13 _ _ (s12 _ _ (s11 _ _ (s10 _ _ (s9 _ _ (s8 _ _ (s7 _ _ eu8))))))))))))))
    have ft8 := (s20 _ _ (s19 _ _ (s18 _ _ (s17 _ _ (s16 _ _ (s15 _ _ (s14 _ _ (s13 _ _ (s12 _ _ (s11 _ _ (s10 _ _ (s9 _ _ (s8 _ _ et8)))))))))))))
    have fP := (s20 _ _ (s19 _ _ (s18 _ _ (s17 _ _ (s16 _ _ (s15 _ _ (s14 _ _ (s13 _ _ (s12 _ _ (s11 _ _ (s10 _ _ (s9 _ _ eP))))))))))))
    have fz9 := (s20 _ _ (s19 _ _ (s18 _ _ (s17 _ _ (s16 _ _ (s15 _ _ (s14 _ _ (s13 _ _ (s12 _ _ (s11 _ _ ez9))))))))))
    have fx9 := (s20 _ _ (s19 _ _ (s18 _ _ (s17 _ _ (s16 _ _ (s15 _ _ (s14 _ _ (s13 _ _ (s12 _ _ ex9)))))))))
    have ft9 := (s20 _ _ (s19 _ _ (s18 _ _ (s17 _ _ (s16 _ _ (s15 _ _ (s14 _ _ (s13 _ _ et9))))))))
    have fu10 := (s20 _ _ (s19 _ _ (s18 _ _ (s17 _ _ (s16 _ _ (s15 _ _ (s14 _ _ eu10)))))))
    have ft10 := (s20 _ _ (s19 _ _ (s18 _ _ (s17 _ _ (s16 _ _ (s15 _ _ et10))))))
    have fu11 := (s20 _ _ (s19 _ _ (s18 _ _ (s17 _ _ (s16 _ _ eu11)))))
    have ft11 := (s20 _ _ (s19 _ _ (s18 _ _ (s17 _ _ et11))))
    have fu12 := (s20 _ _ (s19 _ _ (s18 _ _ eu12)))
    have ft12 := (s20 _ _ (s19 _ _ et12))
    have ft13 := (s20 _ _ et13)
    have fR := eR
    have fl := c20 _ _ hl
    have dl : Tp _ (.ref l) (dL p.1) := tpL fl
    have d8 : TpAll H20 [.non, .str "7a", .ref t3, .ref t4, .ref t5, .ref t6, .ref t7, .ref t8] [.none, .str "7a", .tuple [dL p.1], .tuple [dL p.1, .int 2], .tuple [dL p.1, .int (-1)], .tuple [dL p.1, .bool true], .tuple [dL p.1, .int p.2, .int 0], .tuple [.tuple [], .int p.2]] := .cons .non (.cons (.str _) (.cons (.tup ft3 (.cons dl .nil)) (.cons (.tup ft4 (.cons dl (.cons (.int _) .nil))) (.cons (.tup ft5 (.cons dl (.cons (.int _) .nil))) (.cons (.tup ft6 (.cons dl (.cons (.bl _) .nil))) (.cons (.tup ft7 (.cons dl (.cons (.int _) (.cons (.int _) .nil)))) (.cons (.tup ft8 (.cons (.tup fu8 .nil) (.cons (.int _) .nil))) .nil)))))))
    have dx9 : Tp H20 (.ref x9) (.tuple ((p.1.dropLast ++ [0]).map PyData.int)) := .tup fx9 (by rw [show p.1.dropLast.map V.int ++ [V.int 0] = (p.1.dropLast ++ [0]).map V.int by rw [List.map_append]; rfl]; exact .ints _)
    have d5 : TpAll H20 [.ref t9, .ref t10, .ref t11, .ref t12, .ref t13] [.tuple [.tuple ((p.1.dropLast ++ [0]).map PyData.int), .int p.2], .tuple [.tuple [.int 1, .int 2, .int 3, .int 4], .int p.2], .tuple [.tuple [.int 100], .int p.2], .tuple [.tuple [.int 0, .int (-1), .int 1], .int p.2], .tuple [.str "7", .int p.2]] := .cons (.tup ft9 (.cons dx9 (.cons (.int _) .nil))) (.cons (.tup ft10 (.cons (.tup fu10 (.cons (.int _) (.cons (.int _) (.cons (.int _) (.cons (.int _) .nil))))) (.cons (.int _) .nil))) (.cons (.tup ft11 (.cons (.tup fu11 (.cons (.int _) .nil)) (.cons (.int _) .nil))) (.cons (.tup ft12 (.cons (.tup fu12 (.cons (.int _) (.cons (.int _) (.cons (.int _) .nil)))) (.cons (.int _) .nil))) (.cons (.tup ft13 (.cons (.str _) (.cons (.int _) .nil))) .nil))))
    refine ⟨P, R, _, _, rfl, rfl, fP, fR, (by show 8 + 5 ≤ sizeLine; decide), fun S nS => ?_⟩
    have sS := same_upd (o := .lst ([.non, .str "7a", .ref t3, .ref t4, .ref t5, .ref t6, .ref t7, .ref t8] ++ [.ref t9, .ref t10, .ref t11, .ref t12, .ref t13])) nS
    have tA := (d8.app d5).nl (NL.of sS)
    obtain ⟨d, hd⟩ : ∃ d, (bad8 p ++ bad5 p)[k]? = some d := ⟨_, List.getElem?_eq_getElem (by show k < 13; omega)⟩
    obtain ⟨y, hy, ty⟩ := tA.get2 hd
    have bad := bad_P ok (List.mem_of_getElem? hd)
    exact ⟨_, rfl, _, rfl, S, _, _, y, rfl, rfl, .inl (.inl upd_same), at_of' rfl hy, q y d _ (c20.trans sS) ty bad.1 bad.2 (bad_Pz (List.mem_of_getElem? hd))⟩
theorem ok_is_within (T : Tab K mg) : FnOk P w K mg base CX0 2 T.f_is_within T.d_is_within ["thing", "least", "most"] (sp_is_within K) := by
  refine T.F_is_within.ok sc_is_within (fun vs H Q E h => ?_) (fun cdv A outer s H vs Q E hr h => ?_)
  · obtain ⟨v, d, l, m, rfl, _⟩ := h
    rfl
  · obtain ⟨v, d, l, m, rfl, hd, q⟩ := h
    refine ⟨_, (pss_one (ps_ret (pe_and (pe_call (ok_is_integer T) (hr.mono (by decide)) (by rfl) T.g_is_integer T.F_is_integer.kp T.b_is_integer .nil pass0 (pa_cons (pv 0) pa_nil)) (pe_one (pe_chain op_le op_le (pv 1) (pv 0) (pv 2)))))), ?_⟩
    refine ⟨_, rfl, _, d, rfl, hd, ?_⟩
    cases hd with
    | int i =>
      refine ⟨true, rfl, iteT ?_⟩
      refine ⟨_, rfl, _, rfl, _, _, rfl, rfl, _, rfl, ite2 (fun e => ?_) (fun e => ?_)⟩
      · have h1 : l ≤ i := of_decide_eq_true e
        refine ⟨_, rfl, _, _, rfl, rfl, ?_⟩
        have : wI l m (.int i) = decide (i ≤ m) := by
          show decide (l ≤ i ∧ i ≤ m) = _
          simp [h1]
        rw [this] at q
        exact q
      · have h1 : ¬ l ≤ i := fun h => e (decide_eq_true h)
        have : wI l m (.int i) = false := by
          show decide (l ≤ i ∧ i ≤ m) = _
          simp [h1]
        rw [this] at q
        exact q
    | non => exact ⟨false, rfl, q⟩
    | bl b => exact ⟨false, rfl, q⟩
    | str z => exact ⟨false, rfl, q⟩
    | lst h _ => exact ⟨false, rfl, q⟩
    | tup h _ => exact ⟨false, rfl, q⟩
theorem ok_is_sized (T : Tab K mg) : FnOk P w K mg base CX0 2 T.f_is_sized T.d_is_sized ["thing", "least", "most"] (sp_is_sized K) := by
  refine T.F_is_sized.ok sc_is_sized (fun vs H Q E h => ?_) (fun cdv A outer s H vs Q E hr h => ?_)
  · obtain ⟨v, d, l, m, rfl, _⟩ := h
    rfl
  · obtain ⟨v, d, l, m, rfl, hd, q⟩ := h
    refine ⟨_, (pss_one (ps_ret (pe_and (pe_call (ok_is_tuple T) (hr.mono (by decide)) (by rfl) T.g_is_tuple T.F_is_tuple.kp T.b_is_tuple .nil pass0 (pa_cons (pv 0) pa_nil)) (pe_one (pe_chain op_le op_le (pv 1) (pe_callB call_len_seq (by rfl) T.m_len PySem.boot_len (pa_cons (pv 0) pa_nil)) (pv 2)))))), ?_⟩
    refine ⟨_, rfl, v, rfl, .inr ⟨d, hd, fun H1 s1 => ?_⟩⟩
    have q1 := q H1 s1
    have cut : ∀ ds : List PyData, items d = some ds → ∀ e : Bool, (l ≤ (ds.length : Int)) → (decide ((ds.length : Int) ≤ m) = e) → sz l m d = e := fun ds hi e h1 h2 => by
      unfold sz
      rw [hi]
      simp only
      rw [← h2]
      simp [h1]
    have cut0 : ∀ ds : List PyData, items d = some ds → ¬ (l ≤ (ds.length : Int)) → sz l m d = false := fun ds hi h1 => by
      unfold sz
      rw [hi]
      simp [h1]
    cases hd with
    | lst h k =>
      rename_i a xs ds
      have el := dpAll_len k
      refine ⟨true, rfl, iteT ?_⟩
      refine ⟨_, rfl, _, rfl, _, _, rfl, .inl (s1.seq h), _, _, rfl, rfl, _, rfl, ite2 (fun e => ?_) (fun e => ?_)⟩
      · have h1 := of_decide_eq_true e
        rw [el] at h1 ⊢
        refine ⟨_, rfl, _, _, rfl, rfl, ?_⟩
        rw [cut ds rfl _ h1 rfl] at q1
        exact q1
      · have h1 : ¬ (l ≤ (ds.length : Int)) := fun z => e (by rw [el]; exact decide_eq_true z)
        rw [cut0 ds rfl h1] at q1
        exact q1
    | tup h k =>
      rename_i a xs ds
      have el := dpAll_len k
      refine ⟨true, rfl, iteT ?_⟩
      refine ⟨_, rfl, _, rfl, _, _, rfl, .inr (same_seqT s1 h), _, _, rfl, rfl, _, rfl, ite2 (fun e => ?_) (fun e => ?_)⟩
      · have h1 := of_decide_eq_true e
        rw [el] at h1 ⊢
        refine ⟨_, rfl, _, _, rfl, rfl, ?_⟩
        rw [cut ds rfl _ h1 rfl] at q1
        exact q1
      · have h1 : ¬ (l ≤ (ds.length : Int)) := fun z => e (by rw [el]; exact decide_eq_true z)
        rw [cut0 ds rfl h1] at q1
        exact q1
    | non => exact ⟨false, rfl, q1⟩
    | bl b => exact ⟨false, rfl, q1⟩
    | int i => exact ⟨false, rfl, q1⟩
    | str z => exact ⟨false, rfl, q1⟩
theorem ok_token (T : Tab K mg) : FnOk P w K mg base CX0 2 T.f_token T.d_token ["_law_source_here", "_law_most"] (sp_token K) := by
  refine T.F_token.ok sc_token (fun vs H Q E h => ?_) (fun cdv A outer s H vs Q E hr h => ?_)
  · obtain ⟨a, m, rfl, _⟩ := h
    rfl
  · obtain ⟨a, m, rfl, src, m1, m20, q⟩ := h
    refine ⟨_, (pss_cons (ps_set (i := 2) sc_token.nd rfl (.inl rfl) pe_str)
      (pss_cons (ps_set (i := 3) sc_token.nd rfl (.inl rfl) (pe_op op_add pe_int (pe_call (ok_pick T) (hr.mono (by decide)) (by rfl) T.g_pick T.F_pick.kp T.b_pick .nil pass0 (pa_cons (pv 0) (pa_cons (pv 1) pa_nil)))))
      (pss_cons (ps_set (i := 4) sc_token.nd rfl (.inl rfl) pe_str)
      (pss_cons (ps_for PassesOwn.never rfl (pi_range1 (by rfl) T.m_range (pa_cons (pv 3) pa_nil)) (pg_name (i := 5) sc_token.nd rfl (.inl rfl))
      (pss_cons (ps_set (i := 6) sc_token.nd rfl (.inl rfl) (pe_call (ok_pick T) (hr.mono (by decide)) (by rfl) T.g_pick T.F_pick.kp T.b_pick .nil pass0 (pa_cons (pv 0) (pa_cons (pe_callB call_len_str (by rfl) T.m_len PySem.boot_len (pa_cons (pv 2) pa_nil)) pa_nil))))
        (pss_one (ps_set (i := 4) sc_token.nd rfl (.inl rfl) (pe_op op_add_str (pv 4) (pe_ix ix_str (pv 2) (pv 6) (fun _ _ => rfl)))))))
      (pss_one (ps_ret (pv 4))))))), ?_⟩
    refine ⟨_, rfl, _, rfl, a, m, rfl, src, by omega, by omega, fun r H1 s1 b1 r0 r1 => ⟨_, _, rfl, rfl, ?_⟩⟩
    have e0 : ∀ x ∈ ("" : Str).cps.toList, x ≠ 32 ∧ x < 128 := fun x hx => by cases (show x ∈ ([] : List Nat) from hx)
    refine ⟨_, rfl, _, rfl, by omega, by omega, for_range (lo := 0) (n := (1 + r).toNat) (fun j σ' H' => ∃ (y5 y6 : Option V) (z : Str), σ' = [some (.ref a), some (.int m), some (.str SG), some (.int (1 + r)), some (.str z), y5, y6] ∧ Src H' a ∧ But a H H' ∧ z.length = j ∧ ∀ x ∈ z.cps.toList, x ≠ 32 ∧ x < 128) ⟨none, none, "", rfl, s1, b1, rfl, e0⟩ ?_ ?_⟩
    · rintro j σ' H2 hj ⟨y5, y6, z, rfl, s2, b2, lz, hz⟩
      refine ⟨_, rfl, _, rfl, SG, rfl, by rw [str_len, SG_len, sizeLine_eq]; decide, a, _, rfl, s2, by rw [str_len, SG_len]; decide, by rw [str_len, SG_len]; decide, fun i H3 s3 b3 i0 i1 => ?_⟩
      rw [str_len, SG_len] at i1
      obtain ⟨c, hc⟩ := at_some SG.cps.toList i i0 (by rw [SG_len]; omega)
      have cm : c ∈ SG.cps.toList := by
        obtain ⟨k, rfl⟩ := Int.eq_ofNat_of_zero_le i0
        have := List.getElem?_eq_getElem (show k < SG.cps.toList.length by rw [SG_len]; omega)
        rw [atI_nat this] at hc
        cases hc
        exact List.mem_of_getElem? this
      refine ⟨_, rfl, _, rfl, _, rfl, SG, i, c, rfl, rfl, by rw [str_len, SG_len, sizeLine_eq]; decide, hc, _, _, rfl, rfl, Nat.le_of_lt (small1000 (by have : (⟨#[c]⟩ : Str).length = 1 := rfl; omega)), _, _, _, rfl, s3, b2.trans b3, ?_, app_sgn hz (one_sgn (SG_sgn c cm))⟩
      rw [app_len, lz]
      rfl
    · rintro σ' H2 ⟨y5, y6, z, rfl, s2, b2, lz, hz⟩
      exact ⟨_, rfl, q z H2 s2 b2 (tok_of (by omega) (by omega) hz)⟩
theorem ok_label (T : Tab K mg) : FnOk P w K mg base CX0 2 T.f_label T.d_label ["_law_source_here"] (sp_label K) := by
  refine T.F_label.ok sc_label (fun vs H Q E h => ?_) (fun cdv A outer s H vs Q E hr h => ?_)
  · obtain ⟨a, rfl, _⟩ := h
    rfl
  · obtain ⟨a, rfl, src, q⟩ := h
    refine ⟨_, (pss_cons (ps_set (i := 1) sc_label.nd rfl (.inl rfl) (pe_ix ix_list (pe_lst (pa_cons pe_int (pa_cons pe_int (pa_cons pe_int pa_nil)))) (pe_call (ok_pick T) (hr.mono (by decide)) (by rfl) T.g_pick T.F_pick.kp T.b_pick .nil pass0 (pa_cons (pv 0) (pa_cons pe_int pa_nil))) (fun _ _ => rfl)))
      (pss_cons (ps_set (i := 2) sc_label.nd rfl (.inl rfl) (pe_op op_add pe_int (pe_call (ok_pick T) (hr.mono (by decide)) (by rfl) T.g_pick T.F_pick.kp T.b_pick .nil pass0 (pa_cons (pv 0) (pa_cons pe_int pa_nil)))))
      (pss_cons (ps_set (i := 3) sc_label.nd rfl (.inl rfl) (pe_lst pa_nil))
      (pss_cons (ps_for PassesOwn.never rfl (pi_range1 (by rfl) T.m_range (pa_cons (pv 2) pa_nil)) (pg_name (i := 4) sc_label.nd rfl (.inl rfl))
      (pss_one (ps_expr (pe_bm PySem.F.plainAttrs_list PySem.F.slot_list_append PySem.F.type_list_append mt_append (pv 3) (pa_cons (pe_call (ok_pick T) (hr.mono (by decide)) (by rfl) T.g_pick T.F_pick.kp T.b_pick .nil pass0 (pa_cons (pv 0) (pa_cons (pv 1) pa_nil))) pa_nil)))))
      (C8.pss_cut (ps_if (pt_cmpR op_eq (pe_ix ix_list (pv 3) (pe_un un_neg pe_int) (fun _ _ => rfl)) pe_int (nomark _))
      (pss_one (ps_asg pe_int (pg_sub (pv 3) (pe_un un_neg pe_int) set_list)))
      pss_nil)
      (pss_one (ps_ret (pe_callTy call_tuple_of (by rfl) T.m_tuple (by decide +kernel) (pa_cons (pv 3) pa_nil))))))))), ?_⟩
    refine ⟨(by show 3 ≤ sizeLine; decide), fun u nu => ?_⟩
    have su := same_upd (o := .lst [.int 3, .int 12, .int 100]) nu
    have hu : upd H u (.lst [.int 3, .int 12, .int 100]) u = some (.lst [.int 3, .int 12, .int 100]) := upd_same
    have un : u ≠ a := (src.ne nu).symm
    generalize upd H u (.lst [.int 3, .int 12, .int 100]) = H0 at su hu
    refine ⟨_, rfl, a, 3, rfl, srcS su src, by decide, by decide, fun i H1 s1 b1 i0 i1 => ?_⟩
    obtain ⟨m, em, m1, m9⟩ : ∃ m : Int, ([.int 3, .int 12, .int 100] : List V)[i.toNat]? = some (.int m) ∧ 1 ≤ m ∧ m ≤ 100 := by
      obtain h | h | h : i.toNat = 0 ∨ i.toNat = 1 ∨ i.toNat = 2 := by omega
      · rw [h]; exact ⟨3, rfl, by decide, by decide⟩
      · rw [h]; exact ⟨12, rfl, by decide, by decide⟩
      · rw [h]; exact ⟨100, rfl, by decide, by decide⟩
    refine ⟨u, _, i, .int m, rfl, rfl, .inl (.inl (b1 _ _ un hu)), at_of' (Int.toNat_of_nonneg i0).symm em, ?_⟩
    have b01 := (But.of (a := a) su).trans b1
    refine ⟨_, rfl, a, 3, rfl, s1, by decide, by decide, fun n1 H2 s2 b2 p1 p2 => ⟨_, _, rfl, rfl, ?_⟩⟩
    have b02 := b01.trans b2
    refine ⟨Nat.zero_le _, fun D nD => ?_⟩
    have nDa : D ≠ a := (s2.ne nD).symm
    have fD : H D = none := b02.none nD nDa
    refine ⟨_, rfl, _, rfl, by omega, by omega, for_range (lo := 0) (n := (1 + n1).toNat) (fun j σ' H' => ∃ (y4 : Option V), σ' = [some (.ref a), some (.int m), some (.int (1 + n1)), some (.ref D), y4] ∧ Src H' a ∧ But a H H' ∧ ∃ L : List Int, H' D = some (.lst (L.map V.int)) ∧ L.length = j ∧ ∀ i ∈ L, 0 ≤ i ∧ i ≤ 99) ⟨none, rfl, s2.put nDa.symm _, b02.put fD _, [], upd_same, rfl, fun _ h => nomatch h⟩ ?_ ?_⟩
    · rintro j σ' H3 hj ⟨y4, rfl, s3, b3, L, eD, lL, bL⟩
      refine ⟨_, rfl, .inl ⟨rfl, _, .inl (.inl eD)⟩, _, rfl, _, rfl, a, m, rfl, s3, by omega, by omega, fun v H4 s4 b4 p3 p4 => ?_⟩
      refine ⟨D, _, _, rfl, rfl, b4 _ _ nDa eD, by rw [List.length_map]; exact small1000 (by omega), _, rfl, s4.put nDa.symm _, (b3.trans b4).put fD _, L ++ [v], ?_, ?_, ?_⟩
      · rw [upd_same, List.map_append]; rfl
      · rw [List.length_append, lL]; rfl
      · intro i hi
        rcases List.mem_append.mp hi with h | h
        · exact bL _ h
        · rw [List.mem_singleton.mp h]; omega
    · rintro σ' H3 ⟨y4, rfl, s2, b2, L, eD2, lL, bL⟩
      have hne : L ≠ [] := fun e => by rw [e] at lL; simp at lL; omega
      obtain ⟨R, x, rfl⟩ : ∃ R x, L = R ++ [x] := ⟨_, _, (List.dropLast_concat_getLast hne).symm⟩
      have hx := bL x (by simp)
      have lR : (R ++ [x]).length ≤ 3 := by omega
      refine ⟨fun σ' H' => ∃ (L : List Int), σ' = [some (.ref a), some (.int m), some (.int (1 + n1)), some (.ref D), y4] ∧ Src H' a ∧ But a H H' ∧ H' D = some (.lst (L.map V.int)) ∧ okL L, ?_, ?_⟩
      · refine ⟨_, rfl, 1, rfl, D, _, -1, .int x, rfl, rfl, .inl (.inl eD2), at_end R x, rfl, _, rfl, ite2 (fun e => ?_) (fun e => ?_)⟩
        · refine ⟨_, rfl, 1, rfl, D, _, -1, _, rfl, rfl, eD2, ixN_end R x, ?_⟩
          refine ⟨R ++ [1], rfl, s2.put nDa.symm _, b2.put fD _, ?_, ?_, ?_, ?_⟩
          · rw [upd_same, set_end]
          · rw [List.length_append] at lR ⊢; exact lR
          · rw [List.getLastD_eq_getLast?, List.getLast?_append]
            show (1 : Int) ≠ 0
            omega
          · intro i hi
            rcases List.mem_append.mp hi with h | h
            · exact bL _ (List.mem_append_left _ h)
            · rw [List.mem_singleton.mp h]; omega
        · have hx0 : x ≠ 0 := fun h => e (decide_eq_true (congrArg V.int h))
          refine ⟨_, rfl, s2, b2, eD2, lR, ?_, bL⟩
          rw [List.getLastD_eq_getLast?, List.getLast?_append]
          exact hx0
      · rintro σ' H4 ⟨L, rfl, s3, b3, eD3, hL⟩
        refine ⟨_, rfl, D, _, rfl, .inl ⟨.inl (.inl eD3), fun l nl => ?_⟩⟩
        have nla : l ≠ a := (s3.ne nl).symm
        exact q l L _ (s3.put nla.symm _) (b3.trans (But.of (same_upd nl))) upd_same hL
theorem ok_spoilt (T : Tab K mg) : FnOk P w K mg base CX0 2 T.f_spoilt T.d_spoilt ["_law_source_here", "_law_one"] (sp_spoilt K) := by
  refine T.F_spoilt.ok sc_spoilt (fun vs H Q E h => ?_) (fun cdv A outer s H vs Q E hr h => ?_)
  · obtain ⟨a, v, c, rfl, _⟩ := h
    rfl
  · obtain ⟨a, v, c, rfl, src, hv, ok, q⟩ := h
    refine ⟨_, (pss_cons (ps_asg (pv 1) (pg_tup (by rfl) (pgs_cons (pg_name (i := 2) sc_spoilt.nd rfl (.inl rfl)) (pgs_cons (pg_name (i := 3) sc_spoilt.nd rfl (.inl rfl)) (pgs_cons (pg_name (i := 4) sc_spoilt.nd rfl (.inl rfl)) (pgs_cons (pg_name (i := 5) sc_spoilt.nd rfl (.inl rfl)) (pgs_cons (pg_name (i := 6) sc_spoilt.nd rfl (.inl rfl)) pgs_nil)))))))
      (pss_cons (ps_set (i := 7) sc_spoilt.nd rfl (.inl rfl) (pe_lst (pa_cons pe_str (pa_cons pe_str (pa_cons pe_str (pa_cons pe_non (pa_cons pe_int (pa_cons (pe_tup (pa_cons pe_str pa_nil)) pa_nil))))))))
      (pss_cons (ps_set (i := 8) sc_spoilt.nd rfl (.inl rfl) (pe_call (ok_pick T) (hr.mono (by decide)) (by rfl) T.g_pick T.F_pick.kp T.b_pick .nil pass0 (pa_cons (pv 0) (pa_cons pe_int pa_nil))))
      (pss_cons (ps_if (pt_cmpR op_eq (pv 8) pe_int (nomark _))
      (pss_one (ps_ret (pe_tup (pa_cons (pe_call (ok_spoilt_page T) (hr.mono (by decide)) (by rfl) T.g_spoilt_page T.F_spoilt_page.kp T.b_spoilt_page .nil pass0 (pa_cons (pv 2) (pa_cons (pe_call (ok_pick T) (hr.mono (by decide)) (by rfl) T.g_pick T.F_pick.kp T.b_pick .nil pass0 (pa_cons (pv 0) (pa_cons pe_int pa_nil))) pa_nil))) (pa_cons (pv 3) (pa_cons (pv 4) (pa_cons (pv 5) (pa_cons (pv 6) pa_nil))))))))
      pss_nil)
      (pss_cons (ps_if (pt_cmpR op_eq (pv 8) pe_int (nomark _))
      (pss_one (ps_ret (pe_tup (pa_cons (pv 2) (pa_cons (pe_ix ix_list (pe_lst (pa_cons (pe_un un_neg pe_int) (pa_cons pe_int (pa_cons pe_bl (pa_cons pe_non (pa_cons pe_str pa_nil)))))) (pe_call (ok_pick T) (hr.mono (by decide)) (by rfl) T.g_pick T.F_pick.kp T.b_pick .nil pass0 (pa_cons (pv 0) (pa_cons pe_int pa_nil))) (fun _ _ => rfl)) (pa_cons (pv 4) (pa_cons (pv 5) (pa_cons (pv 6) pa_nil))))))))
      pss_nil)
      (pss_cons (ps_if (pt_cmpR op_eq (pv 8) pe_int (nomark _))
      (pss_one (ps_ret (pe_tup (pa_cons (pv 2) (pa_cons (pv 3) (pa_cons (pe_ix ix_list (pe_lst (pa_cons (pe_un un_neg pe_int) (pa_cons pe_int (pa_cons pe_bl (pa_cons pe_non (pa_cons pe_str pa_nil)))))) (pe_call (ok_pick T) (hr.mono (by decide)) (by rfl) T.g_pick T.F_pick.kp T.b_pick .nil pass0 (pa_cons (pv 0) (pa_cons pe_int pa_nil))) (fun _ _ => rfl)) (pa_cons (pv 5) (pa_cons (pv 6) pa_nil))))))))
      pss_nil)
      (pss_cons (ps_if (pt_cmpR op_eq (pv 8) pe_int (nomark _))
      (pss_one (ps_ret (pe_tup (pa_cons (pv 2) (pa_cons (pv 3) (pa_cons (pv 4) (pa_cons (pe_ix ix_list (pv 7) (pe_call (ok_pick T) (hr.mono (by decide)) (by rfl) T.g_pick T.F_pick.kp T.b_pick .nil pass0 (pa_cons (pv 0) (pa_cons pe_int pa_nil))) (fun _ _ => rfl)) (pa_cons (pv 6) pa_nil))))))))
      pss_nil)
      (pss_cons (ps_if (pt_cmpR op_eq (pv 8) pe_int (nomark _))
      (pss_one (ps_ret (pe_tup (pa_cons (pv 2) (pa_cons (pv 3) (pa_cons (pv 4) (pa_cons (pv 5) (pa_cons (pe_ix ix_list (pv 7) (pe_call (ok_pick T) (hr.mono (by decide)) (by rfl) T.g_pick T.F_pick.kp T.b_pick .nil pass0 (pa_cons (pv 0) (pa_cons pe_int pa_nil))) (fun _ _ => rfl)) pa_nil))))))))
      pss_nil)
      (pss_cons (ps_if (pt_cmpR op_eq (pv 8) pe_int (nomark _))
      (pss_one (ps_ret (pe_tup (pa_cons (pv 2) (pa_cons (pv 3) (pa_cons (pv 4) (pa_cons (pv 5) (pa_cons (pv 5) pa_nil))))))))
      pss_nil)
      (pss_cons (ps_set (i := 9) sc_spoilt.nd rfl (.inl rfl) (pe_lst (pa_cons (pe_slice sl_tupA (pv 1) po_none (po_some pe_int)) (pa_cons (pe_op op_catA (pv 1) (pe_tup (pa_cons (pv 6) pa_nil))) (pa_cons (pe_tup (pa_cons (pv 1) pa_nil)) (pa_cons (pe_tup pa_nil) (pa_cons pe_non (pa_cons pe_int (pa_cons pe_str pa_nil)))))))))
      (pss_one (ps_ret (pe_ix ix_list (pv 9) (pe_call (ok_pick T) (hr.mono (by decide)) (by rfl) T.g_pick T.F_pick.kp T.b_pick .nil pass0 (pa_cons (pv 0) (pa_cons pe_int pa_nil))) (fun _ _ => rfl)))))))))))))), ?_⟩
    obtain ⟨t, pv, rfl, ht, hp⟩ := tpC_inv hv
    obtain ⟨okp, hr', hw', ho, hn, hne⟩ := id ok
    have lo := ho.len
    have ln := hn.len
    refine ⟨_, rfl, t, _, rfl, .inl (.inl ht), rfl, _, _, rfl, _, _, rfl, _, _, rfl, _, _, rfl, _, _, rfl, rfl, ?_⟩
    refine ⟨(by show 1 ≤ sizeLine; decide), fun u nu => ?_⟩
    have s1 := same_upd (o := .tup [.str "a"]) nu
    have hu : upd H u (.tup [.str "a"]) u = some (.tup [.str "a"]) := upd_same
    generalize upd H u (.tup [.str "a"]) = H1 at s1 hu ⊢
    refine ⟨(by show 6 ≤ sizeLine; decide), fun O nO => ?_⟩
    have s2 := same_upd (o := .lst [.str "", .str "abcdefghijklmnopqrstu", .str "a b", .non, .int 7, .ref u]) nO
    have hO : upd H1 O (.lst [.str "", .str "abcdefghijklmnopqrstu", .str "a b", .non, .int 7, .ref u]) O = some (.lst [.str "", .str "abcdefghijklmnopqrstu", .str "a b", .non, .int 7, .ref u]) := upd_same
    generalize upd H1 O (.lst [.str "", .str "abcdefghijklmnopqrstu", .str "a b", .non, .int 7, .ref u]) = H2 at s2 hO ⊢
    have s02 := s1.trans s2
    have src2 := srcS s02 src
    have tO : TpAll H2 [.str "", .str "abcdefghijklmnopqrstu", .str "a b", .non, .int 7, .ref u] oddS := .cons (.str _) (.cons (.str _) (.cons (.str _) (.cons .non (.cons (.int _) (.cons (.tup (s2 _ _ hu) (.cons (.str _) .nil)) .nil)))))
    have Oa : O ≠ a := ((srcS s1 src).ne nO).symm
    refine ⟨_, rfl, a, 7, rfl, src2, by decide, by decide, fun g H3 s3 b3 g0 g1 => ?_⟩
    have b03 := (But.of s02).trans b3
    have nl3 := src2.nl b3
    have hO3 := b3 _ _ Oa hO
    have tO3 := tO.nl nl3
    have hp3 := (hp.nl (NL.of s02)).nl nl3
    have ht3 := nl3 _ _ (s02 _ _ ht) (fun _ z => nomatch z)
    have fin : ∀ {Hx : Hp} {vs : List V} {ds : List PyData}, Src Hx a → But a H Hx → TpAll Hx vs ds → keptC (.tuple ds) = none → (∀ z, PyData.str z ∈ ds → z.length ≤ 200) → ds.length ≤ 1000 → (∀ d ∈ ds, Dn 4 d) → ∀ t', Hx t' = none → Q (.ref t') (upd Hx t' (.tup vs)) := fun sx bx tx k sb l dn t' nt =>
      q _ (.tuple _) _ (srcS (same_upd nt) sx) (bx.trans (But.of (same_upd nt))) (.tup upd_same (tx.nl (NL.of (same_upd nt)))) k (Sb_tup sb) ⟨l, dn⟩
    have shr : ∀ {d : PyData}, (∀ z, PyData.str z = d → z.length ≤ 200) → ∀ z, PyData.str z = d → z.length ≤ 200 := fun h => h
    have co : ∀ z, PyData.str z = .str c.o → z.length ≤ 200 := fun z e => by cases e; omega
    have cn : ∀ z, PyData.str z = .str c.n → z.length ≤ 200 := fun z e => by cases e; omega
    have five : ∀ {d1 d2 d3 d4 d5 : PyData}, (∀ z, PyData.str z = d1 → z.length ≤ 200) → (∀ z, PyData.str z = d2 → z.length ≤ 200) → (∀ z, PyData.str z = d3 → z.length ≤ 200) → (∀ z, PyData.str z = d4 → z.length ≤ 200) → (∀ z, PyData.str z = d5 → z.length ≤ 200) → ∀ z, PyData.str z ∈ [d1, d2, d3, d4, d5] → z.length ≤ 200 := fun h1 h2 h3 h4 h5 z hz => by
      simp only [List.mem_cons, List.not_mem_nil, or_false] at hz
      rcases hz with e | e | e | e | e
      · exact h1 z e
      · exact h2 z e
      · exact h3 z e
      · exact h4 z e
      · exact h5 z e
    have fiveD : ∀ {d1 d2 d3 d4 d5 : PyData}, Dn 4 d1 → Dn 4 d2 → Dn 4 d3 → Dn 4 d4 → Dn 4 d5 → ∀ d ∈ [d1, d2, d3, d4, d5], Dn 4 d := fun h1 h2 h3 h4 h5 d hd => by
      simp only [List.mem_cons, List.not_mem_nil, or_false] at hd
      rcases hd with rfl | rfl | rfl | rfl | rfl <;> assumption
    have zi : ∀ {i : Int}, ∀ z, PyData.str z = .int i → z.length ≤ 200 := fun z e => nomatch e
    have zp : ∀ z, PyData.str z = dP c.p → z.length ≤ 200 := fun z e => nomatch e
    have dp4 : Dn 4 (dP c.p) := dn_P 1 okp
    refine ⟨_, rfl, rfl, _, rfl, ite2 (fun e => ?_) (fun _ => ?_)⟩
    · refine ⟨_, rfl, _, rfl, a, 13, rfl, s3, by decide, by decide, fun r H4 s4 b4 r0 r1 => ?_⟩
      obtain ⟨k, rfl⟩ := Int.eq_ofNat_of_zero_le r0
      refine ⟨_, c.p, k, rfl, by omega, hp3.nl (s3.nl b4), okp, fun y d H5 s5 ty kd dn dz => ?_⟩
      exact ⟨_, rfl, _, rfl, _, rfl, _, rfl, (by show 5 ≤ sizeLine; decide), fin (srcS s5 s4) ((b03.trans b4).trans (But.of s5)) (.cons ty (.cons (.int _) (.cons (.int _) (.cons (.str _) (.cons (.str _) .nil))))) (keptC_page kd) (five (fun z e => dz z e.symm) zi zi co cn) (by show 5 ≤ 1000; decide) (fiveD dn trivial trivial trivial trivial)⟩
    refine ⟨_, rfl, rfl, _, rfl, ite2 (fun e => ?_) (fun _ => ?_)⟩
    · refine ⟨_, rfl, 1, rfl, (by show 5 ≤ sizeLine; decide), fun U nU => ?_⟩
      have s4 := same_upd (o := .lst [.int (-1), .int 12, .bl true, .non, .str "3"]) nU
      have hU : upd H3 U (.lst [.int (-1), .int 12, .bl true, .non, .str "3"]) U = some (.lst [.int (-1), .int 12, .bl true, .non, .str "3"]) := upd_same
      generalize upd H3 U (.lst [.int (-1), .int 12, .bl true, .non, .str "3"]) = H4 at s4 hU ⊢
      have src4 := srcS s4 s3
      refine ⟨_, rfl, a, 5, rfl, src4, by decide, by decide, fun r H5 s5 b5 r0 r1 => ?_⟩
      have tU : TpAll H5 [.int (-1), .int 12, .bl true, .non, .str "3"] oddR := .cons (.int _) (.cons (.int _) (.cons (.bl _) (.cons .non (.cons (.str _) .nil))))
      obtain ⟨d, hd⟩ : ∃ d, oddR[r.toNat]? = some d := ⟨_, List.getElem?_eq_getElem (by show r.toNat < 5; omega)⟩
      obtain ⟨y, hy, ty⟩ := tU.get2 hd
      obtain ⟨k1, k2, k3⟩ := oddR_bad d (List.mem_of_getElem? hd)
      refine ⟨U, _, r, y, rfl, rfl, .inl (.inl (b5 _ _ (s3.ne nU).symm hU)), at_of' (Int.toNat_of_nonneg r0).symm hy, ?_⟩
      exact ⟨_, rfl, _, rfl, _, rfl, (by show 5 ≤ sizeLine; decide), fin s5 ((b03.trans (But.of s4)).trans b5) (.cons ((hp3.nl (NL.of s4)).nl (src4.nl b5)) (.cons ty (.cons (.int _) (.cons (.str _) (.cons (.str _) .nil))))) (keptC_if fun e => by rw [k1] at e; cases e.1) (five zp k2 zi co cn) (by show 5 ≤ 1000; decide) (fiveD dp4 k3 trivial trivial trivial)⟩
    refine ⟨_, rfl, rfl, _, rfl, ite2 (fun e => ?_) (fun _ => ?_)⟩
    · refine ⟨_, rfl, _, rfl, 1, rfl, (by show 5 ≤ sizeLine; decide), fun U nU => ?_⟩
      have s4 := same_upd (o := .lst [.int (-1), .int 30, .bl false, .non, .str "0"]) nU
      have hU : upd H3 U (.lst [.int (-1), .int 30, .bl false, .non, .str "0"]) U = some (.lst [.int (-1), .int 30, .bl false, .non, .str "0"]) := upd_same
      generalize upd H3 U (.lst [.int (-1), .int 30, .bl false, .non, .str "0"]) = H4 at s4 hU ⊢
      have src4 := srcS s4 s3
      refine ⟨_, rfl, a, 5, rfl, src4, by decide, by decide, fun r H5 s5 b5 r0 r1 => ?_⟩
      have tU : TpAll H5 [.int (-1), .int 30, .bl false, .non, .str "0"] oddW := .cons (.int _) (.cons (.int _) (.cons (.bl _) (.cons .non (.cons (.str _) .nil))))
      obtain ⟨d, hd⟩ : ∃ d, oddW[r.toNat]? = some d := ⟨_, List.getElem?_eq_getElem (by show r.toNat < 5; omega)⟩
      obtain ⟨y, hy, ty⟩ := tU.get2 hd
      obtain ⟨k1, k2, k3⟩ := oddW_bad d (List.mem_of_getElem? hd)
      refine ⟨U, _, r, y, rfl, rfl, .inl (.inl (b5 _ _ (s3.ne nU).symm hU)), at_of' (Int.toNat_of_nonneg r0).symm hy, ?_⟩
      exact ⟨_, rfl, _, rfl, (by show 5 ≤ sizeLine; decide), fin s5 ((b03.trans (But.of s4)).trans b5) (.cons ((hp3.nl (NL.of s4)).nl (src4.nl b5)) (.cons (.int _) (.cons ty (.cons (.str _) (.cons (.str _) .nil))))) (keptC_if fun e => by rw [k1] at e; cases e.2.1) (five zp zi k2 co cn) (by show 5 ≤ 1000; decide) (fiveD dp4 trivial k3 trivial trivial)⟩
    refine ⟨_, rfl, rfl, _, rfl, ite2 (fun e => ?_) (fun _ => ?_)⟩
    · refine ⟨_, rfl, _, rfl, _, rfl, _, rfl, _, rfl, a, 6, rfl, s3, by decide, by decide, fun r H5 s5 b5 r0 r1 => ?_⟩
      have nl5 := s3.nl b5
      obtain ⟨d, hd⟩ : ∃ d, oddS[r.toNat]? = some d := ⟨_, List.getElem?_eq_getElem (by show r.toNat < 6; omega)⟩
      obtain ⟨y, hy, ty⟩ := (tO3.nl nl5).get2 hd
      obtain ⟨k1, k2, k3⟩ := oddS_bad d (List.mem_of_getElem? hd)
      refine ⟨O, _, r, y, rfl, rfl, .inl (.inl (b5 _ _ Oa hO3)), at_of' (Int.toNat_of_nonneg r0).symm hy, ?_⟩
      exact ⟨_, rfl, (by show 5 ≤ sizeLine; decide), fin s5 (b03.trans b5) (.cons (hp3.nl nl5) (.cons (.int _) (.cons (.int _) (.cons ty (.cons (.str _) .nil))))) (keptC_if fun e => by rw [k1] at e; cases e.2.2.1) (five zp zi zi k2 cn) (by show 5 ≤ 1000; decide) (fiveD dp4 trivial trivial k3 trivial)⟩
    refine ⟨_, rfl, rfl, _, rfl, ite2 (fun e => ?_) (fun _ => ?_)⟩
    · refine ⟨_, rfl, _, rfl, _, rfl, _, rfl, _, rfl, _, rfl, a, 6, rfl, s3, by decide, by decide, fun r H5 s5 b5 r0 r1 => ?_⟩
      have nl5 := s3.nl b5
      obtain ⟨d, hd⟩ : ∃ d, oddS[r.toNat]? = some d := ⟨_, List.getElem?_eq_getElem (by show r.toNat < 6; omega)⟩
      obtain ⟨y, hy, ty⟩ := (tO3.nl nl5).get2 hd
      obtain ⟨k1, k2, k3⟩ := oddS_bad d (List.mem_of_getElem? hd)
      refine ⟨O, _, r, y, rfl, rfl, .inl (.inl (b5 _ _ Oa hO3)), at_of' (Int.toNat_of_nonneg r0).symm hy, ?_⟩
      exact ⟨(by show 5 ≤ sizeLine; decide), fin s5 (b03.trans b5) (.cons (hp3.nl nl5) (.cons (.int _) (.cons (.int _) (.cons (.str _) (.cons ty .nil))))) (keptC_if fun e => by rw [k1] at e; cases e.2.2.2.1) (five zp zi zi co k2) (by show 5 ≤ 1000; decide) (fiveD dp4 trivial trivial trivial k3)⟩
    refine ⟨_, rfl, rfl, _, rfl, ite2 (fun e => ?_) (fun _ => ?_)⟩
    · exact ⟨_, rfl, _, rfl, _, rfl, _, rfl, _, rfl, (by show 5 ≤ sizeLine; decide), fin s3 b03 (.cons hp3 (.cons (.int _) (.cons (.int _) (.cons (.str _) (.cons (.str _) .nil))))) (keptC_if fun e => e.2.2.2.2 rfl) (five zp zi zi co co) (by show 5 ≤ 1000; decide) (fiveD dp4 trivial trivial trivial trivial)⟩
    refine ⟨_, rfl, noPart ⟨4, rfl, sl_goT ht3 fun c1 H4 s4 e4 => ?_⟩⟩
    have e4 : H4 c1 = some (.tup [pv, .int c.r, .int c.w, .str c.o]) := e4
    refine ⟨_, rfl, _, rfl, (by show 1 ≤ sizeLine; decide), fun u2 nu2 => ?_⟩
    have s5 := same_upd (o := .tup [.str c.n]) nu2
    have e5 : upd H4 u2 (.tup [.str c.n]) u2 = some (.tup [.str c.n]) := upd_same
    generalize upd H4 u2 (.tup [.str c.n]) = H5 at s5 e5 ⊢
    refine cat_goT (s5 _ _ (s4 _ _ ht3)) e5 (by show 5 + 1 ≤ 1000; decide) fun c2 H6 s6 e6 => ?_
    refine ⟨_, rfl, (by show 1 ≤ sizeLine; decide), fun c3 n3 => ?_⟩
    have s7 := same_upd (o := .tup [.ref t]) n3
    have e7 : upd H6 c3 (.tup [.ref t]) c3 = some (.tup [.ref t]) := upd_same
    generalize upd H6 c3 (.tup [.ref t]) = H7 at s7 e7 ⊢
    refine ⟨(by show 0 ≤ sizeLine; decide), fun c4 n4 => ?_⟩
    have s8 := same_upd (o := .tup []) n4
    have e8 : upd H7 c4 (.tup []) c4 = some (.tup []) := upd_same
    generalize upd H7 c4 (.tup []) = H8 at s8 e8 ⊢
    refine ⟨(by show 7 ≤ sizeLine; decide), fun M nM => ?_⟩
    have s9 := same_upd (o := .lst [.ref c1, .ref c2, .ref c3, .ref c4, .non, .int 7, .str "abcde"]) nM
    have e9 : upd H8 M (.lst [.ref c1, .ref c2, .ref c3, .ref c4, .non, .int 7, .str "abcde"]) M = some (.lst [.ref c1, .ref c2, .ref c3, .ref c4, .non, .int 7, .str "abcde"]) := upd_same
    generalize upd H8 M (.lst [.ref c1, .ref c2, .ref c3, .ref c4, .non, .int 7, .str "abcde"]) = H9 at s9 e9 ⊢
    have s39 := ((((s4.trans s5).trans s6).trans s7).trans s8).trans s9
    have src9 := srcS s39 s3
    have src8 := srcS ((((s4.trans s5).trans s6).trans s7).trans s8) s3
    have hp9 := hp3.nl (NL.of s39)
    have t1 : Tp H9 (.ref c1) (.tuple [dP c.p, .int c.r, .int c.w, .str c.o]) := .tup (s9 _ _ (s8 _ _ (s7 _ _ (s6 _ _ (s5 _ _ e4))))) (.cons hp9 (.cons (.int _) (.cons (.int _) (.cons (.str _) .nil))))
    have t2 : Tp H9 (.ref c2) (.tuple [dP c.p, .int c.r, .int c.w, .str c.o, .str c.n, .str c.n]) := .tup (s9 _ _ (s8 _ _ (s7 _ _ e6))) (.cons hp9 (.cons (.int _) (.cons (.int _) (.cons (.str _) (.cons (.str _) (.cons (.str _) .nil))))))
    have t3 : Tp H9 (.ref c3) (.tuple [dC c]) := .tup (s9 _ _ (s8 _ _ e7)) (.cons ((hv.nl (NL.of s02)).nl nl3 |>.nl (NL.of s39)) .nil)
    have t4 : Tp H9 (.ref c4) (.tuple []) := .tup (s9 _ _ e8) .nil
    have tA : TpAll H9 [.ref c1, .ref c2, .ref c3, .ref c4, .non, .int 7, .str "abcde"] [.tuple [dP c.p, .int c.r, .int c.w, .str c.o], .tuple [dP c.p, .int c.r, .int c.w, .str c.o, .str c.n, .str c.n], .tuple [dC c], .tuple [], .none, .int 7, .str "abcde"] := .cons t1 (.cons t2 (.cons t3 (.cons t4 (.cons .non (.cons (.int _) (.cons (.str _) .nil))))))
    have bad : ∀ d ∈ [PyData.tuple [dP c.p, .int c.r, .int c.w, .str c.o], .tuple [dP c.p, .int c.r, .int c.w, .str c.o, .str c.n, .str c.n], .tuple [dC c], .tuple [], .none, .int 7, .str "abcde"], keptC d = none ∧ Sb d ∧ Dn 5 d := fun d hd => by
      simp only [List.mem_cons, List.not_mem_nil, or_false] at hd
      rcases hd with rfl | rfl | rfl | rfl | rfl | rfl | rfl
      · refine ⟨keptC_len rfl (by show 4 ≠ 5; decide), Sb_tup fun z hz => ?_, by show 4 ≤ 1000; decide, fun e he => ?_⟩
        · simp only [List.mem_cons, List.not_mem_nil, or_false] at hz
          rcases hz with h | h | h | h
          · exact zp z h
          · exact zi z h
          · exact zi z h
          · exact co z h
        · simp only [List.mem_cons, List.not_mem_nil, or_false] at he
          rcases he with rfl | rfl | rfl | rfl <;> first | exact dp4 | trivial
      · refine ⟨keptC_len rfl (by show 6 ≠ 5; decide), Sb_tup fun z hz => ?_, by show 6 ≤ 1000; decide, fun e he => ?_⟩
        · simp only [List.mem_cons, List.not_mem_nil, or_false] at hz
          rcases hz with h | h | h | h | h | h
          · exact zp z h
          · exact zi z h
          · exact zi z h
          · exact co z h
          · exact cn z h
          · exact cn z h
        · simp only [List.mem_cons, List.not_mem_nil, or_false] at he
          rcases he with rfl | rfl | rfl | rfl | rfl | rfl <;> first | exact dp4 | trivial
      · refine ⟨keptC_len rfl (by show 1 ≠ 5; decide), Sb_tup fun z hz => ?_, by show 1 ≤ 1000; decide, fun e he => ?_⟩
        · have := List.mem_singleton.mp hz
          cases this
        · rw [List.mem_singleton.mp he]
          exact dn_C 0 ok
      · refine ⟨keptC_len rfl (by show 0 ≠ 5; decide), Sb_tup fun z hz => ?_, by show 0 ≤ 1000; decide, fun e he => ?_⟩
        · cases hz
        · cases he
      · exact ⟨keptC_atom rfl, (fun ds e => by cases e), trivial⟩
      · exact ⟨keptC_atom rfl, (fun ds e => by cases e), trivial⟩
      · exact ⟨keptC_atom rfl, (fun ds e => by cases e), trivial⟩
    refine ⟨_, rfl, _, rfl, a, 7, rfl, src9, by decide, by decide, fun r H10 s10 b10 r0 r1 => ?_⟩
    obtain ⟨d, hd⟩ : ∃ d, [PyData.tuple [dP c.p, .int c.r, .int c.w, .str c.o], .tuple [dP c.p, .int c.r, .int c.w, .str c.o, .str c.n, .str c.n], .tuple [dC c], .tuple [], .none, .int 7, .str "abcde"][r.toNat]? = some d := ⟨_, List.getElem?_eq_getElem (by show r.toNat < 7; omega)⟩
    obtain ⟨y, hy, ty⟩ := (tA.nl (src9.nl b10)).get2 hd
    obtain ⟨k1, k2, k3⟩ := bad d (List.mem_of_getElem? hd)
    refine ⟨M, _, r, y, rfl, rfl, .inl (.inl (b10 _ _ (src8.ne nM).symm e9)), at_of' (Int.toNat_of_nonneg r0).symm hy, ?_⟩
    exact q y d _ s10 ((b03.trans (But.of s39)).trans b10) ty k1 k2 k3
theorem ok_kept_label (T : Tab K mg) : FnOk P w K mg base CX0 3 T.f_kept_label T.d_kept_label ["thing"] (sp_kept_label K) := by
  refine T.F_kept_label.ok sc_kept_label (fun vs H Q E h => ?_) (fun cdv A outer s H vs Q E hr h => ?_)
  · obtain ⟨v, d, H0, rfl, _⟩ := h
    rfl
  · obtain ⟨v, d, H0, rfl, hd, q1, q2⟩ := h
    refine ⟨_, (pss_cons (ps_if (pt_not (pt_val (pe_call (ok_is_sized T) (hr.mono (by decide)) (by rfl) T.g_is_sized T.F_is_sized.kp T.b_is_sized .nil pass0 (pa_cons (pv 0) (pa_cons pe_int (pa_cons (pe_glob (v := .int 3) (by rfl) T.c_MOST_PARTS ⟨_, rfl⟩) pa_nil))))))
      (pss_one (ps_ret pe_non))
      pss_nil)
      (pss_cons (ps_if (PW.pt (pw_or (pt_not (pt_val (pe_callB (cr_all rfl) (by rfl) T.m_all (by decide +kernel) (pa_cons (pe_lc (own := [("part", 1)]) (g := gName 1) (by rfl) sc_kept_label.nd (pi_or (pi_list (pv 0)) (pi_tup (pv 0))) (blkOk_by (own := [("part", 1)]) (N := N_kept_label) (sc := defScope s_kept_label) (by decide +kernel)) (fun _ _ _ _ _ => pg_name (i := 1) sc_kept_label.nd rfl (.inl rfl)) (fun _ _ _ _ _ => pts_nil) (fun _ _ _ _ _ => (pe_call (ok_is_within T) (hr.mono (by decide)) (by rfl) T.g_is_within T.F_is_within.kp T.b_is_within .nil pass0 (pa_cons (pv 1) (pa_cons pe_int (pa_cons pe_int pa_nil)))))) pa_nil)))) (pw_or1 (pt_cmpR op_eq (pe_ix (IxR.or ix_list ix_tup) (pv 0) (pe_un un_neg pe_int) (fun _ _ => rfl)) pe_int (nomark _)))))
      (pss_one (ps_ret pe_non))
      pss_nil)
      (pss_one (ps_ret (pe_callTy call_tuple_of (by rfl) T.m_tuple (by decide +kernel) (pa_cons (pv 0) pa_nil)))))), ?_⟩
    refine ⟨_, rfl, _, d, 1, 3, rfl, hd.dp, fun H1 s1 => ⟨_, rfl, ?_⟩⟩
    have no : keptD d = none → Q .non H1 := fun e => q1 e H1 s1
    -- of a row: all of it is looked at
    have row : ∀ (ds : List PyData), items d = some ds → sz 1 3 d = decide ((1 : Int) ≤ (ds.length : Int) ∧ (ds.length : Int) ≤ 3) := fun ds hi => by unfold sz; rw [hi]
    have kd : ∀ (ds : List PyData), items d = some ds → keptD d = keep (ds.map toO) := fun ds hi => by unfold keptD; rw [hi]
    have kb : ∀ (ds : List PyData), items d = some ds → ¬ ((1 : Int) ≤ (ds.length : Int) ∧ (ds.length : Int) ≤ 3) → keptD d = none := fun ds hi h => by
      rw [kd ds hi]
      unfold keep
      cases e : allSome (ds.map toO) with
      | none => rfl
      | some L =>
        have eo := allSome_all e
        have el : ds.length = L.length := by have := congrArg List.length eo; rw [List.length_map, List.length_map] at this; exact this
        simp only
        rw [if_neg ?_]
        rintro ⟨h1, h2⟩
        apply h
        rw [el]
        refine ⟨?_, by omega⟩
        cases L with
        | nil => exact absurd rfl h2
        | cons x r => simp only [List.length_cons]; omega
    cases hd with
    | non => exact no rfl
    | bl b => exact no rfl
    | int i => exact no rfl
    | str z => exact no rfl
    | lst h n0 k0 =>
      rename_i a xs ds
      have k : DpAll K H xs ds := k0.dp
      have hl := dpAll_len k
      by_cases hsz : (1 : Int) ≤ (ds.length : Int) ∧ (ds.length : Int) ≤ 3
      · rw [row ds rfl, decide_eq_true hsz]
        have hS : SqL K H1 a xs := .inl (.inl (s1 _ _ h))
        have k1 := dpAll_same s1 k
        refine .inl ⟨_, rfl, a, rfl, ⟨_, hS⟩, fun D nD => ?_⟩
        refine lc_list (xs := xs) (fun i H' => Same H1 H' ∧ H' D = some (.lst ((ds.take i).map fun d => V.bl (wI 0 99 d)))) ⟨same_upd nD, upd_same⟩ (fun i H' _ hh => Same.seq hh.1 hS) ?_ ?_
        · rintro i x H' hx ⟨sm, eD⟩
          obtain ⟨e, he, hde⟩ := dpAll_get k1 hx
          refine ⟨rfl, ?_⟩
          refine ⟨_, rfl, _, e, 0, 99, rfl, dp_same sm hde, _, eD, ?_, same_put sm nD _, ?_⟩
          · rw [List.length_map, List.length_take]; exact small1000 (by omega)
          · rw [upd_same, List.take_add_one, he, List.map_append]; rfl
        · rintro H' ⟨sm, eD⟩
          rw [hl, List.take_length, map_bl] at eD
          have s2 := s1.trans sm
          refine ⟨D, _, rfl, .inl (.inl eD), _, rfl, ?_⟩
          rw [all_bl]
          by_cases hA : ds.all (wI 0 99) = true
          · obtain ⟨L, rfl, hL9⟩ := all_ints hA
            obtain ⟨R, z, rfl⟩ : ∃ R z, L = R ++ [z] := by
              have hne : L ≠ [] := fun e => by rw [e] at hsz; simp at hsz
              exact ⟨_, _, (List.dropLast_concat_getLast hne).symm⟩
            rw [hA]
            have ex : xs = (R ++ [z]).map V.int := dp_ints_inv k
            rw [ex] at h hS
            have ekd := kd _ rfl
            rw [toO_ints hL9, keep_map] at ekd
            have egl : (R ++ [z]).getLastD 0 = z := by rw [List.getLastD_eq_getLast?, List.getLast?_append]; rfl
            rw [egl] at ekd
            have l3 : (R ++ [z]).length ≤ 3 := by rw [List.length_map] at hsz; omega
            refine ⟨_, rfl, 1, rfl, .inl ⟨_, _, _, _, rfl, rfl, Same.seq sm hS, at_end R z, rfl, _, rfl, ?_⟩⟩
            by_cases h0 : z = 0
            · rw [decide_eq_true (congrArg V.int h0)]
              exact q1 (by rw [ekd, if_neg (fun h => h.2 h0)]) H' s2
            · rw [decide_eq_false (fun h => h0 (V.int.inj h))]
              refine ⟨_, rfl, _, _, rfl, .inl ⟨Same.seq sm hS, fun l nl => ?_⟩⟩
              exact q2 _ (by rw [ekd, if_pos ⟨l3, h0⟩]) (.ref l) _ (s2.trans (same_upd nl)) ⟨l, rfl, upd_same⟩
          · rw [Bool.not_eq_true] at hA
            rw [hA]
            exact q1 (by rw [kd ds rfl, keep_none (not_all hA)]) H' s2
      · rw [row ds rfl, decide_eq_false hsz]
        exact no (kb ds rfl hsz)
    | tup h k0 =>
      rename_i a xs ds
      have k : DpAll K H xs ds := k0.dp
      have hl := dpAll_len k
      by_cases hsz : (1 : Int) ≤ (ds.length : Int) ∧ (ds.length : Int) ≤ 3
      · rw [row ds rfl, decide_eq_true hsz]
        have hS : SqT K H1 a xs := .inl (.inl (s1 _ _ h))
        have k1 := dpAll_same s1 k
        refine .inr ⟨_, rfl, a, rfl, ⟨_, hS⟩, fun D nD => ?_⟩
        refine lc_tup (xs := xs) (fun i H' => Same H1 H' ∧ H' D = some (.lst ((ds.take i).map fun d => V.bl (wI 0 99 d)))) ⟨same_upd nD, upd_same⟩ (fun i H' _ hh => same_seqT hh.1 hS) ?_ ?_
        · rintro i x H' hx ⟨sm, eD⟩
          obtain ⟨e, he, hde⟩ := dpAll_get k1 hx
          refine ⟨rfl, ?_⟩
          refine ⟨_, rfl, _, e, 0, 99, rfl, dp_same sm hde, _, eD, ?_, same_put sm nD _, ?_⟩
          · rw [List.length_map, List.length_take]; exact small1000 (by omega)
          · rw [upd_same, List.take_add_one, he, List.map_append]; rfl
        · rintro H' ⟨sm, eD⟩
          rw [hl, List.take_length, map_bl] at eD
          have s2 := s1.trans sm
          refine ⟨D, _, rfl, .inl (.inl eD), _, rfl, ?_⟩
          rw [all_bl]
          by_cases hA : ds.all (wI 0 99) = true
          · obtain ⟨L, rfl, hL9⟩ := all_ints hA
            obtain ⟨R, z, rfl⟩ : ∃ R z, L = R ++ [z] := by
              have hne : L ≠ [] := fun e => by rw [e] at hsz; simp at hsz
              exact ⟨_, _, (List.dropLast_concat_getLast hne).symm⟩
            rw [hA]
            have ex : xs = (R ++ [z]).map V.int := dp_ints_inv k
            rw [ex] at h hS
            have ekd := kd _ rfl
            rw [toO_ints hL9, keep_map] at ekd
            have egl : (R ++ [z]).getLastD 0 = z := by rw [List.getLastD_eq_getLast?, List.getLast?_append]; rfl
            rw [egl] at ekd
            have l3 : (R ++ [z]).length ≤ 3 := by rw [List.length_map] at hsz; omega
            refine ⟨_, rfl, 1, rfl, .inr ⟨_, _, _, _, rfl, rfl, same_seqT sm hS, at_end R z, rfl, _, rfl, ?_⟩⟩
            by_cases h0 : z = 0
            · rw [decide_eq_true (congrArg V.int h0)]
              exact q1 (by rw [ekd, if_neg (fun h => h.2 h0)]) H' s2
            · rw [decide_eq_false (fun h => h0 (V.int.inj h))]
              refine ⟨_, rfl, _, _, rfl, .inr ⟨same_seqT sm hS, ?_⟩⟩
              exact q2 _ (by rw [ekd, if_pos ⟨l3, h0⟩]) (.ref a) _ s2 ⟨a, rfl, s2 _ _ h⟩
          · rw [Bool.not_eq_true] at hA
            rw [hA]
            exact q1 (by rw [kd ds rfl, keep_none (not_all hA)]) H' s2
      · rw [row ds rfl, decide_eq_false hsz]
        exact no (kb ds rfl hsz)
theorem ok_correction (T : Tab K mg) : FnOk P w K mg base CX0 3 T.f_correction T.d_correction ["_law_source_here"] (sp_correction K) := by
  refine T.F_correction.ok sc_correction (fun vs H Q E h => ?_) (fun cdv A outer s H vs Q E hr h => ?_)
  · obtain ⟨a, rfl, _⟩ := h
    rfl
  · obtain ⟨a, rfl, src, q⟩ := h
    refine ⟨_, (pss_cons (ps_set (i := 1) sc_correction.nd rfl (.inl rfl) (pe_call (ok_label T) (hr.mono (by decide)) (by rfl) T.g_label T.F_label.kp T.b_label .nil pass0 (pa_cons (pv 0) pa_nil)))
      (pss_cons (ps_set (i := 2) sc_correction.nd rfl (.inl rfl) (pe_tup (pa_cons (pv 1) (pa_cons (pe_call (ok_pick T) (hr.mono (by decide)) (by rfl) T.g_pick T.F_pick.kp T.b_pick .nil pass0 (pa_cons (pv 0) (pa_cons pe_int pa_nil))) pa_nil))))
      (pss_cons (ps_set (i := 3) sc_correction.nd rfl (.inl rfl) (pe_call (ok_pick T) (hr.mono (by decide)) (by rfl) T.g_pick T.F_pick.kp T.b_pick .nil pass0 (pa_cons (pv 0) (pa_cons pe_int pa_nil))))
      (pss_cons (ps_set (i := 4) sc_correction.nd rfl (.inl rfl) (pe_call (ok_pick T) (hr.mono (by decide)) (by rfl) T.g_pick T.F_pick.kp T.b_pick .nil pass0 (pa_cons (pv 0) (pa_cons pe_int pa_nil))))
      (pss_cons (ps_set (i := 5) sc_correction.nd rfl (.inl rfl) (pe_ix ix_list (pe_lst (pa_cons pe_int (pa_cons pe_int (pa_cons pe_int pa_nil)))) (pe_call (ok_pick T) (hr.mono (by decide)) (by rfl) T.g_pick T.F_pick.kp T.b_pick .nil pass0 (pa_cons (pv 0) (pa_cons pe_int pa_nil))) (fun _ _ => rfl)))
      (pss_cons (ps_set (i := 6) sc_correction.nd rfl (.inl rfl) (pe_call (ok_token T) (hr.mono (by decide)) (by rfl) T.g_token T.F_token.kp T.b_token .nil pass0 (pa_cons (pv 0) (pa_cons (pv 5) pa_nil))))
      (pss_cons (ps_set (i := 7) sc_correction.nd rfl (.inl rfl) (pe_call (ok_token T) (hr.mono (by decide)) (by rfl) T.g_token T.F_token.kp T.b_token .nil pass0 (pa_cons (pv 0) (pa_cons (pv 5) pa_nil))))
      (C8.pss_cut (ps_if (pt_cmpR op_eq (pv 7) (pv 6) (nomark _))
      (pss_one (ps_set (i := 7) sc_correction.nd rfl (.inl rfl) (pe_call (ok_other T) (hr.mono (by decide)) (by rfl) T.g_other T.F_other.kp T.b_other .nil pass0 (pa_cons (pv 6) pa_nil))))
      pss_nil)
      (pss_one (ps_ret (pe_tup (pa_cons (pv 2) (pa_cons (pv 3) (pa_cons (pv 4) (pa_cons (pv 6) (pa_cons (pv 7) pa_nil)))))))))))))))), ?_⟩
    refine ⟨_, rfl, a, rfl, src, fun l L H1 s1 b1 hl okl => ?_⟩
    refine ⟨_, rfl, _, rfl, a, 2, rfl, s1, by decide, by decide, fun sd H2 s2 b2 d0 d1 => ?_⟩
    have hl2 := s1.nl b2 _ _ hl (fun _ z => nomatch z)
    refine ⟨(by show 2 ≤ sizeLine; decide), fun p np => ?_⟩
    have s3 := same_upd (o := .tup [.ref l, .int sd]) np
    have hp : Tp (upd H2 p (.tup [.ref l, .int sd])) (.ref p) (dP (L, sd)) := tpP (p := (L, sd)) upd_same (s3 _ _ hl2)
    generalize upd H2 p (.tup [.ref l, .int sd]) = H3 at s3 hp ⊢
    have b03 := (b1.trans b2).trans (But.of s3)
    have src3 := srcS s3 s2
    refine ⟨_, rfl, a, 12, rfl, src3, by decide, by decide, fun r H4 s4 b4 r0 r1 => ?_⟩
    refine ⟨_, rfl, a, 30, rfl, s4, by decide, by decide, fun w H5 s5 b5 w0 w1 => ?_⟩
    refine ⟨(by show 3 ≤ sizeLine; decide), fun u nu => ?_⟩
    have su := same_upd (o := .lst [.int 3, .int 8, .int 20]) nu
    have hu : upd H5 u (.lst [.int 3, .int 8, .int 20]) u = some (.lst [.int 3, .int 8, .int 20]) := upd_same
    have un : u ≠ a := (s5.ne nu).symm
    generalize upd H5 u (.lst [.int 3, .int 8, .int 20]) = H5' at su hu ⊢
    refine ⟨_, rfl, a, 3, rfl, srcS su s5, by decide, by decide, fun i H6 s6 b6 i0 i1 => ?_⟩
    obtain ⟨m, em, m1, m20⟩ : ∃ m : Int, ([.int 3, .int 8, .int 20] : List V)[i.toNat]? = some (.int m) ∧ 1 ≤ m ∧ m ≤ 20 := by
      obtain h | h | h : i.toNat = 0 ∨ i.toNat = 1 ∨ i.toNat = 2 := by omega
      · rw [h]; exact ⟨3, rfl, by decide, by decide⟩
      · rw [h]; exact ⟨8, rfl, by decide, by decide⟩
      · rw [h]; exact ⟨20, rfl, by decide, by decide⟩
    refine ⟨u, _, i, .int m, rfl, rfl, .inl (.inl (b6 _ _ un hu)), at_of' (Int.toNat_of_nonneg i0).symm em, ?_⟩
    refine ⟨_, rfl, _, rfl, a, m, rfl, s6, m1, m20, fun o H7 s7 b7 to => ?_⟩
    refine ⟨_, rfl, _, rfl, a, m, rfl, s7, m1, m20, fun n H8 s8 b8 tn => ?_⟩
    have b38 := ((((b4.trans b5).trans (But.of su)).trans b6).trans b7).trans b8
    have hp8 := hp.nl (src3.nl b38)
    refine ⟨fun σ' H' => ∃ n : Str, σ' = [some (.ref a), some (.ref l), some (.ref p), some (.int r), some (.int w), some (.int m), some (.str o), some (.str n)] ∧ H8 = H' ∧ Wd n ∧ o ≠ n, ?_, ?_⟩
    · refine ⟨_, rfl, _, rfl, rfl, _, rfl, ite2 (fun e => ?_) (fun e => ?_)⟩
      · exact ⟨_, rfl, o, rfl, to, fun y ty hy => ⟨y, rfl, rfl, ty, hy⟩⟩
      · exact ⟨n, rfl, rfl, tn, fun z => e (decide_eq_true (by rw [z]))⟩
    · rintro σ' H9 ⟨n, rfl, rfl, tn, hne⟩
      refine ⟨_, rfl, _, rfl, _, rfl, _, rfl, _, rfl, (by show 5 ≤ sizeLine; decide), fun t nt => ?_⟩
      have st := same_upd (o := .tup [.ref p, .int r, .int w, .str o, .str n]) nt
      exact q (.ref t) ⟨(L, sd), r, w, o, n⟩ _ (srcS st s8) ((b03.trans b38).trans (But.of st)) (.tup upd_same (.cons (hp8.nl (NL.of st)) (.cons (.int _) (.cons (.int _) (.cons (.str _) (.cons (.str _) .nil)))))) ⟨⟨okl, by show sd = 0 ∨ sd = 1; omega⟩, by show 0 ≤ r ∧ r ≤ 11; omega, by show 0 ≤ w ∧ w ≤ 29; omega, to, tn, hne⟩
theorem ok_keeps (T : Tab K mg) : GnOk P w K mg base CX0 3 T.f_keeps T.d_keeps ["_law_made_here", "_law_rows"] (sp_keeps K T.C_Errata) := by
  refine gn_ok T.F_keeps sc_keeps (fun vs H Q E h => ?_) (fun cdv A outer s H vs Q E hr hg h => ?_)
  · obtain ⟨v, b, us, cs, rfl, _⟩ := h
    rfl
  · obtain ⟨v, b, us, cs, rfl, he, hb, hcs, q⟩ := h
    refine ⟨_, (pss_cons (ps_if (PW.pt (pw_or (pt_cmpR op_ne (pe_callB (call_reprD (by exact hg) (by exact un20 hr)) (by rfl) T.m_repr (by decide +kernel) (pa_cons (pe_fld (pv 0) rfl) pa_nil)) (pe_callB (call_reprD (by exact hg) (by exact un20 hr)) (by rfl) T.m_repr (by decide +kernel) (pa_cons (pe_callTy call_tuple_of (by rfl) T.m_tuple (by decide +kernel) (pa_cons (pv 1) pa_nil)) pa_nil)) (nomark _)) (pw_or1 (pt_cmpR op_ne (pe_callB (call_reprD (by exact hg) (by exact un20 hr)) (by rfl) T.m_repr (by decide +kernel) (pa_cons (pe_lc (own := [("_law_one", 2)]) (g := gName 2) (by rfl) sc_keeps.nd (pi_ownI (ok_Errata_iter T) T.g_Errata_iter T.fn_Errata_iter T.b_Errata_iter (hr.mono (by decide)) (pv 0)) (blkOk_by (own := [("_law_one", 2)]) (N := N_keeps) (sc := defScope s_keeps) (by decide +kernel)) (fun _ _ _ _ _ => pg_name (i := 2) sc_keeps.nd rfl (.inl rfl)) (fun _ _ _ _ _ => pts_nil) (fun _ _ _ _ _ => (pv 2))) pa_nil)) (pe_callB (call_reprD (by exact hg) (by exact un20 hr)) (by rfl) T.m_repr (by decide +kernel) (pa_cons (pe_callTy call_list_of (by rfl) T.m_list (by decide +kernel) (pa_cons (pv 1) pa_nil)) pa_nil)) (nomark _)))))
      (pss_one (ps_ret pe_bl))
      pss_nil)
      (pss_one (ps_ret (pe_and (pe_call (ok_law_is_integer T) (hr.mono (by decide)) (by rfl) T.g_law_is_integer T.F_law_is_integer.kp T.b_law_is_integer .nil pass0 (pa_cons (pe_callB (call_lenOwn (ok_Errata_len T) T.g_Errata_len T.fn_Errata_len T.b_Errata_len (hr.mono (by decide)) pass0) (by rfl) T.m_len PySem.boot_len (pa_cons (pv 0) pa_nil)) pa_nil)) (pe_one (pe_cmpR op_eq (pe_callB (call_lenOwn (ok_Errata_len T) T.g_Errata_len T.fn_Errata_len T.b_Errata_len (hr.mono (by decide)) pass0) (by rfl) T.m_len PySem.boot_len (pa_cons (pv 0) pa_nil)) (pe_callB call_len_seq (by rfl) T.m_len PySem.boot_len (pa_cons (pv 1) pa_nil)) (nomark _))))))), ?_⟩
    obtain ⟨tu, ok, l60⟩ := id hcs
    obtain ⟨x, dx, a, t, ws, rfl, hx, ha, tw⟩ := id he
    obtain ⟨g1, g2, g3, g4⟩ := shown_Cs ok l60
    obtain ⟨f1, f2, f3, f4⟩ := shown_CsL ok l60
    have lw := tw.len
    rw [List.length_map] at lw
    have lu := tu.len
    rw [List.length_map] at lu
    refine ⟨_, rfl, x, _, dx, _, _, rfl, hx, T.cl_Errata, T.na_Errata_corrections, rfl, ?_⟩
    refine ⟨_, _, rfl, .tup (.inl (.inl ha)) tw.dp, g1, g2, g3, g4, ?_⟩
    refine ⟨_, rfl, b, us, rfl, .inl ⟨.inl (.inl hb), fun m nm => ?_⟩⟩
    have s1 := same_upd (o := .tup us) nm
    have d1 : Dp K (upd H m (.tup us)) (.ref m) (.tuple (cs.map dC)) := .tup (.inl (.inl upd_same)) (tu.nl (NL.of s1)).dp
    generalize upd H m (.tup us) = H1 at s1 d1 ⊢
    refine ⟨_, _, rfl, d1, g1, g2, g3, g4, rfl, _, rfl, ite2 (fun e => by simp at e) (fun _ => ?_)⟩
    refine ⟨_, rfl, x, dx, a, _, ws, rfl, s1 _ _ hx, rfl, .inl (.inl (s1 _ _ ha)), fun D nD => ?_⟩
    refine lc_tp cs (fun c => some (dC c)) (walkT (xs := ws) lw) nD (fun H h => .inl (.inl (h _ _ (s1 _ _ ha)))) (by omega) ?_ ?_
    · rintro i c y H4x H4 er sm ⟨rfl, hy⟩ R N hR hN
      obtain ⟨d, ed, ty⟩ := tw.get hy
      rw [List.getElem?_map, er] at ed
      cases ed
      exact ⟨rfl, _, rfl, hR _ _ rfl _ (Same.refl _) (ty.nl (NL.of (s1.trans sm)))⟩
    rintro H2 zs s2 eD tz
    rw [map_fm] at tz
    refine ⟨_, _, rfl, .lst (.inl (.inl eD)) tz.dp, f1, f2, f3, f4, ?_⟩
    have s12 := s1.trans s2
    refine ⟨_, rfl, b, us, rfl, .inl (.inl (.inl (s12 _ _ hb))), fun F nF => ?_⟩
    have s3 := same_upd (o := .lst us) nF
    have d3 : Dp K (upd H2 F (.lst us)) (.ref F) (.list (cs.map dC)) := .lst (.inl (.inl upd_same)) (tu.nl (NL.of (s12.trans s3))).dp
    generalize upd H2 F (.lst us) = H3 at s3 d3 ⊢
    refine ⟨_, _, rfl, d3, f1, f2, f3, f4, rfl, _, rfl, ite2 (fun e => by simp at e) (fun _ => ?_)⟩
    have s13 := s12.trans s3
    have he3 := he.nl (NL.of s13)
    refine ⟨_, rfl, x, dx, _, rfl, s13 _ _ hx, .ref x, cs, rfl, he3, _, rfl, by omega, by omega, ?_⟩
    refine ⟨_, rfl, _, rfl, iteT ?_⟩
    refine ⟨_, rfl, x, dx, _, rfl, s13 _ _ hx, .ref x, cs, rfl, he3, _, rfl, by omega, by omega, ?_⟩
    refine ⟨_, rfl, _, _, rfl, .inl (.inl (.inl (s13 _ _ hb))), rfl, ?_⟩
    rw [decide_eq_true (by rw [lu])]
    exact q _ s13
theorem ok_kept_page (T : Tab K mg) : FnOk P w K mg base CX0 4 T.f_kept_page T.d_kept_page ["thing"] (sp_kept_page K) := by
  refine T.F_kept_page.ok sc_kept_page (fun vs H Q E h => ?_) (fun cdv A outer s H vs Q E hr h => ?_)
  · obtain ⟨v, d, H0, rfl, _⟩ := h
    rfl
  · obtain ⟨v, d, H0, rfl, hd, q1, q2⟩ := h
    refine ⟨_, (pss_cons (ps_if (PW.pt (pw_or (pt_not (pt_val (pe_call (ok_is_sized T) (hr.mono (by decide)) (by rfl) T.g_is_sized T.F_is_sized.kp T.b_is_sized .nil pass0 (pa_cons (pv 0) (pa_cons pe_int (pa_cons pe_int pa_nil)))))) (pw_or1 (pt_not (pt_val (pe_call (ok_is_within T) (hr.mono (by decide)) (by rfl) T.g_is_within T.F_is_within.kp T.b_is_within .nil pass0 (pa_cons (pe_ix (IxR.or ix_list ix_tup) (pv 0) pe_int (fun _ _ => rfl)) (pa_cons pe_int (pa_cons pe_int pa_nil)))))))))
      (pss_one (ps_ret pe_non))
      pss_nil)
      (pss_cons (ps_set (i := 1) sc_kept_page.nd rfl (.inl rfl) (pe_call (ok_kept_label T) (hr.mono (by decide)) (by rfl) T.g_kept_label T.F_kept_label.kp T.b_kept_label .nil pass0 (pa_cons (pe_ix (IxR.or ix_list ix_tup) (pv 0) pe_int (fun _ _ => rfl)) pa_nil)))
      (pss_one (ps_ret (pe_ifExp (pt_cmpR op_isN (pv 1) pe_non (nomark _)) pe_non (pe_tup (pa_cons (pv 1) (pa_cons (pe_ix (IxR.or ix_list ix_tup) (pv 0) pe_int (fun _ _ => rfl)) pa_nil)))))))), ?_⟩
    refine ⟨_, rfl, v, d, 2, 2, rfl, hd.dp, fun H1 s1 => ⟨_, rfl, ?_⟩⟩
    have no : ∀ H', Same H H' → keptPD d = none → Q .non H' := fun H' s e => q1 e H' s
    by_cases hsz : sz 2 2 d = true
    · rw [hsz]
      obtain ⟨x, y, hi⟩ : ∃ x y, items d = some [x, y] := by
        unfold sz at hsz
        split at hsz
        · rename_i ds e
          have h2 := of_decide_eq_true hsz
          match ds, e, h2 with
          | [x, y], e, _ => exact ⟨x, y, e⟩
          | [], _, h2 => simp at h2
          | [x], _, h2 => simp at h2
          | x :: y :: z :: r, _, h2 => simp only [List.length_cons] at h2; omega
        · cases hsz
      have kp : keptPD d = if wI 0 1 y = true then (match keptD x with | some L => some (L, toI y) | none => none) else none := by unfold keptPD; first | (rw [hi]; rfl) | rw [hi]
      obtain ⟨a, xs, rfl, td, hS0⟩ := (hd.same s1).row (K := K) hi
      have hS : Seq K H1 a xs := hS0.elim (fun h => .inl (.inl (.inl h.1))) (fun h => .inr (.inl (.inl h.1)))
      obtain ⟨u, w, rfl, hu, hw⟩ : ∃ u w, xs = [u, w] ∧ Td H0 H1 u x ∧ Td H0 H1 w y := by
        cases td with
        | cons h1 r =>
          cases r with
          | cons h2 r => cases r; exact ⟨_, _, rfl, h1, h2⟩
      have ix : ∀ {Q1 : V → Hp → Prop} {H2 : Hp} {i : Int} {z : V}, Same H1 H2 → atI [u, w] i = some z → Q1 z H2 → (rIxL K (.ref a) (.int i) H2 Q1 ∨ rIxT K (.ref a) (.int i) H2 Q1) := fun {Q1 H2 i z} s e q => by
        rcases hS with hS | hS
        · exact .inl ⟨a, _, _, _, rfl, rfl, s.seq hS, e, q⟩
        · exact .inr ⟨a, _, _, _, rfl, rfl, same_seqT s hS, e, q⟩
      refine ⟨_, rfl, ix (Same.refl H1) rfl ?_⟩
      refine ⟨w, y, 0, 1, rfl, hw.dp, ?_⟩
      cases e1 : wI 0 1 y with
      | false => exact ⟨_, rfl, no H1 s1 (by rw [kp, e1]; rfl)⟩
      | true =>
        refine ⟨_, rfl, ?_⟩
        refine ⟨_, rfl, ix (Same.refl H1) rfl ?_⟩
        refine ⟨u, x, H0, rfl, hu, fun e2 H2 s2 => ?_, fun L e2 y' H2 s2 ⟨b, ey, hb⟩ => ?_⟩
        · refine ⟨_, rfl, rfl, _, rfl, ite2 (fun _ => ?_) (fun e => absurd (decide_eq_true rfl) e)⟩
          exact no H2 (s1.trans s2) (by rw [kp, if_pos e1, e2])
        · subst ey
          have s12 := s1.trans s2
          refine ⟨_, rfl, rfl, _, rfl, ite2 (fun e => absurd (of_decide_eq_true e) (by intro z; cases z)) (fun _ => ?_)⟩
          obtain ⟨i, rfl⟩ : ∃ i, y = .int i := by
            cases y with
            | int i => exact ⟨i, rfl⟩
            | _ => cases e1
          cases hw
          refine ⟨_, rfl, _, rfl, ix s2 rfl ?_⟩
          refine ⟨(by show 2 ≤ sizeLine; decide), fun t nt => ?_⟩
          have s3 := same_upd (o := .tup [.ref b, .int i]) nt
          exact q2 (L, i) (by rw [kp, if_pos e1, e2]; rfl) (.ref t) _ (s12.trans s3) (tpP (p := (L, i)) upd_same (s3 _ _ hb))
    · rw [Bool.not_eq_true] at hsz
      rw [hsz]
      refine no H1 s1 ?_
      unfold keptPD
      unfold sz at hsz
      split at hsz
      · rename_i ds e
        rw [e]
        have h2 := of_decide_eq_false hsz
        match ds, h2 with
        | [x, y], h2 => exact absurd ⟨by simp, by simp⟩ h2
        | [], _ => rfl
        | [x], _ => rfl
        | x :: y :: z :: r, _ => rfl
      · rename_i e
        rw [e]
theorem ok_kept_correction (T : Tab K mg) : FnOk P w K mg base CX0 5 T.f_kept_correction T.d_kept_correction ["thing"] (sp_kept_correction K) := by
  refine T.F_kept_correction.ok sc_kept_correction (fun vs H Q E h => ?_) (fun cdv A outer s H vs Q E hr h => ?_)
  · obtain ⟨v, d, H0, rfl, _⟩ := h
    rfl
  · obtain ⟨v, d, H0, rfl, hd, sb, q⟩ := h
    refine ⟨_, (pss_cons (ps_if (pt_not (pt_val (pe_call (ok_is_sized T) (hr.mono (by decide)) (by rfl) T.g_is_sized T.F_is_sized.kp T.b_is_sized .nil pass0 (pa_cons (pv 0) (pa_cons pe_int (pa_cons pe_int pa_nil))))))
      (pss_one (ps_ret pe_non))
      pss_nil)
      (pss_cons (ps_asg (pv 0) (pg_or (pg_tup (by rfl) (pgs_cons (pg_name (i := 1) sc_kept_correction.nd rfl (.inl rfl)) (pgs_cons (pg_name (i := 2) sc_kept_correction.nd rfl (.inl rfl)) (pgs_cons (pg_name (i := 3) sc_kept_correction.nd rfl (.inl rfl)) (pgs_cons (pg_name (i := 4) sc_kept_correction.nd rfl (.inl rfl)) (pgs_cons (pg_name (i := 5) sc_kept_correction.nd rfl (.inl rfl)) pgs_nil)))))) (pg_unl (by rfl) (pgs_cons (pg_name (i := 1) sc_kept_correction.nd rfl (.inl rfl)) (pgs_cons (pg_name (i := 2) sc_kept_correction.nd rfl (.inl rfl)) (pgs_cons (pg_name (i := 3) sc_kept_correction.nd rfl (.inl rfl)) (pgs_cons (pg_name (i := 4) sc_kept_correction.nd rfl (.inl rfl)) (pgs_cons (pg_name (i := 5) sc_kept_correction.nd rfl (.inl rfl)) pgs_nil))))))))
      (pss_cons (ps_if (PW.pt (pw_or (pt_cmpR op_isN (pe_call (ok_kept_page T) (hr.mono (by decide)) (by rfl) T.g_kept_page T.F_kept_page.kp T.b_kept_page .nil pass0 (pa_cons (pv 1) pa_nil)) pe_non (nomark _)) (pw_or (pt_not (pt_val (pe_call (ok_is_within T) (hr.mono (by decide)) (by rfl) T.g_is_within T.F_is_within.kp T.b_is_within .nil pass0 (pa_cons (pv 2) (pa_cons pe_int (pa_cons (pe_op op_sub (pe_glob (v := .int 12) (by rfl) T.c_MOST_ROWS ⟨_, rfl⟩) pe_int) pa_nil)))))) (pw_or1 (pt_not (pt_val (pe_call (ok_is_within T) (hr.mono (by decide)) (by rfl) T.g_is_within T.F_is_within.kp T.b_is_within .nil pass0 (pa_cons (pv 3) (pa_cons pe_int (pa_cons (pe_op op_sub (pe_glob (v := .int 30) (by rfl) T.c_MOST_TOKENS ⟨_, rfl⟩) pe_int) pa_nil))))))))))
      (pss_one (ps_ret pe_non))
      pss_nil)
      (pss_cons (ps_if (PW.pt (pw_or (pt_not (pt_val (pe_call (ok_is_token T) (hr.mono (by decide)) (by rfl) T.g_is_token T.F_is_token.kp T.b_is_token .nil pass0 (pa_cons (pv 4) pa_nil)))) (pw_or (pt_not (pt_val (pe_call (ok_is_token T) (hr.mono (by decide)) (by rfl) T.g_is_token T.F_is_token.kp T.b_is_token .nil pass0 (pa_cons (pv 5) pa_nil)))) (pw_or1 (pt_cmpR op_eq (pv 4) (pv 5) (nomark _))))))
      (pss_one (ps_ret pe_non))
      pss_nil)
      (pss_one (ps_ret (pe_tup (pa_cons (pe_call (ok_kept_page T) (hr.mono (by decide)) (by rfl) T.g_kept_page T.F_kept_page.kp T.b_kept_page .nil pass0 (pa_cons (pv 1) pa_nil)) (pa_cons (pv 2) (pa_cons (pv 3) (pa_cons (pv 4) (pa_cons (pv 5) pa_nil)))))))))))), ?_⟩
    have no : ∀ H', Same H H' → keptC d = none → Q .non H' := fun H' s e => q .non H' s (by unfold kcD; rw [e]; exact .non)
    refine ⟨_, rfl, v, d, 5, 5, rfl, hd.dp, fun H1 s1 => ⟨_, rfl, ?_⟩⟩
    cases esz : sz 5 5 d with
    | false =>
      refine iteT (no H1 s1 ?_)
      cases ei : items d with
      | none => exact keptC_atom ei
      | some ds =>
        refine keptC_len ei fun l => ?_
        unfold sz at esz
        rw [ei] at esz
        exact of_decide_eq_false esz (by omega)
    | true =>
      refine iteF ?_
      obtain ⟨dp, dr, dw, d4, d5, hi⟩ : ∃ a b c e f, items d = some [a, b, c, e, f] := by
        unfold sz at esz
        split at esz
        · rename_i ds ei
          have h2 := of_decide_eq_true esz
          have l : ds.length = 5 := by omega
          match ds, l, ei with
          | [a, b, c, e, f], _, ei => exact ⟨a, b, c, e, f, ei⟩
        · cases esz
      have kc := keptC_at hi
      obtain ⟨a, xs, rfl, td, hS⟩ := (hd.same s1).row (K := K) hi
      obtain ⟨y1, y2, y3, y4, y5, rfl, h1, h2, h3, h4, h5⟩ : ∃ y1 y2 y3 y4 y5, xs = [y1, y2, y3, y4, y5] ∧ Td H0 H1 y1 dp ∧ Td H0 H1 y2 dr ∧ Td H0 H1 y3 dw ∧ Td H0 H1 y4 d4 ∧ Td H0 H1 y5 d5 := by
        cases td with
        | cons h1 r =>
          cases r with
          | cons h2 r =>
            cases r with
            | cons h3 r =>
              cases r with
              | cons h4 r =>
                cases r with
                | cons h5 r =>
                  cases r
                  exact ⟨_, _, _, _, _, rfl, h1, h2, h3, h4, h5⟩
      rcases hS with ⟨hS, _, _⟩ | ⟨hS, _⟩
      · refine ⟨_, rfl, .inr ⟨a, _, rfl, .inl (.inl hS), rfl, _, _, rfl, _, _, rfl, _, _, rfl, _, _, rfl, _, _, rfl, rfl, ?_⟩⟩
        refine ⟨_, rfl, y1, dp, H0, rfl, h1, fun e H2 s2 => ?_, fun pg e y H2 s2 ty => ?_⟩
        · refine ⟨rfl, _, rfl, ite2 (fun _ => ?_) (fun h => absurd (decide_eq_true rfl) h)⟩
          exact no H2 (s1.trans s2) (by rw [kc, e])
        obtain ⟨pa, pl, rfl, _, _⟩ := tpP_inv ty
        rw [e] at kc
        have kc : keptC d = if wI 0 11 dr = true ∧ wI 0 29 dw = true ∧ tkB d4 = true ∧ tkB d5 = true ∧ sOf d4 ≠ sOf d5 then some ⟨pg, toI dr, toI dw, sOf d4, sOf d5⟩ else none := kc
        refine ⟨rfl, _, rfl, ite2 (fun h => absurd (of_decide_eq_true h) (by intro z; cases z)) (fun _ => ?_)⟩
        have s12 := s1.trans s2
        refine ⟨_, rfl, _, _, rfl, rfl, y2, dr, 0, 11, rfl, (h2.same s2).dp, _, rfl, ?_⟩
        cases e2 : wI 0 11 dr with
        | false => exact iteT (no H2 s12 (by rw [kc, e2]; exact if_neg (by simp)))
        | true =>
          refine iteF ?_
          refine ⟨_, rfl, _, _, rfl, rfl, y3, dw, 0, 29, rfl, (h3.same s2).dp, _, rfl, ?_⟩
          cases e3 : wI 0 29 dw with
          | false => exact iteT (no H2 s12 (by rw [kc, e3]; exact if_neg (by simp)))
          | true =>
            refine iteF ?_
            refine ⟨_, rfl, y4, d4, H0, rfl, h4.same s2, fun z ez => sb _ hi z (by rw [← ez]; simp), _, rfl, ?_⟩
            cases e4 : tkB d4 with
            | false => exact iteT (no H2 s12 (by rw [kc, e4]; exact if_neg (by simp)))
            | true =>
              refine iteF ?_
              refine ⟨_, rfl, y5, d5, H0, rfl, h5.same s2, fun z ez => sb _ hi z (by rw [← ez]; simp), _, rfl, ?_⟩
              cases e5 : tkB d5 with
              | false => exact iteT (no H2 s12 (by rw [kc, e5]; exact if_neg (by simp)))
              | true =>
                refine iteF ?_
                obtain ⟨z4, rfl⟩ : ∃ z, d4 = .str z := by
                  cases d4 with
                  | str z => exact ⟨z, rfl⟩
                  | _ => cases e4
                obtain ⟨z5, rfl⟩ : ∃ z, d5 = .str z := by
                  cases d5 with
                  | str z => exact ⟨z, rfl⟩
                  | _ => cases e5
                obtain ⟨r, rfl⟩ : ∃ i, dr = .int i := by
                  cases dr with
                  | int i => exact ⟨i, rfl⟩
                  | _ => cases e2
                obtain ⟨w', rfl⟩ : ∃ i, dw = .int i := by
                  cases dw with
                  | int i => exact ⟨i, rfl⟩
                  | _ => cases e3
                cases h2
                cases h3
                cases h4
                cases h5
                refine ⟨_, rfl, _, rfl, rfl, _, rfl, ite2 (fun e => ?_) (fun e => ?_)⟩
                · have e : z4 = z5 := V.str.inj (of_decide_eq_true e)
                  exact (no H2 s12 (by rw [kc]; exact if_neg (fun h => h.2.2.2.2 e)))
                have hne : z4 ≠ z5 := fun z => e (decide_eq_true (congrArg V.str z))
                rw [if_pos ⟨e2, e3, e4, e5, hne⟩] at kc
                refine ⟨_, rfl, y1, dp, H0, rfl, h1.same s2, fun e' => absurd (e'.symm.trans ‹keptPD dp = some pg›) (by intro z; cases z), fun pg' e' y3 H3 s3 hy3 => ?_⟩
                have : pg' = pg := Option.some.inj (e'.symm.trans ‹keptPD dp = some pg›)
                subst this
                refine ⟨_, rfl, _, rfl, _, rfl, _, rfl, (by show 5 ≤ sizeLine; decide), fun t nt => ?_⟩
                have st := same_upd (o := .tup [y3, .int r, .int w', .str z4, .str z5]) nt
                refine q (.ref t) _ ((s12.trans s3).trans st) ?_
                unfold kcD
                rw [kc]
                exact .tup upd_same (.cons (hy3.nl (NL.of st)) (.cons (.int _) (.cons (.int _) (.cons (.str _) (.cons (.str _) .nil)))))
      · refine ⟨_, rfl, .inl ⟨a, _, rfl, .inl (.inl hS), rfl, _, _, rfl, _, _, rfl, _, _, rfl, _, _, rfl, _, _, rfl, rfl, ?_⟩⟩
        refine ⟨_, rfl, y1, dp, H0, rfl, h1, fun e H2 s2 => ?_, fun pg e y H2 s2 ty => ?_⟩
        · refine ⟨rfl, _, rfl, ite2 (fun _ => ?_) (fun h => absurd (decide_eq_true rfl) h)⟩
          exact no H2 (s1.trans s2) (by rw [kc, e])
        obtain ⟨pa, pl, rfl, _, _⟩ := tpP_inv ty
        rw [e] at kc
        have kc : keptC d = if wI 0 11 dr = true ∧ wI 0 29 dw = true ∧ tkB d4 = true ∧ tkB d5 = true ∧ sOf d4 ≠ sOf d5 then some ⟨pg, toI dr, toI dw, sOf d4, sOf d5⟩ else none := kc
        refine ⟨rfl, _, rfl, ite2 (fun h => absurd (of_decide_eq_true h) (by intro z; cases z)) (fun _ => ?_)⟩
        have s12 := s1.trans s2
        refine ⟨_, rfl, _, _, rfl, rfl, y2, dr, 0, 11, rfl, (h2.same s2).dp, _, rfl, ?_⟩
        cases e2 : wI 0 11 dr with
        | false => exact iteT (no H2 s12 (by rw [kc, e2]; exact if_neg (by simp)))
        | true =>
          refine iteF ?_
          refine ⟨_, rfl, _, _, rfl, rfl, y3, dw, 0, 29, rfl, (h3.same s2).dp, _, rfl, ?_⟩
          cases e3 : wI 0 29 dw with
          | false => exact iteT (no H2 s12 (by rw [kc, e3]; exact if_neg (by simp)))
          | true =>
            refine iteF ?_
            refine ⟨_, rfl, y4, d4, H0, rfl, h4.same s2, fun z ez => sb _ hi z (by rw [← ez]; simp), _, rfl, ?_⟩
            cases e4 : tkB d4 with
            | false => exact iteT (no H2 s12 (by rw [kc, e4]; exact if_neg (by simp)))
            | true =>
              refine iteF ?_
              refine ⟨_, rfl, y5, d5, H0, rfl, h5.same s2, fun z ez => sb _ hi z (by rw [← ez]; simp), _, rfl, ?_⟩
              cases e5 : tkB d5 with
              | false => exact iteT (no H2 s12 (by rw [kc, e5]; exact if_neg (by simp)))
              | true =>
                refine iteF ?_
                obtain ⟨z4, rfl⟩ : ∃ z, d4 = .str z := by
                  cases d4 with
                  | str z => exact ⟨z, rfl⟩
                  | _ => cases e4
                obtain ⟨z5, rfl⟩ : ∃ z, d5 = .str z := by
                  cases d5 with
                  | str z => exact ⟨z, rfl⟩
                  | _ => cases e5
                obtain ⟨r, rfl⟩ : ∃ i, dr = .int i := by
                  cases dr with
                  | int i => exact ⟨i, rfl⟩
                  | _ => cases e2
                obtain ⟨w', rfl⟩ : ∃ i, dw = .int i := by
                  cases dw with
                  | int i => exact ⟨i, rfl⟩
                  | _ => cases e3
                cases h2
                cases h3
                cases h4
                cases h5
                refine ⟨_, rfl, _, rfl, rfl, _, rfl, ite2 (fun e => ?_) (fun e => ?_)⟩
                · have e : z4 = z5 := V.str.inj (of_decide_eq_true e)
                  exact (no H2 s12 (by rw [kc]; exact if_neg (fun h => h.2.2.2.2 e)))
                have hne : z4 ≠ z5 := fun z => e (decide_eq_true (congrArg V.str z))
                rw [if_pos ⟨e2, e3, e4, e5, hne⟩] at kc
                refine ⟨_, rfl, y1, dp, H0, rfl, h1.same s2, fun e' => absurd (e'.symm.trans ‹keptPD dp = some pg›) (by intro z; cases z), fun pg' e' y3 H3 s3 hy3 => ?_⟩
                have : pg' = pg := Option.some.inj (e'.symm.trans ‹keptPD dp = some pg›)
                subst this
                refine ⟨_, rfl, _, rfl, _, rfl, _, rfl, (by show 5 ≤ sizeLine; decide), fun t nt => ?_⟩
                have st := same_upd (o := .tup [y3, .int r, .int w', .str z4, .str z5]) nt
                refine q (.ref t) _ ((s12.trans s3).trans st) ?_
                unfold kcD
                rw [kc]
                exact .tup upd_same (.cons (hy3.nl (NL.of st)) (.cons (.int _) (.cons (.int _) (.cons (.str _) (.cons (.str _) .nil)))))
theorem ok_judged_corrections (T : Tab K mg) : FnOk P w K mg base (L2.CX P w) 6 T.f_judged_corrections T.d_judged_corrections ["corrections"] (sp_judged_corrections K T.C_BadErrata T.C_TooMany T.C_BadCorrection) := by
  refine T.F_judged_corrections.okX sc_judged_corrections (fun vs H Q E h => ?_) (fun cdv A outer s H vs Q E hr h => ?_)
  · obtain ⟨v, rfl, _⟩ := h
    rfl
  · obtain ⟨v, rfl, hh⟩ := h
    refine ⟨_, (pss_cons (ps_if (pt_not (pt_val (pe_call (ok_is_tuple T) (hr.mono (by decide)) (by rfl) T.g_is_tuple T.F_is_tuple.kp T.b_is_tuple .nil pass0 (pa_cons (pv 0) pa_nil))))
      (pss_one (ps_raise rfl (takes_of rfl rfl rfl rfl) (pmk_own0 PySem.F.excBase_ValueError T.x_BadErrata T.cg_BadErrata T.k_BadErrata (raises_own T.hs_BadErrata T.t_BadErrata) (by rfl))))
      pss_nil)
      (pss_cons (ps_if (pt_cmpR op_gt (pe_callB call_len_seq (by rfl) T.m_len PySem.boot_len (pa_cons (pv 0) pa_nil)) (pe_glob (v := .int 60) (by rfl) T.c_MOST_CORRECTIONS ⟨_, rfl⟩) (nomark _))
      (pss_one (ps_raise rfl (takes_of rfl rfl rfl rfl) (pmk_oex T.o_TooMany T.g_TooMany_init T.i_TooMany (ok_TooMany_init T) (hr.mono (by decide)) T.b_TooMany_init .nil (fun _ _ _ _ _ _ _ h => h.elim) (by rfl) T.cg_TooMany (pa_cons pe_str pa_nil))))
      pss_nil)
      (pss_cons (ps_setLc (i := 1) (own := [("thing", 2)]) (g := gName 2) (by rfl) sc_judged_corrections.nd rfl rfl (sw_true rfl rfl rfl (by decide +kernel)) (pi_or (pi_list (pv 0)) (pi_tup (pv 0))) (blkOk_by (own := [("thing", 2)]) (N := N_judged_corrections) (sc := defScope s_judged_corrections) (by decide +kernel)) (fun _ _ _ _ _ => pg_name (i := 2) sc_judged_corrections.nd rfl (.inl rfl)) (fun _ _ _ _ _ => pts_nil) (fun _ _ _ _ _ => (pe_call (ok_kept_correction T) (hr.mono (by decide)) (by rfl) T.g_kept_correction T.F_kept_correction.kp T.b_kept_correction .nil pass0 (pa_cons (pv 2) pa_nil))))
      (pss_cons (ps_if (pt_cmpR (op_inDD (un2 hr)) pe_non (pv 1) (by rfl))
      (pss_one (ps_raise rfl (takes_of rfl rfl rfl rfl) (pmk_oex T.o_BadCorrection T.g_BadCorrection_init T.i_BadCorrection (ok_BadCorrection_init T) (hr.mono (by decide)) T.b_BadCorrection_init .nil (fun _ _ _ _ _ _ _ h => h.elim) (by rfl) T.cg_BadCorrection (pa_cons (pe_bm PySem.F.plainAttrs_list PySem.F.slot_list_index PySem.F.type_list_index (mt_indexD (un2 hr)) (pv 1) (pa_cons pe_non pa_nil)) pa_nil))))
      pss_nil)
      (pss_one (ps_ret (pe_callTy call_tuple_of (by rfl) T.m_tuple (by decide +kernel) (pa_cons (pv 1) pa_nil)))))))), ?_⟩
    rcases hh with ⟨nr, kE⟩ | ⟨d, H0, hd, kE, kD⟩
    · exact ⟨_, rfl, v, rfl, .inl ⟨nr, fun H1 s1 => ⟨_, rfl, iteT (kE H1 s1)⟩⟩⟩
    · refine ⟨_, rfl, v, rfl, .inr ⟨d, hd.dp, fun H1 s1 => ⟨_, rfl, ?_⟩⟩⟩
      cases hi : items d with
      | none => exact iteT (kE hi H1 s1)
      | some ds =>
        refine iteF ?_
        obtain ⟨jin, kT, kQ⟩ := kD ds hi
        obtain ⟨a, xs, rfl, td, hS⟩ := (hd.same s1).row (K := K) hi
        have lu := td.len
        have hseq : SqL K H1 a xs ∨ SqT K H1 a xs := hS.elim (fun h => .inl (.inl (.inl h.1))) (fun h => .inr (.inl (.inl h.1)))
        refine ⟨_, rfl, a, xs, rfl, hseq, _, _, rfl, rfl, _, rfl, ite2 (fun e => ?_) (fun e => ?_)⟩
        · have e : (60 : Int) < xs.length := of_decide_eq_true e
          refine ⟨(by show 1 ≤ 1000; decide), fun b nb => ?_⟩
          refine ⟨b, _, rfl, T.o_TooMany, T.n_TooMany_word, upd_same, fun dx n1 n2 => ⟨rfl, dx, [("word", .str "correction")], upd_same, ?_, ?_, ?_⟩⟩
          · rw [upd_ne n2, upd_same]
          · rw [upd_ne n2] at n1
            exact n1
          · exact kT (by omega) _ dx (same_made s1 nb n1 n2) upd_same
        have l60 : ds.length ≤ 60 := by
          have : ¬ (60 : Int) < xs.length := fun z => e (decide_eq_true z)
          omega
        obtain ⟨kC, q⟩ := kQ l60
        rcases hS with ⟨hS, _, _⟩ | ⟨hS, _⟩
        · refine .inl ⟨_, rfl, a, rfl, ⟨_, .inl (.inl hS)⟩, fun D nD => ?_⟩
          refine lc_tp ds (fun e => some (kcD e)) (walkL (xs := xs) lu) nD (fun H h => .inl (.inl (h _ _ hS))) (by omega) ?_ ?_
          · rintro i e y H4x H4 er sm ⟨rfl, hy⟩ R N hR hN
            obtain ⟨e', ed, te⟩ := td.get hy
            rw [er] at ed
            cases ed
            exact ⟨rfl, _, rfl, y, e, H0, rfl, te.same sm, jin.2.1 e (List.mem_of_getElem? er), fun z H5 s5 hz => hR _ _ rfl _ s5 hz⟩
          rintro H2 ws s2 eD tw
          rw [map_fm] at tw
          have pk : ∀ d ∈ ds.map kcD, Pe 4 d := fun d hd => by
            obtain ⟨e, he, rfl⟩ := List.mem_map.mp hd
            unfold kcD
            cases q : keptC e with
            | none => exact .inl rfl
            | some c => exact .inr (pd_C (jin.2.2 e he c q))
          have shl := shaped_pel pk (by decide)
          cases e1 : firstN ds with
          | some i =>
            obtain ⟨e, hi2, ec, hb⟩ := firstN_some e1
            have an : ((ds.map kcD).any fun z => PyData.eqv z .none) = true := List.any_eq_true.mpr ⟨_, List.mem_map.mpr ⟨e, List.mem_of_getElem? hi2, rfl⟩, by unfold kcD; rw [ec]; rfl⟩
            refine ⟨_, rfl, .none, ds.map kcD, .non, .inl (.lst (.inl (.inl eD)) tw.dp), rfl, shl, true, ?_, iteT ?_⟩
            · rw [an]; rfl
            refine ⟨_, rfl, .inl ⟨rfl, _, .inl (.inl eD)⟩, ?_⟩
            refine ⟨D, .non, .none, ds.map kcD, i, .none, rfl, rfl, .lst (.inl (.inl eD)) tw.dp, .non, shl, rfl, by rw [List.getElem?_map, hi2]; show some (kcD e) = _; unfold kcD; rw [ec], rfl, fun m z' hm hz => ?_, ?_⟩
            · rw [List.getElem?_map] at hz
              cases e2 : ds[m]? with
              | none => rw [e2] at hz; cases hz
              | some f =>
                rw [e2] at hz
                cases hz
                show PyData.eqv (kcD f) .none = false
                unfold kcD
                cases q : keptC f with
                | none => exact absurd q (hb m hm f e2)
                | some c => rfl
            refine ⟨(by show 1 ≤ 1000; decide), fun b nb => ?_⟩
            refine ⟨b, _, rfl, T.o_BadCorrection, T.n_BadCorrection_place, upd_same, fun dx n1 n2 => ⟨rfl, dx, [("place", .int i)], upd_same, ?_, ?_, ?_⟩⟩
            · rw [upd_ne n2, upd_same]
            · rw [upd_ne n2] at n1
              exact n1
            · exact kC i e1 _ dx (same_made (s1.trans s2) nb n1 n2) upd_same
          | none =>
            obtain ⟨cs, ecs⟩ := firstN_none e1
            rw [map_kc ecs] at tw shl
            refine ⟨_, rfl, .none, cs.map dC, .non, .inl (.lst (.inl (.inl eD)) tw.dp), rfl, shl, false, ?_, iteF ?_⟩
            · rw [no_none]; rfl
            refine ⟨_, rfl, D, ws, rfl, .inl ⟨.inl (.inl eD), fun t nt => ?_⟩⟩
            have st := same_upd (o := .tup ws) nt
            exact q cs ecs t ws _ ((s1.trans s2).trans st) upd_same (tw.nl (NL.of st))
        · refine .inr ⟨_, rfl, a, rfl, ⟨_, .inl (.inl hS)⟩, fun D nD => ?_⟩
          refine lc_tp ds (fun e => some (kcD e)) (walkT (xs := xs) lu) nD (fun H h => .inl (.inl (h _ _ hS))) (by omega) ?_ ?_
          · rintro i e y H4x H4 er sm ⟨rfl, hy⟩ R N hR hN
            obtain ⟨e', ed, te⟩ := td.get hy
            rw [er] at ed
            cases ed
            exact ⟨rfl, _, rfl, y, e, H0, rfl, te.same sm, jin.2.1 e (List.mem_of_getElem? er), fun z H5 s5 hz => hR _ _ rfl _ s5 hz⟩
          rintro H2 ws s2 eD tw
          rw [map_fm] at tw
          have pk : ∀ d ∈ ds.map kcD, Pe 4 d := fun d hd => by
            obtain ⟨e, he, rfl⟩ := List.mem_map.mp hd
            unfold kcD
            cases q : keptC e with
            | none => exact .inl rfl
            | some c => exact .inr (pd_C (jin.2.2 e he c q))
          have shl := shaped_pel pk (by decide)
          cases e1 : firstN ds with
          | some i =>
            obtain ⟨e, hi2, ec, hb⟩ := firstN_some e1
            have an : ((ds.map kcD).any fun z => PyData.eqv z .none) = true := List.any_eq_true.mpr ⟨_, List.mem_map.mpr ⟨e, List.mem_of_getElem? hi2, rfl⟩, by unfold kcD; rw [ec]; rfl⟩
            refine ⟨_, rfl, .none, ds.map kcD, .non, .inl (.lst (.inl (.inl eD)) tw.dp), rfl, shl, true, ?_, iteT ?_⟩
            · rw [an]; rfl
            refine ⟨_, rfl, .inl ⟨rfl, _, .inl (.inl eD)⟩, ?_⟩
            refine ⟨D, .non, .none, ds.map kcD, i, .none, rfl, rfl, .lst (.inl (.inl eD)) tw.dp, .non, shl, rfl, by rw [List.getElem?_map, hi2]; show some (kcD e) = _; unfold kcD; rw [ec], rfl, fun m z' hm hz => ?_, ?_⟩
            · rw [List.getElem?_map] at hz
              cases e2 : ds[m]? with
              | none => rw [e2] at hz; cases hz
              | some f =>
                rw [e2] at hz
                cases hz
                show PyData.eqv (kcD f) .none = false
                unfold kcD
                cases q : keptC f with
                | none => exact absurd q (hb m hm f e2)
                | some c => rfl
            refine ⟨(by show 1 ≤ 1000; decide), fun b nb => ?_⟩
            refine ⟨b, _, rfl, T.o_BadCorrection, T.n_BadCorrection_place, upd_same, fun dx n1 n2 => ⟨rfl, dx, [("place", .int i)], upd_same, ?_, ?_, ?_⟩⟩
            · rw [upd_ne n2, upd_same]
            · rw [upd_ne n2] at n1
              exact n1
            · exact kC i e1 _ dx (same_made (s1.trans s2) nb n1 n2) upd_same
          | none =>
            obtain ⟨cs, ecs⟩ := firstN_none e1
            rw [map_kc ecs] at tw shl
            refine ⟨_, rfl, .none, cs.map dC, .non, .inl (.lst (.inl (.inl eD)) tw.dp), rfl, shl, false, ?_, iteF ?_⟩
            · rw [no_none]; rfl
            refine ⟨_, rfl, D, ws, rfl, .inl ⟨.inl (.inl eD), fun t nt => ?_⟩⟩
            have st := same_upd (o := .tup ws) nt
            exact q cs ecs t ws _ ((s1.trans s2).trans st) upd_same (tw.nl (NL.of st))
theorem ok_Errata_init (T : Tab K mg) : FnOk P w K mg base (L2.CX P w) 7 T.f_Errata_init T.d_Errata_init ["self", "corrections"] (sp_Errata_init K T.C_Errata T.C_BadErrata T.C_TooMany T.C_BadCorrection) := by
  refine T.F_Errata_init.okX sc_Errata_init (fun vs H Q E h => ?_) (fun cdv A outer s H vs Q E hr h => ?_)
  · obtain ⟨x, dx, v, rfl, _⟩ := h
    rfl
  · obtain ⟨x, dx, v, rfl, hx, hh⟩ := h
    refine ⟨_, (pss_cons (ps_fld (pv 0) (pe_call (ok_judged_corrections T) (hr.mono (by decide)) (by rfl) T.g_judged_corrections T.F_judged_corrections.kp T.b_judged_corrections .nil (passes_call (takes_of rfl rfl rfl rfl) (fun _ _ _ _ h => h)) (pa_cons (pv 1) pa_nil)) rfl)
      (pss_one (ps_fld (pv 0) (pe_call (ok_turns_at_places T) (hr.mono (by decide)) (by rfl) T.g_turns_at_places T.F_turns_at_places.kp T.b_turns_at_places .nil pass0 (pa_cons (pe_fld (pv 0) rfl) pa_nil)) rfl))), ?_⟩
    rcases hh with ⟨nr, kE⟩ | ⟨d, H0, hd, kE, kD⟩
    · exact ⟨_, rfl, v, rfl, .inl ⟨nr, fun H1 s1 => kE H1 (But.of s1)⟩⟩
    refine ⟨_, rfl, v, rfl, .inr ⟨d, H0, hd, fun e H1 s1 => kE e H1 (But.of s1), fun ds hi => ?_⟩⟩
    obtain ⟨jin, kT, kQ⟩ := kD ds hi
    refine ⟨jin, fun l H1 dd s1 hd => kT l H1 dd (But.of s1) hd, fun l => ⟨fun i e H1 dd s1 hd => (kQ l).1 i e H1 dd (But.of s1) hd, fun cs ecs p us' H1 s1 hp tp => ?_⟩⟩
    have q := (kQ l).2 cs ecs
    have lcs : cs.length ≤ 60 := by
      have := congrArg List.length ecs
      rw [List.length_map, List.length_map] at this
      omega
    have okn : ∀ c ∈ cs, okC c := fun c hc => by
      have : some c ∈ ds.map keptC := by rw [ecs]; exact List.mem_map.mpr ⟨c, hc, rfl⟩
      obtain ⟨e, he, ec⟩ := List.mem_map.mp this
      exact jin.2.2 e he c ec
    have px : p ≠ x := fun z => by rw [z, s1 _ _ hx] at hp; cases hp
    refine ⟨_, rfl, x, _, dx, _, rfl, s1 _ _ hx, T.cl_Errata, T.na_Errata_corrections, (show 0 < 1000 by decide), ?_⟩
    refine ⟨_, rfl, x, _, dx, _, _, rfl, upd_same, T.cl_Errata, T.na_Errata_corrections, rfl, ?_⟩
    have b1 : But x H1 (upd H1 x (.ins T.C_Errata dx (putF "corrections" (.ref p) []))) := But.upd _
    have hp2 : upd H1 x (.ins T.C_Errata dx (putF "corrections" (.ref p) [])) p = some (.tup us') := by rw [upd_ne px]; exact hp
    have hx2 : upd H1 x (.ins T.C_Errata dx (putF "corrections" (.ref p) [])) x = some (.ins T.C_Errata dx (putF "corrections" (.ref p) [])) := upd_same
    have tp2 := tp.butI (s1 _ _ hx) b1
    generalize upd H1 x (.ins T.C_Errata dx (putF "corrections" (.ref p) [])) = H2 at b1 hp2 hx2 tp2
    refine ⟨p, us', cs, rfl, hp2, ⟨tp2, okn, lcs⟩, fun t H3 s3 => ?_⟩
    refine ⟨_, rfl, x, _, dx, _, rfl, s3 _ _ hx2, T.cl_Errata, T.na_Errata__turns, (show 1 < 1000 by decide), ?_⟩
    have b3 : But x H3 (upd H3 x (.ins T.C_Errata dx (putF "_turns" (.ref t) (putF "corrections" (.ref p) [])))) := But.upd _
    refine q _ (((But.of s1).trans b1).trans ((But.of s3).trans b3)) ⟨x, dx, p, .ref t, us', rfl, upd_same, by rw [upd_ne px]; exact s3 _ _ hp2, (tp2.nl (NL.of s3)).butI (s3 _ _ hx2) b3⟩
theorem ok_shaped (T : Tab K mg) : ∀ n, FnOk P w K mg base CX0 (n + 1) T.f_shaped T.d_shaped ["_law_thing", "_law_way"] (sp_shaped K n)
  | 0 => ⟨fun vs H Q E h => by
      obtain ⟨x, d, k, rfl, _⟩ := h
      rfl, fun A outer s H args us vs Q E hr h0 hb hv h => by
      obtain ⟨x, d, k, _, _, hp, _⟩ := h
      exact hp.elim⟩
  | n + 1 => by
    have IH := ok_shaped T n
    refine T.F_shaped.ok sc_shaped (fun vs H Q E h => ?_) (fun cdv A outer s H vs Q E hr h => ?_)
    · obtain ⟨x, d, k, rfl, _⟩ := h
      rfl
    · obtain ⟨x, d, k, rfl, hx, hp, q⟩ := h
      refine ⟨_, (pss_cons (ps_if (pt_not (pt_val (pe_callB call_isi (by rfl) T.m_isinstance (by decide +kernel) (pa_cons (pv 0) (pa_cons (pe_bltn (v := .ty "tuple") (u := .type "tuple") (by rfl) T.m_tuple (by decide +kernel) rfl) pa_nil)))))
      (pss_one (ps_ret (pv 0)))
      pss_nil)
      (pss_cons (ps_setLc (i := 2) (own := [("_law_part", 3)]) (g := gName 3) (by rfl) sc_shaped.nd rfl rfl (sw_true rfl rfl rfl (by decide +kernel)) (pi_tup (pv 0)) (blkOk_by (own := [("_law_part", 3)]) (N := N_shaped) (sc := defScope s_shaped) (by decide +kernel)) (fun _ _ _ _ _ => pg_name (i := 3) sc_shaped.nd rfl (.inl rfl)) (fun _ _ _ _ _ => pts_nil) (fun _ _ _ _ _ => (pe_call IH (hr.mono (by omega)) (by rfl) T.g_shaped T.F_shaped.kp T.b_shaped .nil pass0 (pa_cons (pv 3) (pa_cons (pe_op op_fdiv (pv 1) pe_int) pa_nil)))))
      (pss_cons (ps_if (pt_cmpR op_eq (pe_op op_mod (pe_callTy call_int1 (by rfl) T.m_int (by decide +kernel) (pa_cons (pv 1) pa_nil)) pe_int) pe_int (nomark _))
      (pss_one (ps_ret (pv 2)))
      pss_nil)
      (pss_one (ps_ret (pe_callTy call_tuple_of (by rfl) T.m_tuple (by decide +kernel) (pa_cons (pv 2) pa_nil))))))), ?_⟩
      cases hx with
      | non =>
        refine ⟨_, rfl, _, _, _, _, _, rfl, .ty "tuple", .base .non, kit_ty (r := false) (by decide +kernel), false, rfl, iteT ?_⟩
        exact ⟨_, rfl, q _ H (Same.refl H) .non⟩
      | bl b =>
        refine ⟨_, rfl, _, _, _, _, _, rfl, .ty "tuple", .base (.bl b), kit_ty (r := false) (by decide +kernel), false, rfl, iteT ?_⟩
        exact ⟨_, rfl, q _ H (Same.refl H) (.bl b)⟩
      | int i =>
        refine ⟨_, rfl, _, _, _, _, _, rfl, .ty "tuple", .base (.int i), kit_ty (r := false) (by decide +kernel), false, rfl, iteT ?_⟩
        exact ⟨_, rfl, q _ H (Same.refl H) (.int i)⟩
      | str z =>
        refine ⟨_, rfl, _, _, _, _, _, rfl, .ty "tuple", .base (.str z), kit_ty (r := false) (by decide +kernel), false, rfl, iteT ?_⟩
        exact ⟨_, rfl, q _ H (Same.refl H) (.str z)⟩
      | tup hb db =>
        rename_i b ys ds
        have l2 := db.len
        have hdl := hp.1
        refine ⟨_, rfl, _, _, _, _, _, rfl, .ty "tuple", ty_T (.inl (.inl hb)), kit_ty (by decide +kernel), true, rfl, iteF ?_⟩
        refine ⟨_, rfl, b, rfl, ⟨_, .inl (.inl hb)⟩, fun D nD => ?_⟩
        refine lc_tup (xs := ys) (fun i H' => Same H H' ∧ ∃ xs, H' D = some (.lst xs) ∧ TdAll (upd H D (.lst [])) H' xs ((ds.take i).map (shp (k / 2)))) ⟨same_upd nD, [], upd_same, .nil⟩ (fun i H' _ hh => .inl (.inl (hh.1 _ _ hb))) ?_ ?_
        · rintro i x H' hx ⟨sm, xs, eD, da⟩
          obtain ⟨d, ed, dd⟩ := db.get hx
          have hi := (List.getElem?_eq_some_iff.mp ed).1
          have hlen := da.len
          rw [List.length_map, List.length_take] at hlen
          refine ⟨rfl, ?_⟩
          refine ⟨_, rfl, _, rfl, _, _, rfl, rfl, ?_⟩
          refine ⟨⟨by decide, by decide⟩, x, d, k / 2, rfl, dd.nl (NL.of sm), hp.2 _ (List.mem_of_getElem? ed), fun v H2 s2 fd => ⟨xs, s2 _ _ eD, small1000 (by omega), same_put (sm.trans s2) nD _, xs ++ [v], upd_same, ?_⟩⟩
          have nn : ∀ a, (upd H D (.lst [])) a = none → a ≠ D := fun a h e => by
            rw [e, upd_same] at h
            cases h
          have eD2 := s2 _ _ eD
          have tu : ∀ a ys o, H2 a = some (.tup ys) → upd H2 D o a = some (.tup ys) := fun a ys o e => by
            rw [upd_ne (fun z => by rw [z, eD2] at e; cases e)]
            exact e
          rw [List.take_add_one, ed, List.map_append]
          refine TdAll.snoc ((da.same s2).to (fun a o n e => ⟨n, by rw [upd_ne (nn a n)]; exact e⟩) (fun a ys e => tu a ys _ e)) (fd.to (fun a o n e => ?_) (fun a ys e => tu a ys _ e))
          have nD2 : a ≠ D := fun e1 => by
            rw [e1, eD] at n
            cases n
          refine ⟨?_, by rw [upd_ne nD2]; exact e⟩
          rw [upd_ne nD2]
          cases e2 : H a with
          | none => rfl
          | some o2 => rw [sm _ _ e2] at n; cases n
        · rintro H' ⟨sm, xs, eD, da⟩
          rw [l2, List.take_length] at da
          have dn : TdAll H H' xs (ds.map (shp (k / 2))) := da.to (fun a o n e => by
            refine ⟨?_, e⟩
            cases e2 : H a with
            | none => rfl
            | some o2 =>
              have hne : a ≠ D := fun z => by rw [z, nD] at e2; cases e2
              rw [upd_ne hne, e2] at n
              cases n) fun a ys e => e
          have es : shp k (.tuple ds) = if k % 2 = 1 then .list (ds.map (shp (k / 2))) else .tuple (ds.map (shp (k / 2))) := by
            show (if k % 2 = 1 then PyData.list (shps (k / 2) ds) else .tuple (shps (k / 2) ds)) = _
            rw [shps_map]
          have e2 : ((k : Int) % 2 = 1) ↔ k % 2 = 1 := by omega
          refine ⟨_, rfl, .inl ⟨_, rfl, _, _, rfl, rfl, (by show (0 : Int) < 2; decide), rfl, _, rfl, ite2 (fun e => ?_) (fun e => ?_)⟩⟩
          · have e : (k : Int) % 2 = 1 := V.int.inj (of_decide_eq_true e)
            rw [if_pos (e2.mp e)] at es
            exact ⟨_, rfl, q _ H' sm (by rw [es]; exact .lst eD nD dn)⟩
          · have e : ¬ (k : Int) % 2 = 1 := fun h => e (decide_eq_true (congrArg V.int h))
            rw [if_neg (fun h => e (e2.mpr h))] at es
            refine ⟨_, rfl, D, _, rfl, .inl ⟨.inl (.inl eD), fun t nt => ?_⟩⟩
            have st := same_upd (o := .tup xs) nt
            exact q (.ref t) _ (sm.trans st) (by rw [es]; exact .tup upd_same (dn.same st))
theorem ok_made (T : Tab K mg) : GnOk P w K mg base CX0 9 T.f_made T.d_made ["_law_thing"] (sp_made K T.C_Errata) := by
  refine gn_ok T.F_made sc_made (fun vs H Q E h => ?_) (fun cdv A outer s H vs Q E hr hg h => ?_)
  · obtain ⟨v, rfl, _⟩ := h
    rfl
  · obtain ⟨v, rfl, hh⟩ := h
    refine ⟨_, (pss_cons (ps_try_as (i := 2) (c := .ref T.C_AfterError) (Wout := fun _ _ _ _ => False) rfl rfl sc_made.nd rfl rfl ⟨by rfl, by decide, Or.inl T.cg_AfterError⟩ takes0
      (fun W pn xe tk _ => (pss_one (ps_set (i := 1) sc_made.nd rfl (.inl rfl) (pe_makeS ⟨T.ms_Errata, T.g_Errata_init, T.fn_Errata_init, T.kc_Errata⟩ (ok_Errata_init T) (hr.mono (by decide)) (by rfl) T.cg_Errata T.b_Errata_init .nil (fun σ => passAt tk σ) (pa_cons (pv 0) pa_nil)))))
      (fun a oe cls d pn hz hf => (pss_cons (ps_set (i := 3) sc_made.nd rfl (.inl rfl) (pe_lst (pa_cons (pe_callB (call_isX hz hf) (by rfl) T.m_isinstance (by decide +kernel) (pa_cons (pv 2) (pa_cons (pe_glob (v := .ref T.C_BadErrata) (by rfl) T.cg_BadErrata rfl) pa_nil))) (pa_cons (pe_callB (call_isX hz hf) (by rfl) T.m_isinstance (by decide +kernel) (pa_cons (pv 2) (pa_cons (pe_glob (v := .ref T.C_TooMany) (by rfl) T.cg_TooMany rfl) pa_nil))) (pa_cons (pe_callB (call_isX hz hf) (by rfl) T.m_isinstance (by decide +kernel) (pa_cons (pv 2) (pa_cons (pe_glob (v := .ref T.C_BadCorrection) (by rfl) T.cg_BadCorrection rfl) pa_nil))) pa_nil)))))
        (pss_cons (ps_if (PW.pt (pw_or (pt_not (pt_val (pe_callB (call_isX hz hf) (by rfl) T.m_isinstance (by decide +kernel) (pa_cons (pv 2) (pa_cons (pe_bltn (v := .ty "ValueError") (u := .type "ValueError") (by rfl) T.m_ValueError (by decide +kernel) rfl) pa_nil))))) (pw_or1 (pt_cmpR op_eq (pe_callB (call_isX hz hf) (by rfl) T.m_isinstance (by decide +kernel) (pa_cons (pv 2) (pa_cons (pe_glob (v := .ref T.C_BadForm) (by rfl) T.cg_BadForm rfl) pa_nil))) (pe_callB (call_isX hz hf) (by rfl) T.m_isinstance (by decide +kernel) (pa_cons (pv 2) (pa_cons (pe_glob (v := .ref T.C_TooMany) (by rfl) T.cg_TooMany rfl) pa_nil))) (nomark _)))))
        (pss_one (ps_ret (pe_lst (pa_cons pe_str pa_nil))))
        pss_nil)
        (pss_cons (ps_if (pt_cmpR (op_eqDK (K := K) rfl (by have z := hr.units; exact z)) (pv 3) (pe_lst (pa_cons pe_bl (pa_cons pe_bl (pa_cons pe_bl pa_nil)))) (nomark _))
        (pss_one (ps_ret (pe_lst (pa_cons pe_str pa_nil))))
        pss_nil)
        (pss_cons (ps_if (pt_cmpR (op_eqDK (K := K) rfl (by have z := hr.units; exact z)) (pv 3) (pe_lst (pa_cons pe_bl (pa_cons pe_bl (pa_cons pe_bl pa_nil)))) (nomark _))
        (pss_one (ps_ret (pe_lst (pa_cons pe_str (pa_cons (pe_callB (call_reprS (by exact hg) (by exact un20 hr)) (by rfl) T.m_repr (by decide +kernel) (pa_cons (pe_xf ⟨T.hg_TooMany, T.hk_TooMany, T.hs_TooMany, T.hd_TooMany⟩ T.n_TooMany_word hz hf (pv 2)) pa_nil)) pa_nil)))))
        pss_nil)
        (pss_cons (ps_if (pt_cmpR (op_eqDK (K := K) rfl (by have z := hr.units; exact z)) (pv 3) (pe_lst (pa_cons pe_bl (pa_cons pe_bl (pa_cons pe_bl pa_nil)))) (nomark _))
        (pss_one (ps_ret (pe_lst (pa_cons pe_str (pa_cons (pe_callB (call_reprS (by exact hg) (by exact un20 hr)) (by rfl) T.m_repr (by decide +kernel) (pa_cons (pe_xf ⟨T.hg_BadCorrection, T.hk_BadCorrection, T.hs_BadCorrection, T.hd_BadCorrection⟩ T.n_BadCorrection_place hz hf (pv 2)) pa_nil)) pa_nil)))))
        pss_nil)
        (pss_one (ps_ret (pe_lst (pa_cons pe_str pa_nil)))))))))))
      (pss_one (ps_ret (pe_lst (pa_cons pe_str (pa_cons (pv 1) pa_nil)))))), ?_⟩
    have XE : ExcC K T.C_BadErrata := excC_of T.hg_BadErrata T.hk_BadErrata T.hs_BadErrata T.hd_BadErrata T.ha_BadErrata T.hn_BadErrata T.ht_BadErrata T.hm_BadErrata
    have XT : ExcC K T.C_TooMany := excC_of T.hg_TooMany T.hk_TooMany T.hs_TooMany T.hd_TooMany T.ha_TooMany T.hn_TooMany T.ht_TooMany T.hm_TooMany
    have XC : ExcC K T.C_BadCorrection := excC_of T.hg_BadCorrection T.hk_BadCorrection T.hs_BadCorrection T.hd_BadCorrection T.ha_BadCorrection T.hn_BadCorrection T.ht_BadCorrection T.hm_BadCorrection
    have kd : ∀ {H' : Hp} {M : Addr} (b : Bool × Bool × Bool), H' M = some (.lst [.bl b.1, .bl b.2.1, .bl b.2.2]) → Dp K H' (.ref M) (.list [.bool b.1, .bool b.2.1, .bool b.2.2]) := fun b e => .lst (.inl (.inl e)) (.cons (.bl _) (.cons (.bl _) (.cons (.bl _) .nil)))
    have ksh : ∀ b c d : Bool, SeqAt.shaped (.list [.bool b, .bool c, .bool d]) = true := fun b c d => by cases b <;> cases c <;> cases d <;> decide
    refine ⟨_, rfl, fun x dx nx ndx dxx => ?_⟩
    have z1 : Same H (upd (upd H dx (.own x)) x (.ins T.C_Errata dx [])) := fun b o e => by
      have c1 : b ≠ x := fun z => by rw [z, nx] at e; cases e
      have c2 : b ≠ dx := fun z => by rw [z, ndx] at e; cases e
      rw [upd_ne c1, upd_ne c2]
      exact e
    have fin : ∀ {H6 : Hp}, But x (upd (upd H dx (.own x)) x (.ins T.C_Errata dx [])) H6 → Same H H6 := fun bt b o e => bt b o (fun z => by rw [z, nx] at e; cases e) (z1 b o e)
    rcases hh with ⟨nr, kE⟩ | ⟨d, H0, hd, kE, kD⟩
    · refine ⟨x, dx, v, rfl, upd_same, .inl ⟨nr.same z1, fun H1 b1 => ?_⟩⟩
      have s1 := fin b1
      refine ⟨true, T.e_BadErrata_AfterError, fun _ a ha => ?_, fun w => nomatch w⟩
      refine ⟨_, rfl, T.C_BadErrata, _, _, true, rfl, rfl, XE, relRef, .inl rfl, T.q_BadErrata_BadErrata, ?_⟩
      refine ⟨_, rfl, T.C_BadErrata, _, _, false, rfl, rfl, XE, relRef, .inl rfl, T.q_BadErrata_TooMany, ?_⟩
      refine ⟨_, rfl, T.C_BadErrata, _, _, false, rfl, rfl, XE, relRef, .inl rfl, T.q_BadErrata_BadCorrection, ?_⟩
      refine ⟨by show 3 ≤ sizeLine; decide, fun L nL => ?_⟩
      have sL := same_upd (o := .lst [.bl true, .bl false, .bl false]) nL
      have hL : upd H1 L (.lst [.bl true, .bl false, .bl false]) L = some (.lst [.bl true, .bl false, .bl false]) := upd_same
      generalize upd H1 L (.lst [.bl true, .bl false, .bl false]) = H2 at sL hL ⊢
      have s2 := s1.trans sL
      refine ⟨_, rfl, T.C_BadErrata, _, _, true, rfl, rfl, XE, relTy, .inl rfl, T.q_BadErrata_ValueError, true, rfl, iteF ?_⟩
      refine ⟨_, rfl, T.C_BadErrata, _, _, true, rfl, rfl, XE, relRef, .inl rfl, T.q_BadErrata_BadForm, ?_⟩
      refine ⟨_, rfl, T.C_BadErrata, _, _, false, rfl, rfl, XE, relRef, .inl rfl, T.q_BadErrata_TooMany, rfl, _, rfl, ite2 (fun e => absurd (of_decide_eq_true e) (by intro z; cases z)) (fun _ => ?_)⟩
      refine ⟨_, rfl, by show 3 ≤ sizeLine; decide, fun M3 nM3 => ?_⟩
      have sM3 := same_upd (o := .lst [.bl true, .bl false, .bl false]) nM3
      have hM3 : upd H2 M3 (.lst [.bl true, .bl false, .bl false]) M3 = some (.lst [.bl true, .bl false, .bl false]) := upd_same
      generalize upd H2 M3 (.lst [.bl true, .bl false, .bl false]) = H3 at sM3 hM3 ⊢
      have hL3 := sM3 _ _ hL
      have s3 := s2.trans sM3
      refine ⟨_, _, kd (true, false, false) hL3, kd (true, false, false) hM3, ksh _ _ _, ksh _ _ _, _, rfl, iteT ?_⟩
      exact ⟨by show 1 ≤ sizeLine; decide, fun r nr2 => kE r _ (s3.trans (same_upd nr2)) upd_same⟩
    refine ⟨x, dx, v, rfl, upd_same, .inr ⟨d, H0, hd.same z1, fun e H1 b1 => ?_, fun ds hi => ?_⟩⟩
    · have s1 := fin b1
      have kE := kE e
      refine ⟨true, T.e_BadErrata_AfterError, fun _ a ha => ?_, fun w => nomatch w⟩
      refine ⟨_, rfl, T.C_BadErrata, _, _, true, rfl, rfl, XE, relRef, .inl rfl, T.q_BadErrata_BadErrata, ?_⟩
      refine ⟨_, rfl, T.C_BadErrata, _, _, false, rfl, rfl, XE, relRef, .inl rfl, T.q_BadErrata_TooMany, ?_⟩
      refine ⟨_, rfl, T.C_BadErrata, _, _, false, rfl, rfl, XE, relRef, .inl rfl, T.q_BadErrata_BadCorrection, ?_⟩
      refine ⟨by show 3 ≤ sizeLine; decide, fun L nL => ?_⟩
      have sL := same_upd (o := .lst [.bl true, .bl false, .bl false]) nL
      have hL : upd H1 L (.lst [.bl true, .bl false, .bl false]) L = some (.lst [.bl true, .bl false, .bl false]) := upd_same
      generalize upd H1 L (.lst [.bl true, .bl false, .bl false]) = H2 at sL hL ⊢
      have s2 := s1.trans sL
      refine ⟨_, rfl, T.C_BadErrata, _, _, true, rfl, rfl, XE, relTy, .inl rfl, T.q_BadErrata_ValueError, true, rfl, iteF ?_⟩
      refine ⟨_, rfl, T.C_BadErrata, _, _, true, rfl, rfl, XE, relRef, .inl rfl, T.q_BadErrata_BadForm, ?_⟩
      refine ⟨_, rfl, T.C_BadErrata, _, _, false, rfl, rfl, XE, relRef, .inl rfl, T.q_BadErrata_TooMany, rfl, _, rfl, ite2 (fun e => absurd (of_decide_eq_true e) (by intro z; cases z)) (fun _ => ?_)⟩
      refine ⟨_, rfl, by show 3 ≤ sizeLine; decide, fun M3 nM3 => ?_⟩
      have sM3 := same_upd (o := .lst [.bl true, .bl false, .bl false]) nM3
      have hM3 : upd H2 M3 (.lst [.bl true, .bl false, .bl false]) M3 = some (.lst [.bl true, .bl false, .bl false]) := upd_same
      generalize upd H2 M3 (.lst [.bl true, .bl false, .bl false]) = H3 at sM3 hM3 ⊢
      have hL3 := sM3 _ _ hL
      have s3 := s2.trans sM3
      refine ⟨_, _, kd (true, false, false) hL3, kd (true, false, false) hM3, ksh _ _ _, ksh _ _ _, _, rfl, iteT ?_⟩
      exact ⟨by show 1 ≤ sizeLine; decide, fun r nr2 => kE r _ (s3.trans (same_upd nr2)) upd_same⟩
    obtain ⟨jin, kT, kQ⟩ := kD ds hi
    refine ⟨jin, fun l H1 dd b1 hd => ?_, fun l => ⟨fun i e H1 dd b1 hd => ?_, fun cs ecs H1 b1 he => ⟨rfl, ?_⟩⟩⟩
    · have s1 := fin b1
      have e2 : (PyData.str "correction").shown = "'correction'" := by decide +kernel
      have ss : (PyData.str "correction").showable = true ∧ (PyData.str "correction").hasDict = false ∧ (PyData.str "correction").depth ≤ 8 ∧ (PyData.str "correction").shown.length ≤ sizeLine := ⟨rfl, rfl, Nat.zero_le _, by rw [e2, sizeLine_eq]; decide +kernel⟩
      refine ⟨true, T.e_TooMany_AfterError, fun _ a ha => ?_, fun w => nomatch w⟩
      refine ⟨_, rfl, T.C_TooMany, _, _, false, rfl, rfl, XT, relRef, .inr ⟨dd, _, rfl, hd⟩, T.q_TooMany_BadErrata, ?_⟩
      refine ⟨_, rfl, T.C_TooMany, _, _, true, rfl, rfl, XT, relRef, .inr ⟨dd, _, rfl, hd⟩, T.q_TooMany_TooMany, ?_⟩
      refine ⟨_, rfl, T.C_TooMany, _, _, false, rfl, rfl, XT, relRef, .inr ⟨dd, _, rfl, hd⟩, T.q_TooMany_BadCorrection, ?_⟩
      refine ⟨by show 3 ≤ sizeLine; decide, fun L nL => ?_⟩
      have sL := same_upd (o := .lst [.bl false, .bl true, .bl false]) nL
      have hL : upd H1 L (.lst [.bl false, .bl true, .bl false]) L = some (.lst [.bl false, .bl true, .bl false]) := upd_same
      generalize upd H1 L (.lst [.bl false, .bl true, .bl false]) = H2 at sL hL ⊢
      have hd2 := sL _ _ hd
      have s2 := s1.trans sL
      refine ⟨_, rfl, T.C_TooMany, _, _, true, rfl, rfl, XT, relTy, .inr ⟨dd, _, rfl, hd2⟩, T.q_TooMany_ValueError, true, rfl, iteF ?_⟩
      refine ⟨_, rfl, T.C_TooMany, _, _, false, rfl, rfl, XT, relRef, .inr ⟨dd, _, rfl, hd2⟩, T.q_TooMany_BadForm, ?_⟩
      refine ⟨_, rfl, T.C_TooMany, _, _, true, rfl, rfl, XT, relRef, .inr ⟨dd, _, rfl, hd2⟩, T.q_TooMany_TooMany, rfl, _, rfl, ite2 (fun e => absurd (of_decide_eq_true e) (by intro z; cases z)) (fun _ => ?_)⟩
      refine ⟨_, rfl, by show 3 ≤ sizeLine; decide, fun M3 nM3 => ?_⟩
      have sM3 := same_upd (o := .lst [.bl true, .bl false, .bl false]) nM3
      have hM3 : upd H2 M3 (.lst [.bl true, .bl false, .bl false]) M3 = some (.lst [.bl true, .bl false, .bl false]) := upd_same
      generalize upd H2 M3 (.lst [.bl true, .bl false, .bl false]) = H3 at sM3 hM3 ⊢
      have hL3 := sM3 _ _ hL
      have hd3 := sM3 _ _ hd2
      have s3 := s2.trans sM3
      refine ⟨_, _, kd (false, true, false) hL3, kd (true, false, false) hM3, ksh _ _ _, ksh _ _ _, _, rfl, iteF ?_⟩
      refine ⟨_, rfl, by show 3 ≤ sizeLine; decide, fun M4 nM4 => ?_⟩
      have sM4 := same_upd (o := .lst [.bl false, .bl true, .bl false]) nM4
      have hM4 : upd H3 M4 (.lst [.bl false, .bl true, .bl false]) M4 = some (.lst [.bl false, .bl true, .bl false]) := upd_same
      generalize upd H3 M4 (.lst [.bl false, .bl true, .bl false]) = H4 at sM4 hM4 ⊢
      have hL4 := sM4 _ _ hL3
      have hd4 := sM4 _ _ hd3
      have s4 := s3.trans sM4
      refine ⟨_, _, kd (false, true, false) hL4, kd (false, true, false) hM4, ksh _ _ _, ksh _ _ _, _, rfl, iteT ?_⟩
      refine ⟨_, rfl, rfl, rfl, dd, _, .str "correction", rfl, hd4, rfl, _, .str "correction", rfl, .str _, ss.1, ss.2.1, ss.2.2.1, ss.2.2.2, ?_⟩
      exact ⟨by show 2 ≤ sizeLine; decide, fun r nr => kT l r _ (s4.trans (same_upd nr)) (by rw [e2]; exact upd_same)⟩
    · have s1 := fin b1
      have hi : i ≤ 20000 := by
        obtain ⟨d, hc, _⟩ := firstN_some e
        have := (List.getElem?_eq_some_iff.mp hc).1
        have := jin.1
        omega
      have si := shI_okN hi
      refine ⟨true, T.e_BadCorrection_AfterError, fun _ a ha => ?_, fun w => nomatch w⟩
      refine ⟨_, rfl, T.C_BadCorrection, _, _, false, rfl, rfl, XC, relRef, .inr ⟨dd, _, rfl, hd⟩, T.q_BadCorrection_BadErrata, ?_⟩
      refine ⟨_, rfl, T.C_BadCorrection, _, _, false, rfl, rfl, XC, relRef, .inr ⟨dd, _, rfl, hd⟩, T.q_BadCorrection_TooMany, ?_⟩
      refine ⟨_, rfl, T.C_BadCorrection, _, _, true, rfl, rfl, XC, relRef, .inr ⟨dd, _, rfl, hd⟩, T.q_BadCorrection_BadCorrection, ?_⟩
      refine ⟨by show 3 ≤ sizeLine; decide, fun L nL => ?_⟩
      have sL := same_upd (o := .lst [.bl false, .bl false, .bl true]) nL
      have hL : upd H1 L (.lst [.bl false, .bl false, .bl true]) L = some (.lst [.bl false, .bl false, .bl true]) := upd_same
      generalize upd H1 L (.lst [.bl false, .bl false, .bl true]) = H2 at sL hL ⊢
      have hd2 := sL _ _ hd
      have s2 := s1.trans sL
      refine ⟨_, rfl, T.C_BadCorrection, _, _, true, rfl, rfl, XC, relTy, .inr ⟨dd, _, rfl, hd2⟩, T.q_BadCorrection_ValueError, true, rfl, iteF ?_⟩
      refine ⟨_, rfl, T.C_BadCorrection, _, _, true, rfl, rfl, XC, relRef, .inr ⟨dd, _, rfl, hd2⟩, T.q_BadCorrection_BadForm, ?_⟩
      refine ⟨_, rfl, T.C_BadCorrection, _, _, false, rfl, rfl, XC, relRef, .inr ⟨dd, _, rfl, hd2⟩, T.q_BadCorrection_TooMany, rfl, _, rfl, ite2 (fun e => absurd (of_decide_eq_true e) (by intro z; cases z)) (fun _ => ?_)⟩
      refine ⟨_, rfl, by show 3 ≤ sizeLine; decide, fun M3 nM3 => ?_⟩
      have sM3 := same_upd (o := .lst [.bl true, .bl false, .bl false]) nM3
      have hM3 : upd H2 M3 (.lst [.bl true, .bl false, .bl false]) M3 = some (.lst [.bl true, .bl false, .bl false]) := upd_same
      generalize upd H2 M3 (.lst [.bl true, .bl false, .bl false]) = H3 at sM3 hM3 ⊢
      have hL3 := sM3 _ _ hL
      have hd3 := sM3 _ _ hd2
      have s3 := s2.trans sM3
      refine ⟨_, _, kd (false, false, true) hL3, kd (true, false, false) hM3, ksh _ _ _, ksh _ _ _, _, rfl, iteF ?_⟩
      refine ⟨_, rfl, by show 3 ≤ sizeLine; decide, fun M4 nM4 => ?_⟩
      have sM4 := same_upd (o := .lst [.bl false, .bl true, .bl false]) nM4
      have hM4 : upd H3 M4 (.lst [.bl false, .bl true, .bl false]) M4 = some (.lst [.bl false, .bl true, .bl false]) := upd_same
      generalize upd H3 M4 (.lst [.bl false, .bl true, .bl false]) = H4 at sM4 hM4 ⊢
      have hL4 := sM4 _ _ hL3
      have hd4 := sM4 _ _ hd3
      have s4 := s3.trans sM4
      refine ⟨_, _, kd (false, false, true) hL4, kd (false, true, false) hM4, ksh _ _ _, ksh _ _ _, _, rfl, iteF ?_⟩
      refine ⟨_, rfl, by show 3 ≤ sizeLine; decide, fun M5 nM5 => ?_⟩
      have sM5 := same_upd (o := .lst [.bl false, .bl false, .bl true]) nM5
      have hM5 : upd H4 M5 (.lst [.bl false, .bl false, .bl true]) M5 = some (.lst [.bl false, .bl false, .bl true]) := upd_same
      generalize upd H4 M5 (.lst [.bl false, .bl false, .bl true]) = H5 at sM5 hM5 ⊢
      have hL5 := sM5 _ _ hL4
      have hd5 := sM5 _ _ hd4
      have s5 := s4.trans sM5
      refine ⟨_, _, kd (false, false, true) hL5, kd (false, false, true) hM5, ksh _ _ _, ksh _ _ _, _, rfl, iteT ?_⟩
      refine ⟨_, rfl, rfl, rfl, dd, _, .int (i : Int), rfl, hd5, rfl, _, .int (i : Int), rfl, .int _, si.1, si.2.1, si.2.2.1, si.2.2.2, ?_⟩
      exact ⟨by show 2 ≤ sizeLine; decide, fun r nr => (kQ l).1 i e r _ (s5.trans (same_upd nr)) upd_same⟩
    have s1 := fin b1
    refine ⟨_, rfl, by show 2 ≤ sizeLine; decide, fun r nr => ?_⟩
    have sr := same_upd (o := .lst [.str "good", .ref x]) nr
    have nH : H r = none := by
      cases q : H r with
      | none => rfl
      | some o =>
        have := s1 _ _ q
        rw [nr] at this
        cases this
    exact (kQ l).2 cs ecs r (.ref x) _ (s1.trans sr) nH upd_same (he.nl (NL.of sr))
theorem ok_equals (T : Tab K mg) : GnOk P w K mg base CX0 9 T.f_equals T.d_equals ["_law_made_here", "_law_rows"] (sp_equals K T.C_Errata) := by
  refine gn_ok T.F_equals sc_equals (fun vs H Q E h => ?_) (fun cdv A outer s H vs Q E hr hg h => ?_)
  · obtain ⟨v, b, us, cs, rfl, _⟩ := h
    rfl
  · obtain ⟨v, b, us, cs, rfl, he, hb, hcs, q⟩ := h
    refine ⟨_, (pss_cons (ps_set (i := 2) sc_equals.nd rfl (.inl rfl) (pe_revL (pe_callTy call_list_of (by rfl) T.m_list (by decide +kernel) (pa_cons (pv 1) pa_nil)) (po_some (pe_un un_neg pe_int))))
      (pss_cons (ps_set (i := 3) sc_equals.nd rfl (.inl rfl) (pe_make ⟨T.ms_Errata, T.g_Errata_init, T.fn_Errata_init, T.kc_Errata⟩ (ok_Errata_init T) (hr.mono (by decide)) (by rfl) T.cg_Errata T.b_Errata_init .nil passL (pa_cons (pv 2) pa_nil)))
      (pss_cons (ps_if (PW.pt (pw_or (pt_cmpR op_isnot_bl (pe_cmpR (op_eqOwn (ok_Errata_eq T) T.g_Errata_eq T.fn_Errata_eq T.b_Errata_eq (hr.mono (by decide))) (pv 0) (pe_make ⟨T.ms_Errata, T.g_Errata_init, T.fn_Errata_init, T.kc_Errata⟩ (ok_Errata_init T) (hr.mono (by decide)) (by rfl) T.cg_Errata T.b_Errata_init .nil passL (pa_cons (pe_callTy call_list_of (by rfl) T.m_list (by decide +kernel) (pa_cons (pv 1) pa_nil)) pa_nil)) (nomark _)) pe_bl (nomark _)) (pw_or1 (pt_cmpR op_ne (pe_callB (call_reprD (by exact hg) (by exact un20 hr)) (by rfl) T.m_repr (by decide +kernel) (pa_cons (pe_cmpR (op_eqOwn (ok_Errata_eq T) T.g_Errata_eq T.fn_Errata_eq T.b_Errata_eq (hr.mono (by decide))) (pv 0) (pv 3) (nomark _)) pa_nil)) (pe_callB (call_reprD (by exact hg) (by exact un20 hr)) (by rfl) T.m_repr (by decide +kernel) (pa_cons (pe_cmpR (op_eqD hr.units) (pe_callTy call_list_of (by rfl) T.m_list (by decide +kernel) (pa_cons (pv 1) pa_nil)) (pv 2) (nomark _)) pa_nil)) (nomark _)))))
      (pss_one (ps_ret pe_bl))
      pss_nil)
      (pss_cons (ps_if (PW.pt (pw_and (pt_truth (pv 1) (fun _ => rfl)) (pw_and1 (PW.pt (pw_or (pt_cmpR op_isnot_bl (pe_cmpR (op_eqOwn (ok_Errata_eq T) T.g_Errata_eq T.fn_Errata_eq T.b_Errata_eq (hr.mono (by decide))) (pv 0) (pe_make ⟨T.ms_Errata, T.g_Errata_init, T.fn_Errata_init, T.kc_Errata⟩ (ok_Errata_init T) (hr.mono (by decide)) (by rfl) T.cg_Errata T.b_Errata_init .nil passL (pa_cons (pe_slice sl_list (pv 1) po_none (po_some (pe_un un_neg pe_int))) pa_nil)) (nomark _)) pe_bl (nomark _)) (pw_or1 (pt_cmpR op_isnot_bl (pe_cmpR (op_eqOwn (ok_Errata_eq T) T.g_Errata_eq T.fn_Errata_eq T.b_Errata_eq (hr.mono (by decide))) (pe_make ⟨T.ms_Errata, T.g_Errata_init, T.fn_Errata_init, T.kc_Errata⟩ (ok_Errata_init T) (hr.mono (by decide)) (by rfl) T.cg_Errata T.b_Errata_init .nil passL (pa_cons (pe_slice sl_list (pv 1) (po_some pe_int) po_none) pa_nil)) (pv 0) (nomark _)) pe_bl (nomark _))))))))
      (pss_one (ps_ret pe_bl))
      pss_nil)
      (pss_cons (ps_if (PW.pt (pw_or (pt_cmpR op_isnot_bl (pe_cmpR (op_eqOwn (ok_Errata_eq T) T.g_Errata_eq T.fn_Errata_eq T.b_Errata_eq (hr.mono (by decide))) (pv 0) (pe_callTy call_tuple_of (by rfl) T.m_tuple (by decide +kernel) (pa_cons (pv 1) pa_nil)) (nomark _)) pe_bl (nomark _)) (pw_or (pt_cmpR op_isnot_bl (pe_cmpR (op_eqOwn (ok_Errata_eq T) T.g_Errata_eq T.fn_Errata_eq T.b_Errata_eq (hr.mono (by decide))) (pv 0) pe_int (nomark _)) pe_bl (nomark _)) (pw_or1 (pt_cmpR op_isnot_bl (pe_cmpR (op_eqOwn (ok_Errata_eq T) T.g_Errata_eq T.fn_Errata_eq T.b_Errata_eq (hr.mono (by decide))) (pv 0) (pe_callTy call_list_of (by rfl) T.m_list (by decide +kernel) (pa_cons (pv 1) pa_nil)) (nomark _)) pe_bl (nomark _))))))
      (pss_one (ps_ret pe_bl))
      pss_nil)
      (pss_one (ps_ret (pe_and (pe_callG (ok_keeps T) (hr.mono (by decide)) hg (by rfl) T.g_keeps T.F_keeps.kp T.b_keeps pass0 (pa_cons (pv 3) (pa_cons (pv 2) pa_nil))) (pe_one (pe_callG (ok_keeps T) (hr.mono (by decide)) hg (by rfl) T.g_keeps T.F_keeps.kp T.b_keeps pass0 (pa_cons (pv 0) (pa_cons (pv 1) pa_nil)))))))))))), ?_⟩
    obtain ⟨tu, ok, l60⟩ := id hcs
    obtain ⟨x, dx, a, t, ws, rfl, hx, _, _⟩ := id he
    have lu := tu.len
    rw [List.length_map] at lu
    have tyE : ∀ {Hz : Hp} {y : V} {ds : List Co}, ErAt T.C_Errata Hz y ds → TyX K Hz y (.ref T.C_Errata) := fun h => by
      obtain ⟨x, dx, b, t, vs, rfl, h1, h2, h3⟩ := h
      exact .base (.ins h1 T.cl_Errata T.ca_Errata T.cn_Errata T.ct_Errata T.cm_Errata)
    have okr : ∀ c ∈ cs.reverse, okC c := fun c hc => ok c (List.mem_reverse.mp hc)
    refine ⟨_, rfl, b, us, rfl, .inl (.inl (.inl hb)), fun D nD => ?_⟩
    have s1 := same_upd (o := .lst us) nD
    have hD : upd H D (.lst us) D = some (.lst us) := upd_same
    generalize upd H D (.lst us) = H1 at s1 hD ⊢
    refine ⟨1, rfl, -1, rfl, D, us, rfl, rfl, .inl (.inl hD), fun M nM => ?_⟩
    have s2 := same_upd (o := .lst us.reverse) nM
    have hM : upd H1 M (.lst us.reverse) M = some (.lst us.reverse) := upd_same
    generalize upd H1 M (.lst us.reverse) = H2 at s2 hM ⊢
    have s02 := s1.trans s2
    have hr2 : CsAt H2 us.reverse cs.reverse := (hcs.nl (NL.of s02)).rev
    refine ⟨_, rfl, fun x2 dq1 nq1 mq1 oq1 => ?_⟩
    have hq1 := hr2
    have zq1 : Same _ (upd (upd _ dq1 (.own x2)) x2 (.ins T.C_Errata dq1 [])) := mk_same nq1 mq1
    refine ⟨x2, dq1, .ref _, rfl, upd_same, .inr ⟨.list (List.map dC _), fun _ => none, .lst (zq1 _ _ hM) rfl ((hq1.1.td).same zq1), fun e => (by cases e), fun ds e => ?_⟩⟩
    cases e
    refine ⟨jin_C hq1.2.1 (by have := hq1.2.2; omega), fun l => absurd l (by rw [List.length_map]; have := hq1.2.2; omega), fun _ => ⟨fun i e => (firstN_Cs hq1.2.1 e).elim, fun cq1 eq1 H3 bq1 he2 => ⟨rfl, ?_⟩⟩⟩
    rw [kept_Cs hq1.2.1] at eq1
    rw [map_some_inj eq1] at he2
    have s3 := mk_after nq1 zq1 bq1
    have s03 := s02.trans s3
    refine ⟨_, rfl, _, rfl, b, us, rfl, .inl (.inl (.inl (s03 _ _ hb))), fun D2 nD2 => ?_⟩
    have s4 := same_upd (o := .lst us) nD2
    have hD2 : upd H3 D2 (.lst us) D2 = some (.lst us) := upd_same
    generalize upd H3 D2 (.lst us) = H4 at s4 hD2 ⊢
    have s04 := s03.trans s4
    refine fun x3 dq2 nq2 mq2 oq2 => ?_
    have hq2 := (hcs.nl (NL.of s04))
    have zq2 : Same _ (upd (upd _ dq2 (.own x3)) x3 (.ins T.C_Errata dq2 [])) := mk_same nq2 mq2
    refine ⟨x3, dq2, .ref _, rfl, upd_same, .inr ⟨.list (List.map dC _), fun _ => none, .lst (zq2 _ _ hD2) rfl ((hq2.1.td).same zq2), fun e => (by cases e), fun ds e => ?_⟩⟩
    cases e
    refine ⟨jin_C hq2.2.1 (by have := hq2.2.2; omega), fun l => absurd l (by rw [List.length_map]; have := hq2.2.2; omega), fun _ => ⟨fun i e => (firstN_Cs hq2.2.1 e).elim, fun cq2 eq2 H5 bq2 he3 => ⟨rfl, ?_⟩⟩⟩
    rw [kept_Cs hq2.2.1] at eq2
    rw [map_some_inj eq2] at he3
    have s5 := mk_after nq2 zq2 bq2
    have s05 := s04.trans s5
    refine ⟨x, dx, _, .ref T.C_Errata, rfl, s05 _ _ hx, tyE he3, nf_self, .ref x, .ref x3, cs, rfl, he.nl (NL.of s05), ok, l60, .inl ⟨cs, he3, ok, l60, ⟨_, rfl⟩, _, true, rfl, rfl, _, rfl, ite2 (fun e => by rw [eqv_pd (pd_Ct ok l60)] at e; simp at e) (fun _ => ?_)⟩⟩
    have he2' := he2.nl (NL.of (s4.trans s5))
    refine ⟨_, rfl, _, rfl, x, dx, _, .ref T.C_Errata, rfl, s05 _ _ hx, tyE he2', nf_self, .ref x, .ref x2, cs, rfl, he.nl (NL.of s05), ok, l60, .inl ⟨cs.reverse, he2', okr, by rw [List.length_reverse]; exact l60, ⟨_, rfl⟩, ?_⟩⟩
    obtain ⟨h1, h2, h3, h4⟩ := sh_bool (PyData.eqv (.tuple (cs.map dC)) (.tuple (cs.reverse.map dC)))
    refine ⟨_, .bool _, rfl, .bl _, h1, h2, h3, h4, ?_⟩
    refine ⟨_, rfl, b, us, rfl, .inl (.inl (.inl (s05 _ _ hb))), fun D3 nD3 => ?_⟩
    have s6 := same_upd (o := .lst us) nD3
    have hD3 : upd H5 D3 (.lst us) D3 = some (.lst us) := upd_same
    generalize upd H5 D3 (.lst us) = H6 at s6 hD3 ⊢
    have s06 := s05.trans s6
    have hM6 := s6 _ _ (s5 _ _ (s4 _ _ (s3 _ _ hM)))
    have hr6 : CsAt H6 us.reverse cs.reverse := (hcs.nl (NL.of s06)).rev
    refine ⟨_, rfl, .list (cs.map dC), .list (cs.reverse.map dC), .lst (.inl (.inl hD3)) (tu.nl (NL.of s06)).dp, .lst (.inl (.inl hM6)) hr6.1.dp, shaped_pdl (pd_Cs ok) (by decide), shaped_pdl (pd_Cs okr) (by decide), ?_⟩
    rw [eqv_tl]
    refine ⟨_, .bool _, rfl, .bl _, h1, h2, h3, h4, rfl, _, rfl, ite2 (fun e => by simp at e) (fun _ => ?_)⟩
    have hb6 := s06 _ _ hb
    have he6 := he.nl (NL.of s06)
    have hx6 := s06 _ _ hx
    refine ⟨_, rfl, _, .inl ⟨_, .inl (.inl hb6), rfl⟩, ?_⟩
    by_cases eu : us = []
    · rw [show (!us.isEmpty) = false by rw [eu]; rfl]
      refine iteF ?_
      have hb7 := hb6
      have hx7 := hx6
      have he7 := he6
      have s07 := s06
      have s67 := Same.refl H6
      have s57 := s6
      obtain ⟨H7, e67⟩ : ∃ H7, H7 = H6 := ⟨_, rfl⟩
      rw [← e67] at hb7 hx7 he7 s07 s67 s57 hM6 ⊢
      refine ⟨_, rfl, _, rfl, b, us, rfl, .inl ⟨.inl (.inl hb7), fun P nP => ?_⟩⟩
      have s8 := same_upd (o := .tup us) nP
      have hP : upd H7 P (.tup us) P = some (.tup us) := upd_same
      generalize upd H7 P (.tup us) = H8 at s8 hP ⊢
      refine ⟨x, dx, _, .type "tuple", rfl, s8 _ _ hx7, ty_T (.inl (.inl hP)), nf_ty T.ns_Errata_tuple, .ref x, .ref P, cs, rfl, he7.nl (NL.of s8), ok, l60, .inr ⟨.type "tuple", ty_T (.inl (.inl hP)), kit_not T.ic_Errata T.tc_Errata T.ns_Errata_tuple, ⟨_, rfl⟩, false, false, rfl, rfl, _, rfl, ite2 (fun e => by simp at e) (fun _ => ?_)⟩⟩
      refine ⟨_, rfl, x, dx, _, .type "int", rfl, s8 _ _ hx7, .base (.int 7), nf_ty T.ns_Errata_int, .ref x, .int 7, cs, rfl, he7.nl (NL.of s8), ok, l60, .inr ⟨.type "int", .base (.int 7), kit_not T.ic_Errata T.tc_Errata T.ns_Errata_int, ⟨_, rfl⟩, false, false, rfl, rfl, _, rfl, ite2 (fun e => by simp at e) (fun _ => ?_)⟩⟩
      refine ⟨_, rfl, _, rfl, b, us, rfl, .inl (.inl (.inl (s8 _ _ hb7))), fun P2 nP2 => ?_⟩
      have s9 := same_upd (o := .lst us) nP2
      have hP2 : upd H8 P2 (.lst us) P2 = some (.lst us) := upd_same
      generalize upd H8 P2 (.lst us) = H9 at s9 hP2 ⊢
      have s79 := s8.trans s9
      refine ⟨x, dx, _, .type "list", rfl, s79 _ _ hx7, ty_L (.inl (.inl hP2)), nf_ty T.ns_Errata_list, .ref x, .ref P2, cs, rfl, he7.nl (NL.of s79), ok, l60, .inr ⟨.type "list", ty_L (.inl (.inl hP2)), kit_not T.ic_Errata T.tc_Errata T.ns_Errata_list, ⟨_, rfl⟩, false, false, rfl, rfl, _, rfl, ite2 (fun e => by simp at e) (fun _ => ?_)⟩⟩
      have s09 := s07.trans s79
      refine ⟨_, rfl, _, rfl, .ref x2, M, us.reverse, cs.reverse, rfl, he2'.nl (NL.of (s57.trans s79)), s79 _ _ (s67 _ _ hM6), (hcs.nl (NL.of s09)).rev, fun H10 s10 => ⟨true, rfl, iteT ?_⟩⟩
      exact ⟨_, rfl, _, rfl, .ref x, b, us, cs, rfl, (he7.nl (NL.of s79)).nl (NL.of s10), s10 _ _ (s79 _ _ hb7), hcs.nl (NL.of (s09.trans s10)), fun H11 s11 => q _ (s09.trans (s10.trans s11))⟩
    · rw [show (!us.isEmpty) = true by cases us with | nil => exact absurd rfl eu | cons _ _ => rfl]
      refine iteT ?_
      have l1 : 1 ≤ cs.length := by rw [← lu]; exact List.length_pos_iff.mpr eu
      refine ⟨_, rfl, _, rfl, 1, rfl, -1, rfl, b, us, rfl, .inl (.inl hb6), fun P nP => ?_⟩
      rw [cut_last, List.dropLast_eq_take]
      have sa := same_upd (o := .lst (us.take (us.length - 1))) nP
      have hP : upd H6 P (.lst (us.take (us.length - 1))) P = some (.lst (us.take (us.length - 1))) := upd_same
      generalize upd H6 P (.lst (us.take (us.length - 1))) = Ha at sa hP ⊢
      have s0a := s06.trans sa
      have okt : ∀ c ∈ cs.take (us.length - 1), okC c := fun c hc => ok c (List.mem_of_mem_take hc)
      have lt : (cs.take (us.length - 1)).length = cs.length - 1 := by rw [List.length_take]; omega
      refine fun y3 dq3 nq3 mq3 oq3 => ?_
      have hq3 := ((hcs.nl (NL.of s0a)).take (us.length - 1))
      have zq3 : Same _ (upd (upd _ dq3 (.own y3)) y3 (.ins T.C_Errata dq3 [])) := mk_same nq3 mq3
      refine ⟨y3, dq3, .ref _, rfl, upd_same, .inr ⟨.list (List.map dC _), fun _ => none, .lst (zq3 _ _ hP) rfl ((hq3.1.td).same zq3), fun e => (by cases e), fun ds e => ?_⟩⟩
      cases e
      refine ⟨jin_C hq3.2.1 (by have := hq3.2.2; omega), fun l => absurd l (by rw [List.length_map]; have := hq3.2.2; omega), fun _ => ⟨fun i e => (firstN_Cs hq3.2.1 e).elim, fun cq3 eq3 Hb bq3 hy3 => ⟨rfl, ?_⟩⟩⟩
      rw [kept_Cs hq3.2.1] at eq3
      rw [map_some_inj eq3] at hy3
      have sb := mk_after nq3 zq3 bq3
      have sab := sa.trans sb
      refine ⟨x, dx, _, .ref T.C_Errata, rfl, sab _ _ hx6, tyE hy3, nf_self, .ref x, .ref y3, cs, rfl, he6.nl (NL.of sab), ok, l60, .inl ⟨_, hy3, okt, by omega, ⟨_, rfl⟩, _, false, rfl, rfl, _, rfl, ite2 (fun e => by rw [eqv_other (by omega)] at e; simp at e) (fun _ => ?_)⟩⟩
      have s0b := s06.trans sab
      refine ⟨_, rfl, 1, rfl, noPart ⟨b, us, rfl, .inl (.inl (sab _ _ hb6)), fun P2 nP2 => ?_⟩⟩
      rw [show cutV us (some 1) none = us.drop 1 from cutV_from us 1]
      have sc := same_upd (o := .lst (us.drop 1)) nP2
      have hP2 : upd Hb P2 (.lst (us.drop 1)) P2 = some (.lst (us.drop 1)) := upd_same
      generalize upd Hb P2 (.lst (us.drop 1)) = Hc at sc hP2 ⊢
      have okd : ∀ c ∈ cs.drop 1, okC c := fun c hc => ok c (List.mem_of_mem_drop hc)
      have ld : (cs.drop 1).length = cs.length - 1 := by rw [List.length_drop]
      refine fun y4 dq4 nq4 mq4 oq4 => ?_
      have hq4 := ((hcs.nl (NL.of (s0b.trans sc))).drop 1)
      have zq4 : Same _ (upd (upd _ dq4 (.own y4)) y4 (.ins T.C_Errata dq4 [])) := mk_same nq4 mq4
      refine ⟨y4, dq4, .ref _, rfl, upd_same, .inr ⟨.list (List.map dC _), fun _ => none, .lst (zq4 _ _ hP2) rfl ((hq4.1.td).same zq4), fun e => (by cases e), fun ds e => ?_⟩⟩
      cases e
      refine ⟨jin_C hq4.2.1 (by have := hq4.2.2; omega), fun l => absurd l (by rw [List.length_map]; have := hq4.2.2; omega), fun _ => ⟨fun i e => (firstN_Cs hq4.2.1 e).elim, fun cq4 eq4 Hd bq4 hy4 => ⟨rfl, ?_⟩⟩⟩
      rw [kept_Cs hq4.2.1] at eq4
      rw [map_some_inj eq4] at hy4
      have sd := mk_after nq4 zq4 bq4
      have scd := sc.trans sd
      have sbd := sab.trans scd
      obtain ⟨_, dy4, _, _, _, ey4, hy4x, _, _⟩ := id hy4
      cases ey4
      refine ⟨_, rfl, y4, dy4, _, .ref T.C_Errata, rfl, hy4x, tyE (he6.nl (NL.of sbd)), nf_self, .ref y4, .ref x, _, rfl, hy4, okd, by omega, .inl ⟨cs, he6.nl (NL.of sbd), ok, l60, ⟨_, rfl⟩, _, false, rfl, rfl, _, rfl, ite2 (fun e => by rw [eqv_other (by omega)] at e; simp at e) (fun _ => ?_)⟩⟩
      have hb7 := sbd _ _ hb6
      have hx7 := sbd _ _ hx6
      have he7 := he6.nl (NL.of sbd)
      have s07 := s06.trans sbd
      have s67 := sbd
      have s57 := s6.trans sbd
      obtain ⟨H7, e67⟩ : ∃ H7, H7 = Hd := ⟨_, rfl⟩
      rw [← e67] at hb7 hx7 he7 s07 s67 s57 ⊢
      refine ⟨_, rfl, _, rfl, b, us, rfl, .inl ⟨.inl (.inl hb7), fun P nP => ?_⟩⟩
      have s8 := same_upd (o := .tup us) nP
      have hP : upd H7 P (.tup us) P = some (.tup us) := upd_same
      generalize upd H7 P (.tup us) = H8 at s8 hP ⊢
      refine ⟨x, dx, _, .type "tuple", rfl, s8 _ _ hx7, ty_T (.inl (.inl hP)), nf_ty T.ns_Errata_tuple, .ref x, .ref P, cs, rfl, he7.nl (NL.of s8), ok, l60, .inr ⟨.type "tuple", ty_T (.inl (.inl hP)), kit_not T.ic_Errata T.tc_Errata T.ns_Errata_tuple, ⟨_, rfl⟩, false, false, rfl, rfl, _, rfl, ite2 (fun e => by simp at e) (fun _ => ?_)⟩⟩
      refine ⟨_, rfl, x, dx, _, .type "int", rfl, s8 _ _ hx7, .base (.int 7), nf_ty T.ns_Errata_int, .ref x, .int 7, cs, rfl, he7.nl (NL.of s8), ok, l60, .inr ⟨.type "int", .base (.int 7), kit_not T.ic_Errata T.tc_Errata T.ns_Errata_int, ⟨_, rfl⟩, false, false, rfl, rfl, _, rfl, ite2 (fun e => by simp at e) (fun _ => ?_)⟩⟩
      refine ⟨_, rfl, _, rfl, b, us, rfl, .inl (.inl (.inl (s8 _ _ hb7))), fun P2 nP2 => ?_⟩
      have s9 := same_upd (o := .lst us) nP2
      have hP2 : upd H8 P2 (.lst us) P2 = some (.lst us) := upd_same
      generalize upd H8 P2 (.lst us) = H9 at s9 hP2 ⊢
      have s79 := s8.trans s9
      refine ⟨x, dx, _, .type "list", rfl, s79 _ _ hx7, ty_L (.inl (.inl hP2)), nf_ty T.ns_Errata_list, .ref x, .ref P2, cs, rfl, he7.nl (NL.of s79), ok, l60, .inr ⟨.type "list", ty_L (.inl (.inl hP2)), kit_not T.ic_Errata T.tc_Errata T.ns_Errata_list, ⟨_, rfl⟩, false, false, rfl, rfl, _, rfl, ite2 (fun e => by simp at e) (fun _ => ?_)⟩⟩
      have s09 := s07.trans s79
      refine ⟨_, rfl, _, rfl, .ref x2, M, us.reverse, cs.reverse, rfl, he2'.nl (NL.of (s57.trans s79)), s79 _ _ (s67 _ _ hM6), (hcs.nl (NL.of s09)).rev, fun H10 s10 => ⟨true, rfl, iteT ?_⟩⟩
      exact ⟨_, rfl, _, rfl, .ref x, b, us, cs, rfl, (he7.nl (NL.of s79)).nl (NL.of s10), s10 _ _ (s79 _ _ hb7), hcs.nl (NL.of (s09.trans s10)), fun H11 s11 => q _ (s09.trans (s10.trans s11))⟩
theorem ok_odd_thing (T : Tab K mg) : FnOk P w K mg base CX0 9 T.f_odd_thing T.d_odd_thing ["_law_source_here", "_law_rows"] (sp_odd_thing K T.C_Errata) := by
  refine T.F_odd_thing.ok sc_odd_thing (fun vs H Q E h => ?_) (fun cdv A outer s H vs Q E hr h => ?_)
  · obtain ⟨a, b, us, cs, rfl, _⟩ := h
    rfl
  · obtain ⟨a, b, us, cs, rfl, src, ba, hb, hcs, q⟩ := h
    refine ⟨_, (pss_cons (ps_set (i := 2) sc_odd_thing.nd rfl (.inl rfl) (pe_call (ok_pick T) (hr.mono (by decide)) (by rfl) T.g_pick T.F_pick.kp T.b_pick .nil pass0 (pa_cons (pv 0) (pa_cons pe_int pa_nil))))
      (pss_cons (ps_if (PW.pt (pw_and (pt_cmpR op_lt (pv 2) pe_int (nomark _)) (pw_and1 (pt_truth (pv 1) (fun _ => rfl)))))
      (pss_one (ps_ret (pe_lst (pa_cons (pe_ix ix_list (pv 1) pe_int (fun _ _ => rfl)) (pa_cons (pe_lst (pa_cons pe_str (pa_cons pe_str pa_nil))) pa_nil)))))
      pss_nil)
      (pss_cons (ps_if (pt_cmpR op_eq (pv 2) pe_int (nomark _))
      (pss_one (ps_ret (pe_lst (pa_cons (pe_make ⟨T.ms_Errata, T.g_Errata_init, T.fn_Errata_init, T.kc_Errata⟩ (ok_Errata_init T) (hr.mono (by decide)) (by rfl) T.cg_Errata T.b_Errata_init .nil passL (pa_cons (pe_slice sl_list (pv 1) po_none (po_some pe_int)) pa_nil)) (pa_cons (pe_lst (pa_cons pe_str pa_nil)) pa_nil)))))
      pss_nil)
      (pss_cons (ps_set (i := 3) sc_odd_thing.nd rfl (.inl rfl) (pe_lst (pa_cons pe_non (pa_cons pe_int (pa_cons pe_bl (pa_cons pe_str (pa_cons pe_str (pa_cons pe_dnewK pa_nil))))))))
      (pss_one (ps_ret (pe_lst (pa_cons (pe_ix ix_list (pv 3) (pe_op op_mod (pe_callTy call_int1 (by rfl) T.m_int (by decide +kernel) (pa_cons (pv 2) pa_nil)) pe_int) (fun _ _ => rfl)) (pa_cons (pe_lst (pa_cons pe_str pa_nil)) pa_nil))))))))), ?_⟩
    obtain ⟨tu, ok, l60⟩ := id hcs
    have lu := tu.len
    rw [List.length_map] at lu
    have tyE : ∀ {Hz : Hp} {y : V} {ds : List Co}, ErAt T.C_Errata Hz y ds → TyX K Hz y (.ref T.C_Errata) := fun h => by
      obtain ⟨x, dx, b, t, vs, rfl, h1, h2, h3⟩ := h
      exact .base (.ins h1 T.cl_Errata T.ca_Errata T.cn_Errata T.ct_Errata T.cm_Errata)
    refine ⟨_, rfl, a, 9, rfl, src, by decide, by decide, fun r H1 s1 b1 r0 r1 => ?_⟩
    have hb1 := b1 _ _ ba hb
    have hc1 := hcs.nl (src.nl b1)
    have hL1 : SqL K H1 b us := .inl (.inl hb1)
    refine ⟨_, rfl, r, 2, rfl, rfl, _, rfl, ite2 (fun e => ⟨_, rfl, !us.isEmpty, .inl ⟨us, hL1, rfl⟩, ite2 (fun e2 => ?A) (fun e2 => ?t)⟩) (fun e => ?t2)⟩
    case A =>
      cases us with
      | nil => cases e2
      | cons u us =>
        cases cs with
        | nil => cases lu
        | cons c cs =>
          have hu : Tp H1 u (dC c) := by
            have := hc1.1
            cases this with
            | cons h _ => exact h
          refine ⟨_, rfl, b, _, 0, u, rfl, rfl, hL1, at_of' (j := 0) rfl rfl, ?_⟩
          refine ⟨(by show 2 ≤ sizeLine; decide), fun L nL => ?_⟩
          have s2 := same_upd (o := .lst [.str "bad", .str "0"]) nL
          have eL : upd H1 L (.lst [.str "bad", .str "0"]) L = some (.lst [.str "bad", .str "0"]) := upd_same
          generalize upd H1 L (.lst [.str "bad", .str "0"]) = H2 at s2 eL ⊢
          refine ⟨(by show 2 ≤ sizeLine; decide), fun M nM => ?_⟩
          have s3 := same_upd (o := .lst [u, .ref L]) nM
          exact q M L u ["bad", "0"] _ (srcS s3 (srcS s2 s1)) (b1.trans (But.of (s2.trans s3))) upd_same (s3 _ _ eL) (.inl ⟨c, hu.nl (NL.of (s2.trans s3)), ok c (List.mem_cons_self ..), rfl⟩)
    all_goals
      refine ⟨_, rfl, rfl, _, rfl, ite2 (fun e => ?_) (fun e => ?_)⟩
      · refine ⟨_, rfl, noPart ⟨1, rfl, b, us, rfl, hL1, fun M nM => ?_⟩⟩
        have s2 := same_upd (o := .lst (cutV us none (some 1))) nM
        have eM : upd H1 M (.lst (cutV us none (some 1))) M = some (.lst (us.take 1)) := by rw [upd_same]; exact congrArg (fun x => some (HO.lst x)) (cutV_to us 1)
        generalize upd H1 M (.lst (cutV us none (some 1))) = H2 at s2 eM ⊢
        have hc2 := (hc1.nl (NL.of s2)).take 1
        refine fun x3 dq2 nq2 mq2 oq2 => ?_
        have zq2 : Same _ (upd (upd _ dq2 (.own x3)) x3 (.ins T.C_Errata dq2 [])) := mk_same nq2 mq2
        refine ⟨x3, dq2, .ref _, rfl, upd_same, .inr ⟨.list (List.map dC _), fun _ => none, .lst (zq2 _ _ eM) rfl ((hc2.1.td).same zq2), fun e => (by cases e), fun ds e => ?_⟩⟩
        cases e
        refine ⟨jin_C hc2.2.1 (by have := hc2.2.2; omega), fun l => absurd l (by rw [List.length_map]; have := hc2.2.2; omega), fun _ => ⟨fun i e => (firstN_Cs hc2.2.1 e).elim, fun cq2 eq2 H3 bq2 he3 => ⟨rfl, ?_⟩⟩⟩
        have s3 := mk_after nq2 zq2 bq2
        refine ⟨(by show 1 ≤ sizeLine; decide), fun L nL => ?_⟩
        have s4 := same_upd (o := .lst [.str "errata"]) nL
        have eL : upd H3 L (.lst [.str "errata"]) L = some (.lst [.str "errata"]) := upd_same
        generalize upd H3 L (.lst [.str "errata"]) = H4 at s4 eL ⊢
        refine ⟨(by show 2 ≤ sizeLine; decide), fun M nM => ?_⟩
        have s5 := same_upd (o := .lst [.ref x3, .ref L]) nM
        have s14 := (s2.trans s3).trans s4
        have src5 := srcS s5 (srcS s4 (srcS s3 (srcS s2 s1)))
        refine q M L (.ref x3) ["errata"] _ src5 (b1.trans (But.of (s14.trans s5))) upd_same (s5 _ _ eL) (.inr (.inl ⟨⟨.ref T.C_Errata, fun Hz sz => tyE (he3.nl (NL.of ((s4.trans s5).trans sz))), by unfold PySem.W.kitAny; rw [T.q_Errata_tuple]; unfold PySem.W.kitAny; rw [T.q_Errata_list]; rfl⟩, rfl⟩))
      · refine fun D nD => ⟨(by show 6 ≤ sizeLine; decide), fun M nM => ?_⟩
        have s2 := same_upd (o := .dK []) nD
        have eD : upd H1 D (.dK []) D = some (.dK []) := upd_same
        generalize upd H1 D (.dK []) = H2 at s2 eD nM ⊢
        have s3 := same_upd (o := .lst [.non, .int 7, .bl true, .str "", .str "abcde", .ref D]) nM
        have eM : upd H2 M (.lst [.non, .int 7, .bl true, .str "", .str "abcde", .ref D]) M = some (.lst [.non, .int 7, .bl true, .str "", .str "abcde", .ref D]) := upd_same
        generalize upd H2 M (.lst [.non, .int 7, .bl true, .str "", .str "abcde", .ref D]) = H3 at s3 eM ⊢
        have eD3 := s3 _ _ eD
        refine ⟨_, rfl, _, rfl, .inl ⟨r, rfl, r, 6, rfl, rfl, (by show (0:Int) < 6; decide), ?_⟩⟩
        have mr : 0 ≤ r % 6 ∧ r % 6 < 6 := ⟨by omega, by omega⟩
        obtain ⟨v, hv, P⟩ : ∃ v, ([.non, .int 7, .bl true, .str "", .str "abcde", .ref D] : List V)[(r % 6).toNat]? = some v ∧ ∀ Hz, Same H3 Hz → (NoRow K Hz v ∨ ∃ d, Tp Hz v d ∧ items d = none) := by
          obtain h | h | h | h | h | h : (r % 6).toNat = 0 ∨ (r % 6).toNat = 1 ∨ (r % 6).toNat = 2 ∨ (r % 6).toNat = 3 ∨ (r % 6).toNat = 4 ∨ (r % 6).toNat = 5 := by omega
          all_goals rw [h]
          · exact ⟨_, rfl, fun _ _ => .inr ⟨_, .non, rfl⟩⟩
          · exact ⟨_, rfl, fun _ _ => .inr ⟨_, .int _, rfl⟩⟩
          · exact ⟨_, rfl, fun _ _ => .inr ⟨_, .bl _, rfl⟩⟩
          · exact ⟨_, rfl, fun _ _ => .inr ⟨_, .str _, rfl⟩⟩
          · exact ⟨_, rfl, fun _ _ => .inr ⟨_, .str _, rfl⟩⟩
          · exact ⟨_, rfl, fun Hz sz => .inl ⟨.type "dict", fun Hy sy => .base (.dK (sy _ _ (sz _ _ eD3))) , by rfl⟩⟩
        refine ⟨M, _, r % 6, v, rfl, rfl, .inl (.inl eM), at_of' (Int.toNat_of_nonneg mr.1).symm hv, ?_⟩
        refine ⟨(by show 1 ≤ sizeLine; decide), fun L nL => ?_⟩
        have s4 := same_upd (o := .lst [.str "errata"]) nL
        have eL : upd H3 L (.lst [.str "errata"]) L = some (.lst [.str "errata"]) := upd_same
        generalize upd H3 L (.lst [.str "errata"]) = H4 at s4 eL ⊢
        refine ⟨(by show 2 ≤ sizeLine; decide), fun N nN => ?_⟩
        have s5 := same_upd (o := .lst [v, .ref L]) nN
        have s14 := (s2.trans s3).trans s4
        refine q N L v ["errata"] _ (srcS s5 (srcS s4 (srcS s3 (srcS s2 s1)))) (b1.trans (But.of (s14.trans s5))) upd_same (s5 _ _ eL) (.inr ?_)
        rcases P _ (s4.trans s5) with p | ⟨d, p, e⟩
        · exact .inl ⟨p, rfl⟩
        · exact .inr ⟨d, p, e, rfl⟩
theorem ok_good_asked (T : Tab K mg) : GnOk P w K mg base CX0 10 T.f_good_asked T.d_good_asked ["_law_rows", "_law_way"] (sp_good_asked K) := by
  refine gn_ok T.F_good_asked sc_good_asked (fun vs H Q E h => ?_) (fun cdv A outer s H vs Q E hr hg h => ?_)
  · obtain ⟨b, us, cs, w, rfl, _⟩ := h
    rfl
  · obtain ⟨b, us, cs, w, rfl, hb, hcs, q⟩ := h
    refine ⟨_, (pss_cons (ps_set (i := 2) sc_good_asked.nd rfl (.inl rfl) (pe_call (ok_shaped T 7) (hr.mono (by decide)) (by rfl) T.g_shaped T.F_shaped.kp T.b_shaped .nil pass0 (pa_cons (pe_callTy call_tuple_of (by rfl) T.m_tuple (by decide +kernel) (pa_cons (pv 0) pa_nil)) (pa_cons (pv 1) pa_nil))))
      (pss_cons (ps_set (i := 3) sc_good_asked.nd rfl (.inl rfl) (pe_callB (call_reprD (by exact hg) (by exact un20 hr)) (by rfl) T.m_repr (by decide +kernel) (pa_cons (pv 2) pa_nil)))
      (pss_cons (ps_set (i := 4) sc_good_asked.nd rfl (.inl rfl) (pe_callG (ok_made T) (hr.mono (by decide)) hg (by rfl) T.g_made T.F_made.kp T.b_made pass0 (pa_cons (pv 2) pa_nil)))
      (pss_cons (ps_if (PW.pt (pw_or (pt_cmpR op_ne (pe_ix ix_list (pv 4) pe_int (fun _ _ => rfl)) pe_str (nomark _)) (pw_or (pt_cmpR op_ne (pe_callB (call_reprD (by exact hg) (by exact un20 hr)) (by rfl) T.m_repr (by decide +kernel) (pa_cons (pv 2) pa_nil)) (pv 3) (nomark _)) (pw_or1 (pt_not (pt_val (pe_callG (ok_keeps T) (hr.mono (by decide)) hg (by rfl) T.g_keeps T.F_keeps.kp T.b_keeps pass0 (pa_cons (pe_ix ix_list (pv 4) pe_int (fun _ _ => rfl)) (pa_cons (pv 0) pa_nil)))))))))
      (pss_one (ps_ret pe_bl))
      pss_nil)
      (C8.pss_cut (ps_if (pt_val (pe_callB call_isi (by rfl) T.m_isinstance (by decide +kernel) (pa_cons (pv 2) (pa_cons (pe_bltn (v := .ty "list") (u := .type "list") (by rfl) T.m_list (by decide +kernel) rfl) pa_nil))))
      (C8.pss_cut (ps_if (PW.pt (pw_and (pt_truth (pv 2) (fun _ => rfl)) (pw_and1 (pt_val (pe_callB call_isi (by rfl) T.m_isinstance (by decide +kernel) (pa_cons (pe_ix ix_list (pv 2) pe_int (fun _ _ => rfl)) (pa_cons (pe_bltn (v := .ty "list") (u := .type "list") (by rfl) T.m_list (by decide +kernel) rfl) pa_nil)))))))
        (pss_cons (ps_set (i := 5) sc_good_asked.nd rfl (.inl rfl) (pe_ix ix_list (pv 2) pe_int (fun _ _ => rfl)))
          (pss_cons (ps_asg pe_int (pg_sub (pv 5) pe_int set_list))
          (pss_one (ps_if (pt_val (pe_callB call_isi (by rfl) T.m_isinstance (by decide +kernel) (pa_cons (pe_ix ix_list (pv 5) pe_int (fun _ _ => rfl)) (pa_cons (pe_bltn (v := .ty "list") (u := .type "list") (by rfl) T.m_list (by decide +kernel) rfl) pa_nil))))
          (pss_cons (ps_set (i := 6) sc_good_asked.nd rfl (.inl rfl) (pe_ix ix_list (pv 5) pe_int (fun _ _ => rfl)))
            (pss_one (ps_asg pe_int (pg_sub (pv 6) pe_int set_list))))
          pss_nil))))
        pss_nil)
        (pss_one (ps_expr (pe_bm PySem.F.plainAttrs_list PySem.F.slot_list_append PySem.F.type_list_append mt_append (pv 2) (pa_cons pe_str pa_nil)))))
      pss_nil)
      (pss_one (ps_ret (pe_and (pe_callG (ok_keeps T) (hr.mono (by decide)) hg (by rfl) T.g_keeps T.F_keeps.kp T.b_keeps pass0 (pa_cons (pe_ix ix_list (pv 4) pe_int (fun _ _ => rfl)) (pa_cons (pv 0) pa_nil))) (pe_one (pe_callG (ok_equals T) (hr.mono (by decide)) hg (by rfl) T.g_equals T.F_equals.kp T.b_equals pass0 (pa_cons (pe_ix ix_list (pv 4) pe_int (fun _ _ => rfl)) (pa_cons (pv 0) pa_nil)))))))))))), ?_⟩
    obtain ⟨tu, ok, l60⟩ := id hcs
    have lu := tu.len
    rw [List.length_map] at lu
    refine ⟨_, rfl, b, us, rfl, .inl ⟨.inl (.inl hb), fun P nP => ?_⟩⟩
    have s1 := same_upd (o := .tup us) nP
    have hP : upd H P (.tup us) P = some (.tup us) := upd_same
    generalize upd H P (.tup us) = H1 at s1 hP ⊢
    have hc1 := hcs.nl (NL.of s1)
    refine ⟨_, rfl, .ref P, .tuple (cs.map dC), w, rfl, .tup hP hc1.1, dn_Cs 2 ok (by omega), fun y H2 s2 hy => ?_⟩
    obtain ⟨g1, g2, g3, g4⟩ := shown_shp w ok l60
    have hi := items_shp w (cs.map dC)
    generalize shp w (.tuple (cs.map dC)) = d at hy g1 g2 g3 g4 hi ⊢
    refine ⟨_, rfl, y, d, rfl, hy.dp, g1, g2, g3, g4, ?_⟩
    refine ⟨_, rfl, y, rfl, .inr ⟨d, H1, hy, fun e => absurd (hi.symm.trans e) (fun z => nomatch z), fun ds e => ?_⟩⟩
    rw [hi] at e
    cases e
    refine ⟨jin_shpC ok (by omega), fun l => absurd l (by rw [List.length_map, List.length_map]; omega), fun _ => ⟨fun i e => ?_, fun cs' e p ev H3 s3 np hp he => ?_⟩⟩
    · rw [firstN_shp] at e
      exact (firstN_Cs ok e).elim
    rw [map_shp, kept_Cs ok] at e
    have ce := map_some_inj e
    subst ce
    have s03 := (s1.trans s2).trans s3
    have hb3 := s03 _ _ hb
    have hc3 := hcs.nl (NL.of s03)
    refine ⟨_, rfl, p, _, 0, .str "good", rfl, rfl, .inl (.inl hp), at_of' (j := 0) rfl rfl, rfl, _, rfl, ite2 (fun e => absurd e (by decide)) (fun _ => ?_)⟩
    refine ⟨_, rfl, y, d, rfl, (hy.same s3).dp, g1, g2, g3, g4, _, rfl, rfl, _, rfl, ite2 (fun e => by simp at e) (fun _ => ?_)⟩
    refine ⟨_, rfl, p, _, 1, ev, rfl, rfl, .inl (.inl hp), at_of' (j := 1) rfl rfl, _, rfl, ev, b, us, cs', rfl, he, hb3, hc3, fun H4 s4 => ⟨true, rfl, iteF ?_⟩⟩
    have hp4 := s4 _ _ hp
    have he4 := he.nl (NL.of s4)
    have hb4 := s4 _ _ hb3
    have hc4 := hc3.nl (NL.of s4)
    have s24 := s3.trans s4
    refine ⟨fun σ' H' => ∃ o5 o6, σ' = [some (.ref b), some (.int w), some y, some (.str d.shown), some (.ref p), o5, o6] ∧ NL H4 H' ∧ H' b = some (.lst us) ∧ H' p = some (.lst [.str "good", ev]), ?_, ?_⟩
    · have lx : ∀ {xs : List V} {ds : List PyData}, TdAll H1 H2 xs ds → ds.length ≤ 60 → xs.length ≤ 1000 := fun h l => by have := h.len; omega
      obtain ⟨a, xs, rfl, tx, ⟨ha, _, na⟩ | ⟨ha, _⟩⟩ := hy.row (K := K) hi
      rotate_left
      · refine ⟨_, rfl, _, _, _, _, _, rfl, .ty "list", ty_T (.inl (.inl (s24 _ _ ha))), kit_ty (r := false) (by decide +kernel), false, rfl, iteF ?_⟩
        exact ⟨_, _, rfl, NL.refl _, hb4, hp4⟩
      have ha4 := s24 _ _ ha
      have lxs := lx tx (by rw [List.length_map, List.length_map]; omega)
      have nb : ∀ {z : Addr}, H1 z = none → b ≠ z := fun h e => by
        have := s1 _ _ hb
        rw [e, h] at this
        cases this
      have np' : ∀ {z : Addr} {o : HO}, H2 z = some o → p ≠ z := fun h e => by
        rw [e, h] at np
        cases np
      refine ⟨_, rfl, _, _, _, _, _, rfl, .ty "list", ty_L (.inl (.inl ha4)), kit_ty (r := true) (by decide +kernel), true, rfl, iteT ?_⟩
      refine ⟨fun σ' H' => ∃ o5 o6, σ' = [some (.ref b), some (.int w), some (.ref a), some (.str d.shown), some (.ref p), o5, o6] ∧ NL H4 H' ∧ H' b = some (.lst us) ∧ H' p = some (.lst [.str "good", ev]) ∧ ∃ ys, H' a = some (.lst ys) ∧ ys.length ≤ 1000, ?_, ?_⟩
      · refine ⟨_, rfl, !xs.isEmpty, .inl ⟨xs, .inl (.inl ha4), rfl⟩, ite2 (fun e1 => ?_) (fun _ => ?_)⟩
        rotate_left
        · exact ⟨_, _, rfl, NL.refl _, hb4, hp4, xs, ha4, lxs⟩
        cases xs with
        | nil => cases e1
        | cons x0 xr =>
          cases cs' with
          | nil => cases tx.len
          | cons c cr =>
            obtain ⟨d0, e0, h0⟩ := tx.get (i := 0) (v := x0) rfl
            cases e0
            obtain ⟨a0, ys0, rfl, t0, hh⟩ := h0.row (K := K) (items_shp (w / 2) [dP c.p, .int c.r, .int c.w, .str c.o, .str c.n])
            refine ⟨_, rfl, a, _, 0, .ref a0, rfl, rfl, .inl (.inl ha4), at_of' (j := 0) rfl rfl, ?_⟩
            have ha04 : ∀ {o : HO}, H2 a0 = some o → H4 a0 = some o := fun h => s24 _ _ h
            rcases hh with ⟨h0, _, n0⟩ | ⟨h0, _⟩
            rotate_left
            · refine ⟨_, _, _, _, _, rfl, .ty "list", ty_T (.inl (.inl (ha04 h0))), kit_ty (r := false) (by decide +kernel), false, rfl, iteF ?_⟩
              exact ⟨_, _, rfl, NL.refl _, hb4, hp4, _, ha4, lxs⟩
            have h04 := ha04 h0
            refine ⟨_, _, _, _, _, rfl, .ty "list", ty_L (.inl (.inl h04)), kit_ty (r := true) (by decide +kernel), true, rfl, iteT ?_⟩
            have l0 := t0.len
            rw [List.length_map] at l0
            have l5 : ys0.length = 5 := l0
            cases ys0 with
            | nil => cases l5
            | cons y00 yr =>
            obtain ⟨d1, e1, h1⟩ := t0.get (i := 0) (v := y00) rfl
            cases e1
            obtain ⟨a1, zs, rfl, t1, hh1⟩ := h1.row (K := K) (items_shp (w / 2 / 2) [dL c.p.1, .int c.p.2])
            have lz := t1.len
            rw [List.length_map] at lz
            have lz2 : zs.length = 2 := lz
            refine ⟨_, rfl, a, _, 0, .ref a0, rfl, rfl, .inl (.inl ha4), at_of' (j := 0) rfl rfl, ?_⟩
            refine ⟨_, rfl, a0, _, 1, 1, rfl, rfl, h04, (by unfold ixN; rw [if_pos (by decide), if_pos (by omega)]; rfl), ?_⟩
            have nl6 := (NL.refl H4).put h04 (.lst ((V.ref a1 :: yr).set 1 (.int 12)))
            have e6 : upd H4 a0 (.lst ((V.ref a1 :: yr).set 1 (.int 12))) a0 = some (.lst ((V.ref a1 :: yr).set 1 (.int 12))) := upd_same
            have hb6 : upd H4 a0 (.lst ((V.ref a1 :: yr).set 1 (.int 12))) b = some (.lst us) := by rw [upd_ne (nb n0)]; exact hb4
            have hp6 : upd H4 a0 (.lst ((V.ref a1 :: yr).set 1 (.int 12))) p = some (.lst [.str "good", ev]) := by rw [upd_ne (np' h0)]; exact hp4
            have ha6 := put_lst (x := a0) (zs := (V.ref a1 :: yr).set 1 (.int 12)) (by rw [List.length_set]; omega) ⟨_, ha4, lxs⟩
            have ne1 : a1 ≠ a0 := fun e => by
              rcases hh1 with ⟨q1, _⟩ | ⟨q1, _⟩
              · rw [e, h0] at q1
                cases q1
                omega
              · rw [e, h0] at q1
                cases q1
            have k6 : ∀ {o : HO}, H2 a1 = some o → upd H4 a0 (.lst ((V.ref a1 :: yr).set 1 (.int 12))) a1 = some o := fun h => by rw [upd_ne ne1]; exact s24 _ _ h
            generalize upd H4 a0 (.lst ((V.ref a1 :: yr).set 1 (.int 12))) = H6 at nl6 e6 hb6 hp6 ha6 k6 ⊢
            obtain ⟨ws, ha6, lw⟩ := ha6
            refine ⟨_, rfl, a0, _, 0, .ref a1, rfl, rfl, .inl (.inl e6), at_of' (j := 0) rfl (by cases yr <;> rfl), ?_⟩
            rcases hh1 with ⟨q1, _, n1⟩ | ⟨q1, _⟩
            rotate_left
            · refine ⟨_, _, _, _, _, rfl, .ty "list", ty_T (.inl (.inl (k6 q1))), kit_ty (r := false) (by decide +kernel), false, rfl, iteF ?_⟩
              exact ⟨_, _, rfl, nl6, hb6, hp6, _, ha6, lw⟩
            have q6 := k6 q1
            refine ⟨_, _, _, _, _, rfl, .ty "list", ty_L (.inl (.inl q6)), kit_ty (r := true) (by decide +kernel), true, rfl, iteT ?_⟩
            refine ⟨_, rfl, a0, _, 0, .ref a1, rfl, rfl, .inl (.inl e6), at_of' (j := 0) rfl (by cases yr <;> rfl), ?_⟩
            refine ⟨_, rfl, a1, _, 1, 1, rfl, rfl, q6, (by unfold ixN; rw [if_pos (by decide), if_pos (by omega)]; rfl), ?_⟩
            obtain ⟨vs, hv, lv⟩ := put_lst (x := a1) (zs := zs.set 1 (.int 2)) (by rw [List.length_set]; omega) ⟨ws, ha6, lw⟩
            exact ⟨_, _, rfl, nl6.put q6 _, by rw [upd_ne (nb n1)]; exact hb6, by rw [upd_ne (np' q1)]; exact hp6, vs, hv, lv⟩
      · rintro σ' H5 ⟨o5, o6, rfl, nl, hb5, hp5, ys, ha5, ly⟩
        refine ⟨_, rfl, .inl ⟨rfl, ys, .inl (.inl ha5)⟩, a, ys, _, rfl, rfl, ha5, (by have := sizeLine_eq; omega), ?_⟩
        exact ⟨_, _, rfl, nl.put ha5 _, by rw [upd_ne (nb na)]; exact hb5, by rw [upd_ne (np' ha)]; exact hp5⟩
    · rintro σ' H5 ⟨o5, o6, rfl, nl, hb5, hp5⟩
      have he5 := he4.nl nl
      have hc5 := hc4.nl nl
      refine ⟨_, rfl, p, _, 1, ev, rfl, rfl, .inl (.inl hp5), at_of' (j := 1) rfl rfl, _, rfl, ev, b, us, cs', rfl, he5, hb5, hc5, fun H6 s6 => ⟨true, rfl, iteT ?_⟩⟩
      exact ⟨_, rfl, p, _, 1, ev, rfl, rfl, .inl (.inl (s6 _ _ hp5)), at_of' (j := 1) rfl rfl, _, rfl, ev, b, us, cs', rfl, he5.nl (NL.of s6), s6 _ _ hb5, hc5.nl (NL.of s6), fun H7 _ => q H7⟩
theorem ok_law (T : Tab K mg) : GnOk P w K mg base CX0 11 T.f_law T.d_law ["_law_script"] (sp_law K) := by
  refine gn_ok T.F_law sc_law (fun vs H Q E h => ?_) (fun cdv A outer s H vs Q E hr hg h => ?_)
  · obtain ⟨a, ns, rfl, _⟩ := h
    rfl
  · obtain ⟨a, ns, rfl, hS, hlen, q⟩ := h
    refine ⟨_, (pss_cons (ps_set (i := 1) sc_law.nd rfl (.inl rfl) (pe_call (ok_source T) (hr.mono (by decide)) (by rfl) T.g_source T.F_source.kp T.b_source .nil pass0 (pa_cons (pv 0) (pa_cons pe_int pa_nil))))
      (pss_cons (ps_set (i := 2) sc_law.nd rfl (.inl rfl) (pe_call (ok_pick T) (hr.mono (by decide)) (by rfl) T.g_pick T.F_pick.kp T.b_pick .nil pass0 (pa_cons (pv 1) (pa_cons pe_int pa_nil))))
      (C8.pss_cut (ps_if (pt_cmpR op_eq (pe_call (ok_pick T) (hr.mono (by decide)) (by rfl) T.g_pick T.F_pick.kp T.b_pick .nil pass0 (pa_cons (pv 1) (pa_cons pe_int pa_nil))) pe_int (nomark _))
      (pss_one (ps_set (i := 2) sc_law.nd rfl (.inl rfl) (pe_op op_add pe_int (pe_call (ok_pick T) (hr.mono (by decide)) (by rfl) T.g_pick T.F_pick.kp T.b_pick .nil pass0 (pa_cons (pv 1) (pa_cons pe_int pa_nil))))))
      pss_nil)
      (pss_cons (ps_set (i := 2) sc_law.nd rfl (.inl rfl) (pe_callB (call_max2 rfl) (by rfl) T.m_max (by decide +kernel) (pa_cons (pv 2) (pa_cons (pe_callB (call_min2 rfl) (by rfl) T.m_min (by decide +kernel) (pa_cons pe_int (pa_cons (pe_op op_sub (pe_callB call_len_seq (by rfl) T.m_len PySem.boot_len (pa_cons (pv 0) pa_nil)) pe_int) pa_nil))) pa_nil))))
      (pss_cons (ps_setLc (i := 3) (own := [("_law_k", 8)]) (g := gName 8) (by rfl) sc_law.nd rfl rfl (sw_true rfl rfl rfl (by decide +kernel)) (pi_range1 (by rfl) T.m_range (pa_cons (pv 2) pa_nil)) (blkOk_by (own := [("_law_k", 8)]) (N := N_law) (sc := defScope s_law) (by decide +kernel)) (fun _ _ _ _ _ => pg_name (i := 8) sc_law.nd rfl (.inl rfl)) (fun _ _ _ _ _ => pts_nil) (fun _ _ _ _ _ => (pe_call (ok_correction T) (hr.mono (by decide)) (by rfl) T.g_correction T.F_correction.kp T.b_correction .nil pass0 (pa_cons (pe_call (ok_source T) (hr.mono (by decide)) (by rfl) T.g_source T.F_source.kp T.b_source .nil pass0 (pa_cons (pv 0) (pa_cons (pe_op op_add (pv 8) pe_int) pa_nil))) pa_nil))))
      (pss_cons (ps_set (i := 4) sc_law.nd rfl (.inl rfl) (pe_call (ok_source T) (hr.mono (by decide)) (by rfl) T.g_source T.F_source.kp T.b_source .nil pass0 (pa_cons (pv 0) (pa_cons pe_int pa_nil))))
      (pss_cons (ps_set (i := 5) sc_law.nd rfl (.inl rfl) (pe_call (ok_pick T) (hr.mono (by decide)) (by rfl) T.g_pick T.F_pick.kp T.b_pick .nil pass0 (pa_cons (pv 4) (pa_cons pe_int pa_nil))))
      (pss_cons (ps_set (i := 6) sc_law.nd rfl (.inl rfl) (pe_callTy call_list_of (by rfl) T.m_list (by decide +kernel) (pa_cons (pv 3) pa_nil)))
      (pss_cons (ps_set (i := 7) sc_law.nd rfl (.inl rfl) (pv 2))
      (pss_cons (ps_for PassesOwn.never rfl (pi_range1 (by rfl) T.m_range (pa_cons (pe_call (ok_pick T) (hr.mono (by decide)) (by rfl) T.g_pick T.F_pick.kp T.b_pick .nil pass0 (pa_cons (pv 4) (pa_cons pe_int pa_nil))) pa_nil)) (pg_name (i := 8) sc_law.nd rfl (.inl rfl))
      (pss_one (ps_if (pt_cmpR op_gt (pv 2) pe_int (nomark _))
        (pss_cons (ps_set (i := 9) sc_law.nd rfl (.inl rfl) (pe_call (ok_pick T) (hr.mono (by decide)) (by rfl) T.g_pick T.F_pick.kp T.b_pick .nil pass0 (pa_cons (pv 4) (pa_cons (pv 2) pa_nil))))
          (pss_cons (ps_asg (pe_call (ok_spoilt T) (hr.mono (by decide)) (by rfl) T.g_spoilt T.F_spoilt.kp T.b_spoilt .nil pass0 (pa_cons (pv 4) (pa_cons (pe_ix ix_list (pv 3) (pv 9) (fun _ _ => rfl)) pa_nil))) (pg_sub (pv 6) (pv 9) set_list))
          (pss_one (ps_set (i := 7) sc_law.nd rfl (.inl rfl) (pe_callB (call_min2 rfl) (by rfl) T.m_min (by decide +kernel) (pa_cons (pv 7) (pa_cons (pv 9) pa_nil)))))))
        pss_nil)))
      (C8.pss_cut (ps_if (pt_cmpR op_eq (pe_call (ok_pick T) (hr.mono (by decide)) (by rfl) T.g_pick T.F_pick.kp T.b_pick .nil pass0 (pa_cons (pv 4) (pa_cons pe_int pa_nil))) pe_int (nomark _))
      (pss_cons (ps_asg (pe_call (ok_odd_thing T) (hr.mono (by decide)) (by rfl) T.g_odd_thing T.F_odd_thing.kp T.b_odd_thing .nil pass0 (pa_cons (pv 4) (pa_cons (pe_slice sl_list (pv 3) po_none (po_some pe_int)) pa_nil))) (pg_unl (by rfl) (pgs_cons (pg_name (i := 10) sc_law.nd rfl (.inl rfl)) (pgs_cons (pg_name (i := 11) sc_law.nd rfl (.inl rfl)) pgs_nil))))
        (pss_one (ps_if (pt_cmpR (op_neS hr.units) (pe_callG (ok_made T) (hr.mono (by decide)) hg (by rfl) T.g_made T.F_made.kp T.b_made pass0 (pa_cons (pv 10) pa_nil)) (pv 11) (nomark _))
        (pss_one (ps_ret pe_bl))
        pss_nil)))
      (pss_one (ps_if (pt_cmpR op_gt (pv 2) pe_int (nomark _))
        (pss_one (ps_if (pt_cmpR (op_neS hr.units) (pe_callG (ok_made T) (hr.mono (by decide)) hg (by rfl) T.g_made T.F_made.kp T.b_made pass0 (pa_cons (pe_call (ok_shaped T 7) (hr.mono (by decide)) (by rfl) T.g_shaped T.F_shaped.kp T.b_shaped .nil pass0 (pa_cons (pe_callTy call_tuple_of (by rfl) T.m_tuple (by decide +kernel) (pa_cons (pv 6) pa_nil)) (pa_cons (pv 5) pa_nil))) pa_nil)) (pe_lst (pa_cons pe_str (pa_cons pe_str pa_nil))) (nomark _))
          (pss_one (ps_ret pe_bl))
          pss_nil))
        (pss_one (ps_if (pt_cmpR op_lt (pv 7) (pv 2) (nomark _))
          (pss_one (ps_if (pt_cmpR (op_neS hr.units) (pe_callG (ok_made T) (hr.mono (by decide)) hg (by rfl) T.g_made T.F_made.kp T.b_made pass0 (pa_cons (pe_call (ok_shaped T 7) (hr.mono (by decide)) (by rfl) T.g_shaped T.F_shaped.kp T.b_shaped .nil pass0 (pa_cons (pe_callTy call_tuple_of (by rfl) T.m_tuple (by decide +kernel) (pa_cons (pv 6) pa_nil)) (pa_cons (pv 5) pa_nil))) pa_nil)) (pe_lst (pa_cons pe_str (pa_cons (pe_callB (call_reprD (by exact hg) (by exact un20 hr)) (by rfl) T.m_repr (by decide +kernel) (pa_cons (pv 7) pa_nil)) pa_nil))) (nomark _))
            (pss_one (ps_ret pe_bl))
            pss_nil))
          pss_nil)))))
      (pss_one (ps_ret (pe_callG (ok_good_asked T) (hr.mono (by decide)) hg (by rfl) T.g_good_asked T.F_good_asked.kp T.b_good_asked pass0 (pa_cons (pe_slice sl_list (pv 3) po_none (po_some pe_int)) (pa_cons (pv 5) pa_nil)))))))))))))))), ?_⟩
    refine ⟨_, rfl, a, ns, 0, rfl, hS, fun p0 H1 s1 n0 src => ?_⟩
    refine ⟨_, rfl, p0, 7, rfl, src, by decide, by decide, fun m H2 src2 b2 m0 m7 => ?_⟩
    refine ⟨fun σ' H' => ∃ k : Int, σ' = [some (.ref a), some (.ref p0), some (.int k), none, none, none, none, none, none, none, none, none] ∧ Same H H' ∧ 0 ≤ k ∧ k ≤ 62, ?_, ?_⟩
    · refine ⟨_, rfl, p0, 5, rfl, src2, by decide, by decide, fun r H3 src3 b3 r0 r1 => ⟨rfl, _, rfl, ite2 (fun e => ?_) (fun e => ?_)⟩⟩
      · refine ⟨_, rfl, p0, 4, rfl, src3, by decide, by decide, fun u H4 src4 b4 u0 u1 => ⟨_, _, rfl, rfl, ?_⟩⟩
        exact ⟨_, rfl, ((b2.trans b3).trans b4).same n0 s1, by omega, by omega⟩
      · exact ⟨m, rfl, (b2.trans b3).same n0 s1, by omega, by omega⟩
    rintro σ' H4 ⟨k, rfl, s4, k0, k62⟩
    refine ⟨_, rfl, _, rfl, _, _, rfl, .inl (s4.seq hS), _, _, rfl, rfl, _, _, rfl, _, _, rfl, ?_⟩
    have ex : ∃ k2 : Int, (if k < (if ((ns.map V.int).length : Int) - 2 < 62 then ((ns.map V.int).length : Int) - 2 else 62) then (if ((ns.map V.int).length : Int) - 2 < 62 then ((ns.map V.int).length : Int) - 2 else 62) else k) = k2 ∧ 0 ≤ k2 ∧ k2 ≤ 62 := ⟨_, rfl, by split <;> split <;> omega, by split <;> split <;> omega⟩
    obtain ⟨k2, e2, k20, k262⟩ := ex
    rw [e2]
    clear e2
    refine ⟨_, rfl, _, rfl, by omega, by omega, fun D nD => ?_⟩
    refine lc_range (lo := 0) (n := k2.toNat) (fun j H' => Same H4 H' ∧ ∃ us cs, H' D = some (.lst us) ∧ us.length = j ∧ TpAll H' us (cs.map dC) ∧ ∀ c ∈ cs, okC c) ⟨same_upd nD, [], [], upd_same, rfl, .nil, (fun _ h => nomatch h)⟩ ?_ ?_
    · rintro j H5 hj ⟨s5, us, cs, eD, lu, tu, ok⟩
      refine ⟨rfl, ?_⟩
      refine ⟨_, rfl, _, rfl, _, _, rfl, rfl, a, ns, j + 2, by rw [Int.zero_add]; rfl, (s4.trans s5).seq hS, fun pk H6 s6 n6 src6 => ?_⟩
      refine ⟨pk, rfl, src6, fun y c H7 src7 b7 hy okc => ?_⟩
      have s57 : Same H5 H7 := b7.same n6 s6
      have eD7 := s57 _ _ eD
      have m := (NL.refl H7).put eD7 (.lst (us ++ [y]))
      refine ⟨us, eD7, small1000 (by omega), same_put (s5.trans s57) nD _, us ++ [y], cs ++ [c], upd_same, by rw [List.length_append, lu]; rfl, ?_, fun d hd => ?_⟩
      · rw [List.map_append]
        exact ((tu.nl (NL.of s57)).nl m).snoc (hy.nl m)
      · rcases List.mem_append.mp hd with h | h
        · exact ok d h
        · rw [List.mem_singleton.mp h]; exact okc
    rintro H5 ⟨s5, us, cs, eD, lu, tu, ok⟩
    have lc : cs.length = us.length := by have := tu.len; rw [List.length_map] at this; omega
    have lcn : cs.length ≤ 62 := by omega
    have s05 := s4.trans s5
    refine ⟨_, rfl, a, ns, 1, rfl, s05.seq hS, fun p1 H6 s6 n1 src6 => ?_⟩
    refine ⟨_, rfl, p1, 16, rfl, src6, by decide, by decide, fun wy H7 s7 b7 w0 w1 => ?_⟩
    obtain ⟨wn, rfl⟩ := Int.eq_ofNat_of_zero_le w0
    have Dp1 : D ≠ p1 := fun z => by rw [z, n1] at eD; cases eD
    have eD7 := b7 _ _ Dp1 (s6 _ _ eD)
    have tu7 := (tu.nl (NL.of s6)).nl (src6.nl b7)
    refine ⟨_, rfl, D, _, rfl, .inl (.inl (.inl eD7)), fun B nB => ?_⟩
    have Bp1 : B ≠ p1 := (s7.ne nB).symm
    have BD : D ≠ B := fun z => by rw [← z, eD7] at nB; cases nB
    have s8 := same_upd (o := .lst us) nB
    have eB : upd H7 B (.lst us) B = some (.lst us) := upd_same
    have src8 := srcS s8 s7
    generalize upd H7 B (.lst us) = H8 at s8 eB src8 ⊢
    have eD8 := s8 _ _ eD7
    have tu8 := tu7.nl (NL.of s8)
    refine ⟨_, rfl, ?_⟩
    refine ⟨_, rfl, p1, 3, rfl, src8, by decide, by decide, fun n H9 src9 b9 n0 n3 => ?_⟩
    have eD9 := b9 _ _ Dp1 eD8
    have eB9 := b9 _ _ Bp1 eB
    have tu9 := tu8.nl (src8.nl b9)
    refine ⟨_, rfl, by omega, by omega, for_range (lo := 0) (n := n.toNat) (fun j σ' H' => ∃ (bs : List V) (ds : List PyData) (l : Nat) (y8 y9 : Option V), σ' = [some (.ref a), some (.ref p0), some (.int k2), some (.ref D), some (.ref p1), some (.int wn), some (.ref B), some (.int l), y8, y9, none, none] ∧ Src H' p1 ∧ H' D = some (.lst us) ∧ TpAll H' us (cs.map dC) ∧ H' B = some (.lst bs) ∧ TpAll H' bs ds ∧ l ≤ cs.length ∧ InvB cs ds l) ⟨us, cs.map dC, cs.length, _, _, (by rw [show ((cs.length : Nat) : Int) = k2 by omega]; rfl), src9, eD9, tu9, eB9, tu9, Nat.le_refl _, .start ok fun c h => sb_C h⟩ ?_ ?_⟩
    · rintro j σ' H10 hj ⟨bs, ds, l, y8, y9, rfl, src10, eD10, tu10, eB10, tb10, ll, iv⟩
      refine ⟨_, rfl, _, _, rfl, rfl, _, rfl, ite2 (fun e => ?_) (fun e => ⟨bs, ds, l, _, y9, rfl, src10, eD10, tu10, eB10, tb10, ll, iv⟩)⟩
      have kp : 0 < k2 := of_decide_eq_true e
      refine ⟨_, rfl, _, rfl, p1, k2, rfl, src10, by omega, by omega, fun t H11 src11 b11 t0 t1 => ?_⟩
      obtain ⟨tn, rfl⟩ := Int.eq_ofNat_of_zero_le t0
      have tl : tn < cs.length := by omega
      have eD11 := b11 _ _ Dp1 eD10
      have eB11 := b11 _ _ Bp1 eB10
      have tu11 := tu10.nl (src10.nl b11)
      have tb11 := tb10.nl (src10.nl b11)
      obtain ⟨c, hc⟩ : ∃ c, cs[tn]? = some c := ⟨_, List.getElem?_eq_getElem tl⟩
      obtain ⟨u, hu, tyu⟩ := tu11.get2 (i := tn) (d := dC c) (by rw [List.getElem?_map, hc]; rfl)
      have okc := ok c (List.mem_of_getElem? hc)
      refine ⟨_, rfl, _, rfl, _, rfl, D, us, tn, u, rfl, rfl, .inl (.inl eD11), at_of' (j := tn) rfl hu, p1, u, c, rfl, src11, tyu, okc, fun y d H12 src12 b12 ty kd sb dn => ?_⟩
      have eD12 := b12 _ _ Dp1 eD11
      have eB12 := b12 _ _ Bp1 eB11
      have nl12 := src11.nl b12
      have tu12 := tu11.nl nl12
      have tb12 := tb11.nl nl12
      have lb : bs.length = cs.length := tb12.len.trans iv.1
      refine ⟨_, rfl, _, rfl, B, bs, tn, tn, rfl, rfl, eB12, (by unfold ixN; rw [if_pos (by omega), if_pos (by omega)]; rfl), ?_⟩
      have nl13 := (NL.refl H12).put eB12 (.lst (bs.set tn y))
      refine ⟨_, rfl, _, rfl, _, _, rfl, ?_⟩
      refine ⟨bs.set tn y, ds.set tn d, (if tn < l then tn else l), _, _, (by split <;> split <;> first | rfl | omega), src12.put Bp1.symm _, by rw [upd_ne BD]; exact eD12, tu12.nl nl13, upd_same, (tb12.set tn ty).nl nl13, by split <;> omega, iv.step tl kd sb dn⟩
    rintro σ' H10 ⟨bs, ds, l, y8, y9, rfl, src10, eD10, tu10, eB10, tb10, ll, iv⟩
    refine ⟨fun σ' H' => ∃ (y10 y11 : Option V), σ' = [some (.ref a), some (.ref p0), some (.int k2), some (.ref D), some (.ref p1), some (.int wn), some (.ref B), some (.int l), y8, y9, y10, y11] ∧ H' D = some (.lst us) ∧ TpAll H' us (cs.map dC), ?_, ?_⟩
    · have dn7 := iv.dn lcn
      have lb : bs.length = cs.length := tb10.len.trans iv.1
      have jn : ∀ w, JIn (ds.map (shp w)) := fun w => jin_shp (by have := iv.1; omega) (fun d hd => (iv.2.2.2 d hd).1) fun d hd => (iv.2.2.2 d hd).2.2
      refine ⟨_, rfl, p1, 8, rfl, src10, by decide, by decide, fun z H11 src11 b11 z0 z1 => ?_⟩
      have eD11 := b11 _ _ Dp1 eD10
      have eB11 := b11 _ _ Bp1 eB10
      have tu11 := tu10.nl (src10.nl b11)
      have tb11 := tb10.nl (src10.nl b11)
      refine ⟨rfl, _, rfl, ite2 (fun e => ?_) (fun e => ?_)⟩
      · refine ⟨_, rfl, _, rfl, noPart ⟨60, rfl, D, us, rfl, .inl (.inl eD11), fun G nG => ?_⟩⟩
        have sG := same_upd (o := .lst (cutV us none (some 60))) nG
        have eG : upd H11 G (.lst (cutV us none (some 60))) G = some (.lst (us.take 60)) := by rw [upd_same]; exact congrArg (fun x => some (HO.lst x)) (cutV_to us 60)
        have Gp1 : G ≠ p1 := (src11.ne nG).symm
        generalize upd H11 G (.lst (cutV us none (some 60))) = H12 at sG eG ⊢
        have srcG := srcS sG src11
        refine ⟨p1, G, us.take 60, cs.take 60, rfl, srcG, Gp1, eG, ⟨by rw [List.map_take]; exact (tu11.nl (NL.of sG)).take 60, fun c hc => ok c (List.mem_of_mem_take hc), by rw [List.length_take]; omega⟩, fun p qd v zs H13 src13 b13 hp hqd hc => ?_⟩
        have eD13 := b13 _ _ Dp1 (sG _ _ eD11)
        have tu13 := (tu11.nl (NL.of sG)).nl (srcG.nl b13)
        refine ⟨p, _, rfl, .inl (.inl hp), rfl, _, _, rfl, _, _, rfl, rfl, ?_⟩
        rcases hc with ⟨c, tc, okc, rfl⟩ | ⟨nr, rfl⟩ | ⟨d, td, id, rfl⟩
        · refine ⟨_, rfl, v, rfl, .inr ⟨dC c, fun _ => none, tc.td, fun e => (by cases e), fun ds' e' => ?_⟩⟩
          cases e'
          have pc := parts_C okc
          refine ⟨⟨by show 5 ≤ 1000; decide, fun e he => (pc e he).2, fun e he c' k => by rw [(pc e he).1] at k; cases k⟩, fun h => absurd h (by show ¬ 60 < 5; decide), fun _ => ⟨fun i ei r H14 s14 hr14 => ?_, fun cs' ec => ?_⟩⟩
          · rw [firstN_at (i := 0) (fun j hj => absurd hj (Nat.not_lt_zero j)) rfl (pc _ (List.mem_cons_self ..)).1] at ei
            cases ei
            exact ⟨_, rfl, r, qd, _, rfl, rfl, hr14, s14 _ _ hqd, flS (zs := ["bad", "0"]), _, rfl, ite2 (fun e => by cases e) (fun _ => ⟨_, _, rfl, s14 _ _ eD13, tu13.nl (NL.of s14)⟩)⟩
          · rw [List.map_cons, (pc _ (List.mem_cons_self ..)).1] at ec
            cases cs' with
            | nil => cases ec
            | cons x xr => cases ec
        · refine ⟨_, rfl, v, rfl, .inl ⟨nr, fun r H14 s14 hr14 => ?_⟩⟩
          exact ⟨_, rfl, r, qd, _, rfl, rfl, hr14, s14 _ _ hqd, flS (zs := ["errata"]), _, rfl, ite2 (fun e => by cases e) (fun _ => ⟨_, _, rfl, s14 _ _ eD13, tu13.nl (NL.of s14)⟩)⟩
        · refine ⟨_, rfl, v, rfl, .inr ⟨d, fun _ => none, td.td, fun _ r H14 s14 hr14 => ?_, fun ds' e' => absurd (id.symm.trans e') (fun z => nomatch z)⟩⟩
          exact ⟨_, rfl, r, qd, _, rfl, rfl, hr14, s14 _ _ hqd, flS (zs := ["errata"]), _, rfl, ite2 (fun e => by cases e) (fun _ => ⟨_, _, rfl, s14 _ _ eD13, tu13.nl (NL.of s14)⟩)⟩
      refine ⟨_, rfl, _, _, rfl, rfl, _, rfl, ite2 (fun e => ?_) (fun e6 => ?_)⟩
      · refine ⟨_, rfl, B, bs, rfl, .inl ⟨.inl (.inl eB11), fun P nP => ?_⟩⟩
        have s12 := same_upd (o := .tup bs) nP
        have eP : upd H11 P (.tup bs) P = some (.tup bs) := upd_same
        generalize upd H11 P (.tup bs) = H12 at s12 eP ⊢
        refine ⟨_, rfl, .ref P, .tuple ds, wn, rfl, .tup eP (tb11.nl (NL.of s12)), dn7, fun y H13 s13 hy => ?_⟩
        have hi := items_shp wn ds
        generalize shp wn (.tuple ds) = d at hy hi ⊢
        refine ⟨y, rfl, .inr ⟨d, H12, hy, fun e => absurd (hi.symm.trans e) (fun z => nomatch z), fun ds' e' => ?_⟩⟩
        rw [hi] at e'
        cases e'
        have k60 : 60 < k2 := of_decide_eq_true e
        refine ⟨jn _, fun _ r H14 s14 hr14 => ?_, fun l => absurd l (by rw [List.length_map]; have := iv.1; omega)⟩
        refine ⟨(by show 2 ≤ sizeLine; decide), fun L nL => ?_⟩
        have sL := same_upd (o := .lst [.str "many", .str "'correction'"]) nL
        refine ⟨r, L, _, rfl, rfl, sL _ _ hr14, upd_same, flS (zs := ["many", "'correction'"]), _, rfl, ite2 (fun e => by cases e) (fun _ => ?_)⟩
        have s11 := ((s12.trans s13).trans s14).trans sL
        exact ⟨_, _, rfl, s11 _ _ eD11, tu11.nl (NL.of s11)⟩
      refine ⟨_, rfl, _, rfl, _, _, rfl, rfl, _, rfl, ite2 (fun e => ?_) (fun e => ?_)⟩
      · have ll' : l < cs.length := by
          have := of_decide_eq_true e
          omega
        have k60 : ¬ 60 < k2 := fun h => e6 (decide_eq_true h)
        refine ⟨_, rfl, B, bs, rfl, .inl ⟨.inl (.inl eB11), fun P nP => ?_⟩⟩
        have s12 := same_upd (o := .tup bs) nP
        have eP : upd H11 P (.tup bs) P = some (.tup bs) := upd_same
        generalize upd H11 P (.tup bs) = H12 at s12 eP ⊢
        refine ⟨_, rfl, .ref P, .tuple ds, wn, rfl, .tup eP (tb11.nl (NL.of s12)), dn7, fun y H13 s13 hy => ?_⟩
        have hi := items_shp wn ds
        generalize shp wn (.tuple ds) = d at hy hi ⊢
        refine ⟨y, rfl, .inr ⟨d, H12, hy, fun e => absurd (hi.symm.trans e) (fun z => nomatch z), fun ds' e' => ?_⟩⟩
        rw [hi] at e'
        cases e'
        refine ⟨jn _, fun h => absurd h (by rw [List.length_map]; have := iv.1; omega), fun _ => ⟨fun i ei r H14 s14 hr14 => ?_, fun cs' ec => ?_⟩⟩
        rotate_left
        · have f := iv.first ok ll'
          rw [map_shp] at ec
          obtain ⟨dd, hd, kd⟩ := firstN_some f
          have : (ds.map keptC)[l]? = (cs'.map some)[l]? := by rw [ec]
          rw [List.getElem?_map, hd, List.getElem?_map] at this
          cases q : cs'[l]? with
          | none => rw [q] at this; cases this
          | some x =>
            rw [q] at this
            have this := Option.some.inj this
            rw [kd.1] at this
            cases this
        rw [firstN_shp, iv.first ok ll'] at ei
        cases ei
        have si := shI_okN (i := l) (by omega)
        refine ⟨_, rfl, .int l, .int l, rfl, .int _, si.1, si.2.1, si.2.2.1, si.2.2.2, ?_⟩
        refine ⟨(by show 2 ≤ sizeLine; decide), fun L nL => ?_⟩
        have sL := same_upd (o := .lst [.str "bad", .str (PyData.int (l : Int)).shown]) nL
        refine ⟨r, L, _, rfl, rfl, sL _ _ hr14, upd_same, flS (zs := ["bad", (PyData.int (l : Int)).shown]), _, rfl, ite2 (fun e => by cases e) (fun _ => ?_)⟩
        have s11 := ((s12.trans s13).trans s14).trans sL
        exact ⟨_, _, rfl, s11 _ _ eD11, tu11.nl (NL.of s11)⟩
      · exact ⟨_, _, rfl, eD11, tu11⟩
    rintro σ' H11 ⟨y10, y11, rfl, eD11, tu11⟩
    refine ⟨_, rfl, noPart ⟨60, rfl, D, us, rfl, .inl (.inl eD11), fun G nG => ?_⟩⟩
    have sG := same_upd (o := .lst (cutV us none (some 60))) nG
    have eG : upd H11 G (.lst (cutV us none (some 60))) G = some (.lst (us.take 60)) := by rw [upd_same]; exact congrArg (fun x => some (HO.lst x)) (cutV_to us 60)
    generalize upd H11 G (.lst (cutV us none (some 60))) = H12 at sG eG ⊢
    refine ⟨_, rfl, G, us.take 60, cs.take 60, wn, rfl, eG, ⟨by rw [List.map_take]; exact (tu11.nl (NL.of sG)).take 60, fun c hc => ok c (List.mem_of_mem_take hc), by rw [List.length_take]; omega⟩, fun H13 => q H13⟩
end
theorem all_mk {l : PySem.W.OpenLaw} {w : World} {K : PySem.W.Frag} {h : Heap} {mg : Str → Option Value} {fa f0 f1 f2 f3 f4 f5 f6 f7 f8 f9 f10 f11 f12 f13 f14 f15 f16 f17 f18 f19 f20 f21 f22 f23 f24 f25 f26 f27 f28 f29 f30 f31 C_AfterError C_BadForm C_BadErrata C_BadCorrection C_TooMany C_Errata : Addr} (X : K.In h) (G : h.Ns mainGlobals mg) (hfa : mg "law" = some (.ref fa))
    {od0 an0 od1 an1 od2 an2 od3 an3 od4 an4 od5 an5 od6 an6 od7 an7 od8 an8 od9 an9 od10 an10 od11 an11 od12 an12 od13 an13 od14 an14 od15 an15 od16 an16 od17 an17 od18 an18 od19 an19 od20 an20 od21 an21 od22 an22 od23 an23 od24 an24 od25 an25 od26 an26 od27 an27 od28 an28 od29 an29 od30 an30 od31 an31 : Option Addr} {sl0 sl1 sl2 sl3 sl4 sl5 sl6 sl7 sl8 sl9 sl10 sl11 sl12 sl13 sl14 sl15 sl16 sl17 sl18 sl19 sl20 sl21 sl22 sl23 sl24 sl25 sl26 sl27 sl28 sl29 sl30 sl31 : Array (Option Value)} {oc0 kV0 dc0 pm0 cd0 ct0 oc1 kV1 dc1 pm1 cd1 ct1 oc2 kV2 dc2 pm2 cd2 ct2 oc3 kV3 dc3 pm3 cd3 ct3 oc4 kV4 dc4 pm4 cd4 ct4 oc5 kV5 dc5 pm5 cd5 ct5 oc6 kV6 dc6 pm6 cd6 ct6 oc7 kV7 dc7 pm7 cd7 ct7 oc8 kV8 dc8 pm8 cd8 ct8 oc9 kV9 dc9 pm9 cd9 ct9 oc10 kV10 dc10 pm10 cd10 ct10 oc11 kV11 dc11 pm11 cd11 ct11 oc12 kV12 dc12 pm12 cd12 ct12 oc13 kV13 dc13 pm13 cd13 ct13 oc14 kV14 dc14 pm14 cd14 ct14 oc15 kV15 dc15 pm15 cd15 ct15 oc16 kV16 dc16 pm16 cd16 ct16 oc17 kV17 dc17 pm17 cd17 ct17 oc18 kV18 dc18 pm18 cd18 ct18 oc19 kV19 dc19 pm19 cd19 ct19 oc20 kV20 dc20 pm20 cd20 ct20 oc21 kV21 dc21 pm21 cd21 ct21 oc22 kV22 dc22 pm22 cd22 ct22 oc23 kV23 dc23 pm23 cd23 ct23 oc24 kV24 dc24 pm24 cd24 ct24 oc25 kV25 dc25 pm25 cd25 ct25 oc26 kV26 dc26 pm26 cd26 ct26 oc27 kV27 dc27 pm27 cd27 ct27 oc28 kV28 dc28 pm28 cd28 ct28 oc29 kV29 dc29 pm29 cd29 ct29 oc30 kV30 dc30 pm30 cd30 ct30 oc31 kV31 dc31 pm31 cd31 ct31 : Value}
    (a0 : PySem.W.findIn K (.ref C_BadCorrection) "__init__" = some (some (.ref f0))) (l0 : K.lookup f0 = some ⟨oc0, od0, .func (PySem.W.fnOf "__init__" "BadCorrection.__init__" (defArgs s_BadCorrection_init) (defBody s_BadCorrection_init) (defScope s_BadCorrection_init) .none kV0 dc0 pm0 an0 cd0 ct0), sl0⟩) (c0 : PySem.W.codeIn K cd0 "BadCorrection.__init__" = true) (k0 : PySem.W.keepIn K (.ref f0) = true)
    (a1 : PySem.W.findIn K (.ref C_TooMany) "__init__" = some (some (.ref f1))) (l1 : K.lookup f1 = some ⟨oc1, od1, .func (PySem.W.fnOf "__init__" "TooMany.__init__" (defArgs s_TooMany_init) (defBody s_TooMany_init) (defScope s_TooMany_init) .none kV1 dc1 pm1 an1 cd1 ct1), sl1⟩) (c1 : PySem.W.codeIn K cd1 "TooMany.__init__" = true) (k1 : PySem.W.keepIn K (.ref f1) = true)
    (a2 : PySem.W.nsIn K mainGlobals "is_integer" = some (some (.ref f2))) (l2 : K.lookup f2 = some ⟨oc2, od2, .func (PySem.W.fnOf "is_integer" "is_integer" (defArgs s_is_integer) (defBody s_is_integer) (defScope s_is_integer) .none kV2 dc2 pm2 an2 cd2 ct2), sl2⟩) (c2 : PySem.W.codeIn K cd2 "is_integer" = true) (k2 : PySem.W.keepIn K (.ref f2) = true)
    (a3 : PySem.W.nsIn K mainGlobals "is_within" = some (some (.ref f3))) (l3 : K.lookup f3 = some ⟨oc3, od3, .func (PySem.W.fnOf "is_within" "is_within" (defArgs s_is_within) (defBody s_is_within) (defScope s_is_within) .none kV3 dc3 pm3 an3 cd3 ct3), sl3⟩) (c3 : PySem.W.codeIn K cd3 "is_within" = true) (k3 : PySem.W.keepIn K (.ref f3) = true)
    (a4 : PySem.W.nsIn K mainGlobals "is_tuple" = some (some (.ref f4))) (l4 : K.lookup f4 = some ⟨oc4, od4, .func (PySem.W.fnOf "is_tuple" "is_tuple" (defArgs s_is_tuple) (defBody s_is_tuple) (defScope s_is_tuple) .none kV4 dc4 pm4 an4 cd4 ct4), sl4⟩) (c4 : PySem.W.codeIn K cd4 "is_tuple" = true) (k4 : PySem.W.keepIn K (.ref f4) = true)
    (a5 : PySem.W.nsIn K mainGlobals "is_sized" = some (some (.ref f5))) (l5 : K.lookup f5 = some ⟨oc5, od5, .func (PySem.W.fnOf "is_sized" "is_sized" (defArgs s_is_sized) (defBody s_is_sized) (defScope s_is_sized) .none kV5 dc5 pm5 an5 cd5 ct5), sl5⟩) (c5 : PySem.W.codeIn K cd5 "is_sized" = true) (k5 : PySem.W.keepIn K (.ref f5) = true)
    (a6 : PySem.W.nsIn K mainGlobals "kept_label" = some (some (.ref f6))) (l6 : K.lookup f6 = some ⟨oc6, od6, .func (PySem.W.fnOf "kept_label" "kept_label" (defArgs s_kept_label) (defBody s_kept_label) (defScope s_kept_label) .none kV6 dc6 pm6 an6 cd6 ct6), sl6⟩) (c6 : PySem.W.codeIn K cd6 "kept_label" = true) (k6 : PySem.W.keepIn K (.ref f6) = true)
    (a7 : PySem.W.nsIn K mainGlobals "kept_page" = some (some (.ref f7))) (l7 : K.lookup f7 = some ⟨oc7, od7, .func (PySem.W.fnOf "kept_page" "kept_page" (defArgs s_kept_page) (defBody s_kept_page) (defScope s_kept_page) .none kV7 dc7 pm7 an7 cd7 ct7), sl7⟩) (c7 : PySem.W.codeIn K cd7 "kept_page" = true) (k7 : PySem.W.keepIn K (.ref f7) = true)
    (a8 : PySem.W.nsIn K mainGlobals "is_token" = some (some (.ref f8))) (l8 : K.lookup f8 = some ⟨oc8, od8, .func (PySem.W.fnOf "is_token" "is_token" (defArgs s_is_token) (defBody s_is_token) (defScope s_is_token) .none kV8 dc8 pm8 an8 cd8 ct8), sl8⟩) (c8 : PySem.W.codeIn K cd8 "is_token" = true) (k8 : PySem.W.keepIn K (.ref f8) = true)
    (a9 : PySem.W.findIn K (.ref C_Errata) "__init__" = some (some (.ref f9))) (l9 : K.lookup f9 = some ⟨oc9, od9, .func (PySem.W.fnOf "__init__" "Errata.__init__" (defArgs s_Errata_init) (defBody s_Errata_init) (defScope s_Errata_init) .none kV9 dc9 pm9 an9 cd9 ct9), sl9⟩) (c9 : PySem.W.codeIn K cd9 "Errata.__init__" = true) (k9 : PySem.W.keepIn K (.ref f9) = true)
    (a10 : PySem.W.findIn K (.ref C_Errata) "__len__" = some (some (.ref f10))) (l10 : K.lookup f10 = some ⟨oc10, od10, .func (PySem.W.fnOf "__len__" "Errata.__len__" (defArgs s_Errata_len) (defBody s_Errata_len) (defScope s_Errata_len) .none kV10 dc10 pm10 an10 cd10 ct10), sl10⟩) (c10 : PySem.W.codeIn K cd10 "Errata.__len__" = true) (k10 : PySem.W.keepIn K (.ref f10) = true)
    (a11 : PySem.W.findIn K (.ref C_Errata) "__iter__" = some (some (.ref f11))) (l11 : K.lookup f11 = some ⟨oc11, od11, .func (PySem.W.fnOf "__iter__" "Errata.__iter__" (defArgs s_Errata_iter) (defBody s_Errata_iter) (defScope s_Errata_iter) .none kV11 dc11 pm11 an11 cd11 ct11), sl11⟩) (c11 : PySem.W.codeIn K cd11 "Errata.__iter__" = true) (k11 : PySem.W.keepIn K (.ref f11) = true)
    (a12 : PySem.W.findIn K (.ref C_Errata) "__eq__" = some (some (.ref f12))) (l12 : K.lookup f12 = some ⟨oc12, od12, .func (PySem.W.fnOf "__eq__" "Errata.__eq__" (defArgs s_Errata_eq) (defBody s_Errata_eq) (defScope s_Errata_eq) .none kV12 dc12 pm12 an12 cd12 ct12), sl12⟩) (c12 : PySem.W.codeIn K cd12 "Errata.__eq__" = true) (k12 : PySem.W.keepIn K (.ref f12) = true)
    (a13 : PySem.W.nsIn K mainGlobals "_turns_at_places" = some (some (.ref f13))) (l13 : K.lookup f13 = some ⟨oc13, od13, .func (PySem.W.fnOf "_turns_at_places" "_turns_at_places" (defArgs s_turns_at_places) (defBody s_turns_at_places) (defScope s_turns_at_places) .none kV13 dc13 pm13 an13 cd13 ct13), sl13⟩) (c13 : PySem.W.codeIn K cd13 "_turns_at_places" = true) (k13 : PySem.W.keepIn K (.ref f13) = true)
    (a14 : PySem.W.nsIn K mainGlobals "_judged_corrections" = some (some (.ref f14))) (l14 : K.lookup f14 = some ⟨oc14, od14, .func (PySem.W.fnOf "_judged_corrections" "_judged_corrections" (defArgs s_judged_corrections) (defBody s_judged_corrections) (defScope s_judged_corrections) .none kV14 dc14 pm14 an14 cd14 ct14), sl14⟩) (c14 : PySem.W.codeIn K cd14 "_judged_corrections" = true) (k14 : PySem.W.keepIn K (.ref f14) = true)
    (a15 : PySem.W.nsIn K mainGlobals "_kept_correction" = some (some (.ref f15))) (l15 : K.lookup f15 = some ⟨oc15, od15, .func (PySem.W.fnOf "_kept_correction" "_kept_correction" (defArgs s_kept_correction) (defBody s_kept_correction) (defScope s_kept_correction) .none kV15 dc15 pm15 an15 cd15 ct15), sl15⟩) (c15 : PySem.W.codeIn K cd15 "_kept_correction" = true) (k15 : PySem.W.keepIn K (.ref f15) = true)
    (a16 : PySem.W.nsIn K mainGlobals "_law_source" = some (some (.ref f16))) (l16 : K.lookup f16 = some ⟨oc16, od16, .func (PySem.W.fnOf "_law_source" "_law_source" (defArgs s_source) (defBody s_source) (defScope s_source) .none kV16 dc16 pm16 an16 cd16 ct16), sl16⟩) (c16 : PySem.W.codeIn K cd16 "_law_source" = true) (k16 : PySem.W.keepIn K (.ref f16) = true)
    (a17 : PySem.W.nsIn K mainGlobals "_law_pick" = some (some (.ref f17))) (l17 : K.lookup f17 = some ⟨oc17, od17, .func (PySem.W.fnOf "_law_pick" "_law_pick" (defArgs s_pick) (defBody s_pick) (defScope s_pick) .none kV17 dc17 pm17 an17 cd17 ct17), sl17⟩) (c17 : PySem.W.codeIn K cd17 "_law_pick" = true) (k17 : PySem.W.keepIn K (.ref f17) = true)
    (a18 : PySem.W.nsIn K mainGlobals "_law_is_integer" = some (some (.ref f18))) (l18 : K.lookup f18 = some ⟨oc18, od18, .func (PySem.W.fnOf "_law_is_integer" "_law_is_integer" (defArgs s_law_is_integer) (defBody s_law_is_integer) (defScope s_law_is_integer) .none kV18 dc18 pm18 an18 cd18 ct18), sl18⟩) (c18 : PySem.W.codeIn K cd18 "_law_is_integer" = true) (k18 : PySem.W.keepIn K (.ref f18) = true)
    (a19 : PySem.W.nsIn K mainGlobals "_law_token" = some (some (.ref f19))) (l19 : K.lookup f19 = some ⟨oc19, od19, .func (PySem.W.fnOf "_law_token" "_law_token" (defArgs s_token) (defBody s_token) (defScope s_token) .none kV19 dc19 pm19 an19 cd19 ct19), sl19⟩) (c19 : PySem.W.codeIn K cd19 "_law_token" = true) (k19 : PySem.W.keepIn K (.ref f19) = true)
    (a20 : PySem.W.nsIn K mainGlobals "_law_other" = some (some (.ref f20))) (l20 : K.lookup f20 = some ⟨oc20, od20, .func (PySem.W.fnOf "_law_other" "_law_other" (defArgs s_other) (defBody s_other) (defScope s_other) .none kV20 dc20 pm20 an20 cd20 ct20), sl20⟩) (c20 : PySem.W.codeIn K cd20 "_law_other" = true) (k20 : PySem.W.keepIn K (.ref f20) = true)
    (a21 : PySem.W.nsIn K mainGlobals "_law_label" = some (some (.ref f21))) (l21 : K.lookup f21 = some ⟨oc21, od21, .func (PySem.W.fnOf "_law_label" "_law_label" (defArgs s_label) (defBody s_label) (defScope s_label) .none kV21 dc21 pm21 an21 cd21 ct21), sl21⟩) (c21 : PySem.W.codeIn K cd21 "_law_label" = true) (k21 : PySem.W.keepIn K (.ref f21) = true)
    (a22 : PySem.W.nsIn K mainGlobals "_law_correction" = some (some (.ref f22))) (l22 : K.lookup f22 = some ⟨oc22, od22, .func (PySem.W.fnOf "_law_correction" "_law_correction" (defArgs s_correction) (defBody s_correction) (defScope s_correction) .none kV22 dc22 pm22 an22 cd22 ct22), sl22⟩) (c22 : PySem.W.codeIn K cd22 "_law_correction" = true) (k22 : PySem.W.keepIn K (.ref f22) = true)
    (a23 : PySem.W.nsIn K mainGlobals "_law_spoilt_page" = some (some (.ref f23))) (l23 : K.lookup f23 = some ⟨oc23, od23, .func (PySem.W.fnOf "_law_spoilt_page" "_law_spoilt_page" (defArgs s_spoilt_page) (defBody s_spoilt_page) (defScope s_spoilt_page) .none kV23 dc23 pm23 an23 cd23 ct23), sl23⟩) (c23 : PySem.W.codeIn K cd23 "_law_spoilt_page" = true) (k23 : PySem.W.keepIn K (.ref f23) = true)
    (a24 : PySem.W.nsIn K mainGlobals "_law_spoilt" = some (some (.ref f24))) (l24 : K.lookup f24 = some ⟨oc24, od24, .func (PySem.W.fnOf "_law_spoilt" "_law_spoilt" (defArgs s_spoilt) (defBody s_spoilt) (defScope s_spoilt) .none kV24 dc24 pm24 an24 cd24 ct24), sl24⟩) (c24 : PySem.W.codeIn K cd24 "_law_spoilt" = true) (k24 : PySem.W.keepIn K (.ref f24) = true)
    (a25 : PySem.W.nsIn K mainGlobals "_law_shaped" = some (some (.ref f25))) (l25 : K.lookup f25 = some ⟨oc25, od25, .func (PySem.W.fnOf "_law_shaped" "_law_shaped" (defArgs s_shaped) (defBody s_shaped) (defScope s_shaped) .none kV25 dc25 pm25 an25 cd25 ct25), sl25⟩) (c25 : PySem.W.codeIn K cd25 "_law_shaped" = true) (k25 : PySem.W.keepIn K (.ref f25) = true)
    (a26 : PySem.W.nsIn K mainGlobals "_law_made" = some (some (.ref f26))) (l26 : K.lookup f26 = some ⟨oc26, od26, .func (PySem.W.fnOf "_law_made" "_law_made" (defArgs s_made) (defBody s_made) (defScope s_made) .none kV26 dc26 pm26 an26 cd26 ct26), sl26⟩) (c26 : PySem.W.codeIn K cd26 "_law_made" = true) (k26 : PySem.W.keepIn K (.ref f26) = true)
    (a27 : PySem.W.nsIn K mainGlobals "_law_keeps" = some (some (.ref f27))) (l27 : K.lookup f27 = some ⟨oc27, od27, .func (PySem.W.fnOf "_law_keeps" "_law_keeps" (defArgs s_keeps) (defBody s_keeps) (defScope s_keeps) .none kV27 dc27 pm27 an27 cd27 ct27), sl27⟩) (c27 : PySem.W.codeIn K cd27 "_law_keeps" = true) (k27 : PySem.W.keepIn K (.ref f27) = true)
    (a28 : PySem.W.nsIn K mainGlobals "_law_equals" = some (some (.ref f28))) (l28 : K.lookup f28 = some ⟨oc28, od28, .func (PySem.W.fnOf "_law_equals" "_law_equals" (defArgs s_equals) (defBody s_equals) (defScope s_equals) .none kV28 dc28 pm28 an28 cd28 ct28), sl28⟩) (c28 : PySem.W.codeIn K cd28 "_law_equals" = true) (k28 : PySem.W.keepIn K (.ref f28) = true)
    (a29 : PySem.W.nsIn K mainGlobals "_law_odd_thing" = some (some (.ref f29))) (l29 : K.lookup f29 = some ⟨oc29, od29, .func (PySem.W.fnOf "_law_odd_thing" "_law_odd_thing" (defArgs s_odd_thing) (defBody s_odd_thing) (defScope s_odd_thing) .none kV29 dc29 pm29 an29 cd29 ct29), sl29⟩) (c29 : PySem.W.codeIn K cd29 "_law_odd_thing" = true) (k29 : PySem.W.keepIn K (.ref f29) = true)
    (a30 : PySem.W.nsIn K mainGlobals "_law_good_asked" = some (some (.ref f30))) (l30 : K.lookup f30 = some ⟨oc30, od30, .func (PySem.W.fnOf "_law_good_asked" "_law_good_asked" (defArgs s_good_asked) (defBody s_good_asked) (defScope s_good_asked) .none kV30 dc30 pm30 an30 cd30 ct30), sl30⟩) (c30 : PySem.W.codeIn K cd30 "_law_good_asked" = true) (k30 : PySem.W.keepIn K (.ref f30) = true)
    (a31 : PySem.W.nsIn K mainGlobals "law" = some (some (.ref f31))) (l31 : K.lookup f31 = some ⟨oc31, od31, .func (PySem.W.fnOf "law" "law" (defArgs s_law) (defBody s_law) (defScope s_law) .none kV31 dc31 pm31 an31 cd31 ct31), sl31⟩) (c31 : PySem.W.codeIn K cd31 "law" = true) (k31 : PySem.W.keepIn K (.ref f31) = true)
    {t_MOST_CORRECTIONS : Tok} (v_MOST_CORRECTIONS : PySem.W.nsIn K mainGlobals "MOST_CORRECTIONS" = some (some (.int 60 t_MOST_CORRECTIONS)))
    {t_MOST_PARTS : Tok} (v_MOST_PARTS : PySem.W.nsIn K mainGlobals "MOST_PARTS" = some (some (.int 3 t_MOST_PARTS)))
    {t_MOST_ROWS : Tok} (v_MOST_ROWS : PySem.W.nsIn K mainGlobals "MOST_ROWS" = some (some (.int 12 t_MOST_ROWS)))
    {t_MOST_SIGNS : Tok} (v_MOST_SIGNS : PySem.W.nsIn K mainGlobals "MOST_SIGNS" = some (some (.int 20 t_MOST_SIGNS)))
    {t_MOST_TOKENS : Tok} (v_MOST_TOKENS : PySem.W.nsIn K mainGlobals "MOST_TOKENS" = some (some (.int 30 t_MOST_TOKENS)))
    (z_ValueError : PySem.W.nsIn K mainGlobals "ValueError" = some none)
    (z_abs : PySem.W.nsIn K mainGlobals "abs" = some none)
    (z_all : PySem.W.nsIn K mainGlobals "all" = some none)
    (z_bool : PySem.W.nsIn K mainGlobals "bool" = some none)
    (z_int : PySem.W.nsIn K mainGlobals "int" = some none)
    (z_isinstance : PySem.W.nsIn K mainGlobals "isinstance" = some none)
    (z_iter : PySem.W.nsIn K mainGlobals "iter" = some none)
    (z_len : PySem.W.nsIn K mainGlobals "len" = some none)
    (z_list : PySem.W.nsIn K mainGlobals "list" = some none)
    (z_max : PySem.W.nsIn K mainGlobals "max" = some none)
    (z_min : PySem.W.nsIn K mainGlobals "min" = some none)
    (z_range : PySem.W.nsIn K mainGlobals "range" = some none)
    (z_repr : PySem.W.nsIn K mainGlobals "repr" = some none)
    (z_str : PySem.W.nsIn K mainGlobals "str" = some none)
    (z_sum : PySem.W.nsIn K mainGlobals "sum" = some none)
    (z_tuple : PySem.W.nsIn K mainGlobals "tuple" = some none)
    (h_cg_Errata : PySem.W.nsIn K mainGlobals "Errata" = some (some (.ref C_Errata)))
    (h_cg_AfterError : PySem.W.nsIn K mainGlobals "AfterError" = some (some (.ref C_AfterError)))
    (h_cg_BadForm : PySem.W.nsIn K mainGlobals "BadForm" = some (some (.ref C_BadForm)))
    (h_cg_BadErrata : PySem.W.nsIn K mainGlobals "BadErrata" = some (some (.ref C_BadErrata)))
    (h_cg_BadCorrection : PySem.W.nsIn K mainGlobals "BadCorrection" = some (some (.ref C_BadCorrection)))
    (h_cg_TooMany : PySem.W.nsIn K mainGlobals "TooMany" = some (some (.ref C_TooMany)))
    (h_x_BadErrata : PySem.W.excIn K C_BadErrata [.type "ValueError", .type "Exception", .type "BaseException", .type "object"] "ValueError.__new__" = true)
    (h_k_BadErrata : PySem.W.keepIn K (.ref C_BadErrata) = true)
    (h_t_BadErrata : PySem.W.typeIn K (.ref C_BadErrata) = some (.type "type"))
    (h_hg_BadErrata : PySem.W.findIn K (.ref C_BadErrata) "__getattribute__" = some (some (.builtin "BaseException.__getattribute__")))
    (h_hk_BadErrata : PySem.W.findIn K (.ref C_BadErrata) "__getattr__" = some none)
    (h_hs_BadErrata : PySem.W.subIn K (.ref C_BadErrata) (.type "BaseException") = some true)
    (h_hd_BadErrata : PySem.W.hasDictIn K C_BadErrata = true)
    (h_ha_BadErrata : PySem.W.findIn K (.ref C_BadErrata) "__class__" = some (some (.builtin "object.__class__")))
    (h_hn_BadErrata : PySem.W.specialIn K (.builtin "object.__class__") "__get__" = some (some (.builtin "getset_descriptor.__get__")))
    (h_ht_BadErrata : PySem.W.takesIn K (.builtin "object.__class__") = some true)
    (h_hm_BadErrata : PySem.W.mroIn K C_BadErrata (.type "object") = some true)
    (h_hg_TooMany : PySem.W.findIn K (.ref C_TooMany) "__getattribute__" = some (some (.builtin "BaseException.__getattribute__")))
    (h_hk_TooMany : PySem.W.findIn K (.ref C_TooMany) "__getattr__" = some none)
    (h_hs_TooMany : PySem.W.subIn K (.ref C_TooMany) (.type "BaseException") = some true)
    (h_hd_TooMany : PySem.W.hasDictIn K C_TooMany = true)
    (h_ha_TooMany : PySem.W.findIn K (.ref C_TooMany) "__class__" = some (some (.builtin "object.__class__")))
    (h_hn_TooMany : PySem.W.specialIn K (.builtin "object.__class__") "__get__" = some (some (.builtin "getset_descriptor.__get__")))
    (h_ht_TooMany : PySem.W.takesIn K (.builtin "object.__class__") = some true)
    (h_hm_TooMany : PySem.W.mroIn K C_TooMany (.type "object") = some true)
    (h_hg_BadCorrection : PySem.W.findIn K (.ref C_BadCorrection) "__getattribute__" = some (some (.builtin "BaseException.__getattribute__")))
    (h_hk_BadCorrection : PySem.W.findIn K (.ref C_BadCorrection) "__getattr__" = some none)
    (h_hs_BadCorrection : PySem.W.subIn K (.ref C_BadCorrection) (.type "BaseException") = some true)
    (h_hd_BadCorrection : PySem.W.hasDictIn K C_BadCorrection = true)
    (h_ha_BadCorrection : PySem.W.findIn K (.ref C_BadCorrection) "__class__" = some (some (.builtin "object.__class__")))
    (h_hn_BadCorrection : PySem.W.specialIn K (.builtin "object.__class__") "__get__" = some (some (.builtin "getset_descriptor.__get__")))
    (h_ht_BadCorrection : PySem.W.takesIn K (.builtin "object.__class__") = some true)
    (h_hm_BadCorrection : PySem.W.mroIn K C_BadCorrection (.type "object") = some true)
    (h_n_TooMany_word : PySem.W.findIn K (.ref C_TooMany) "word" = some none)
    (h_i_TooMany : PySem.W.typeIn K (.ref f1) = some (.type "function"))
    (h_n_BadCorrection_place : PySem.W.findIn K (.ref C_BadCorrection) "place" = some none)
    (h_i_BadCorrection : PySem.W.typeIn K (.ref f0) = some (.type "function"))
    (h_ms_Errata : PySem.W.makesIn K C_Errata = true)
    (h_kc_Errata : PySem.W.keepIn K (.ref C_Errata) = true)
    (h_ca_Errata : PySem.W.findIn K (.ref C_Errata) "__class__" = some (some (.builtin "object.__class__")))
    (h_cn_Errata : PySem.W.specialIn K (.builtin "object.__class__") "__get__" = some (some (.builtin "getset_descriptor.__get__")))
    (h_ct_Errata : PySem.W.takesIn K (.builtin "object.__class__") = some true)
    (h_cm_Errata : PySem.W.mroIn K C_Errata (.type "object") = some true)
    (h_ic_Errata : PySem.W.isClsIn K C_Errata = true)
    (h_tc_Errata : PySem.W.typeIn K (.ref C_Errata) = some (.type "type"))
    (h_na_Errata_corrections : PySem.W.findIn K (.ref C_Errata) "corrections" = some none)
    (h_na_Errata__turns : PySem.W.findIn K (.ref C_Errata) "_turns" = some none)
    (h_ns_Errata_tuple : PySem.W.subIn K (.type "tuple") (.ref C_Errata) = some false)
    (h_ns_Errata_int : PySem.W.subIn K (.type "int") (.ref C_Errata) = some false)
    (h_ns_Errata_list : PySem.W.subIn K (.type "list") (.ref C_Errata) = some false)
    (h_fn_Errata_init : PySem.W.isFn K (.ref f9) = true)
    (h_fn_Errata_len : PySem.W.isFn K (.ref f10) = true)
    (h_fn_Errata_iter : PySem.W.isFn K (.ref f11) = true)
    (h_fn_Errata_eq : PySem.W.isFn K (.ref f12) = true)
    (h_q_BadErrata_BadErrata : PySem.W.subIn K (.ref C_BadErrata) (.ref C_BadErrata) = some true)
    (h_q_BadErrata_TooMany : PySem.W.subIn K (.ref C_BadErrata) (.ref C_TooMany) = some false)
    (h_q_BadErrata_BadCorrection : PySem.W.subIn K (.ref C_BadErrata) (.ref C_BadCorrection) = some false)
    (h_q_BadErrata_ValueError : PySem.W.subIn K (.ref C_BadErrata) (.type "ValueError") = some true)
    (h_q_BadErrata_BadForm : PySem.W.subIn K (.ref C_BadErrata) (.ref C_BadForm) = some true)
    (h_q_TooMany_BadErrata : PySem.W.subIn K (.ref C_TooMany) (.ref C_BadErrata) = some false)
    (h_q_TooMany_TooMany : PySem.W.subIn K (.ref C_TooMany) (.ref C_TooMany) = some true)
    (h_q_TooMany_BadCorrection : PySem.W.subIn K (.ref C_TooMany) (.ref C_BadCorrection) = some false)
    (h_q_TooMany_ValueError : PySem.W.subIn K (.ref C_TooMany) (.type "ValueError") = some true)
    (h_q_TooMany_BadForm : PySem.W.subIn K (.ref C_TooMany) (.ref C_BadForm) = some false)
    (h_q_BadCorrection_BadErrata : PySem.W.subIn K (.ref C_BadCorrection) (.ref C_BadErrata) = some false)
    (h_q_BadCorrection_TooMany : PySem.W.subIn K (.ref C_BadCorrection) (.ref C_TooMany) = some false)
    (h_q_BadCorrection_BadCorrection : PySem.W.subIn K (.ref C_BadCorrection) (.ref C_BadCorrection) = some true)
    (h_q_BadCorrection_ValueError : PySem.W.subIn K (.ref C_BadCorrection) (.type "ValueError") = some true)
    (h_q_BadCorrection_BadForm : PySem.W.subIn K (.ref C_BadCorrection) (.ref C_BadForm) = some true)
    (h_q_Errata_tuple : PySem.W.subIn K (.ref C_Errata) (.type "tuple") = some false)
    (h_q_Errata_list : PySem.W.subIn K (.ref C_Errata) (.type "list") = some false)
    (h_e_BadErrata_AfterError : PySem.W.subIn K (.ref C_BadErrata) (.ref C_AfterError) = some true)
    (h_e_TooMany_AfterError : PySem.W.subIn K (.ref C_TooMany) (.ref C_AfterError) = some true)
    (h_e_BadCorrection_AfterError : PySem.W.subIn K (.ref C_BadCorrection) (.ref C_AfterError) = some true)
    {nm_TooMany qn_TooMany : Str} {N_TooMany : Addr} {bs_TooMany sub_TooMany : List Value} {sn_TooMany : List Str} {ab_TooMany : Bool} {col_TooMany : Option Bool} {dd_TooMany : Option Addr} {m0_TooMany m1_TooMany m2_TooMany m3_TooMany m5_TooMany : Option Value} {bm_TooMany : List Value}
    (xl_TooMany : K.lookup C_TooMany = some (excClassObj nm_TooMany qn_TooMany C_TooMany N_TooMany bs_TooMany bm_TooMany true sn_TooMany sub_TooMany ab_TooMany col_TooMany dd_TooMany m0_TooMany m1_TooMany m2_TooMany m3_TooMany m5_TooMany "ValueError.__new__"))
    (rf_TooMany : PySem.HandSPX.refsVE bm_TooMany = true)
    (sa_TooMany : PySem.W.findIn K (.ref C_TooMany) "__setattr__" = some (some (.builtin "object.__setattr__"))) (eb_TooMany : PySem.W.subIn K (.ref C_TooMany) (.type "BaseException") = some true) (ty_TooMany : PySem.W.typeIn K (.ref C_TooMany) = some (.type "type")) (kc_TooMany : PySem.W.keepIn K (.ref C_TooMany) = true)
    {nm_BadCorrection qn_BadCorrection : Str} {N_BadCorrection : Addr} {bs_BadCorrection sub_BadCorrection : List Value} {sn_BadCorrection : List Str} {ab_BadCorrection : Bool} {col_BadCorrection : Option Bool} {dd_BadCorrection : Option Addr} {m0_BadCorrection m1_BadCorrection m2_BadCorrection m3_BadCorrection m5_BadCorrection : Option Value} {bm_BadCorrection : List Value}
    (xl_BadCorrection : K.lookup C_BadCorrection = some (excClassObj nm_BadCorrection qn_BadCorrection C_BadCorrection N_BadCorrection bs_BadCorrection bm_BadCorrection true sn_BadCorrection sub_BadCorrection ab_BadCorrection col_BadCorrection dd_BadCorrection m0_BadCorrection m1_BadCorrection m2_BadCorrection m3_BadCorrection m5_BadCorrection "ValueError.__new__"))
    (rf_BadCorrection : PySem.HandSPX.refsVE bm_BadCorrection = true)
    (sa_BadCorrection : PySem.W.findIn K (.ref C_BadCorrection) "__setattr__" = some (some (.builtin "object.__setattr__"))) (eb_BadCorrection : PySem.W.subIn K (.ref C_BadCorrection) (.type "BaseException") = some true) (ty_BadCorrection : PySem.W.typeIn K (.ref C_BadCorrection) = some (.type "type")) (kc_BadCorrection : PySem.W.keepIn K (.ref C_BadCorrection) = true)
    (pg_Errata : PySem.W.plainGet K C_Errata Str.empty = true)
    (hd_Errata : PySem.W.hasDictIn K C_Errata = true)
    (po_Errata : PySem.W.plainOver K C_Errata = true)
    (sa_Errata : PySem.W.findIn K (.ref C_Errata) "__setattr__" = some (some (.builtin "object.__setattr__")))
    (ic_AfterError : PySem.W.isClsIn K C_AfterError = true)
    (tc_AfterError : PySem.W.typeIn K (.ref C_AfterError) = some (.type "type"))
    (sc_AfterError : PySem.W.subIn K (.ref C_AfterError) (.type "BaseException") = some true)
    (dc_AfterError : PySem.W.hasDictIn K C_AfterError = true)
    (ic_BadForm : PySem.W.isClsIn K C_BadForm = true)
    (tc_BadForm : PySem.W.typeIn K (.ref C_BadForm) = some (.type "type"))
    (sc_BadForm : PySem.W.subIn K (.ref C_BadForm) (.type "BaseException") = some true)
    (dc_BadForm : PySem.W.hasDictIn K C_BadForm = true)
    (ic_BadErrata : PySem.W.isClsIn K C_BadErrata = true)
    (tc_BadErrata : PySem.W.typeIn K (.ref C_BadErrata) = some (.type "type"))
    (sc_BadErrata : PySem.W.subIn K (.ref C_BadErrata) (.type "BaseException") = some true)
    (dc_BadErrata : PySem.W.hasDictIn K C_BadErrata = true)
    (ic_BadCorrection : PySem.W.isClsIn K C_BadCorrection = true)
    (tc_BadCorrection : PySem.W.typeIn K (.ref C_BadCorrection) = some (.type "type"))
    (sc_BadCorrection : PySem.W.subIn K (.ref C_BadCorrection) (.type "BaseException") = some true)
    (dc_BadCorrection : PySem.W.hasDictIn K C_BadCorrection = true)
    (ic_TooMany : PySem.W.isClsIn K C_TooMany = true)
    (tc_TooMany : PySem.W.typeIn K (.ref C_TooMany) = some (.type "type"))
    (sc_TooMany : PySem.W.subIn K (.ref C_TooMany) (.type "BaseException") = some true)
    (dc_TooMany : PySem.W.hasDictIn K C_TooMany = true)
    (ne_BadErrata_TooMany : C_BadErrata ≠ C_TooMany)
    (ne_BadErrata_BadCorrection : C_BadErrata ≠ C_BadCorrection)
    (ne_TooMany_BadErrata : C_TooMany ≠ C_BadErrata)
    (ne_TooMany_BadCorrection : C_TooMany ≠ C_BadCorrection)
    (ne_TooMany_BadForm : C_TooMany ≠ C_BadForm)
    (ne_BadCorrection_BadErrata : C_BadCorrection ≠ C_BadErrata)
    (ne_BadCorrection_TooMany : C_BadCorrection ≠ C_TooMany)
    : ∃ fd : FuncData, (∀ (s : Shared) (v : Value), BindsTo s fd ⟨[v], []⟩ [("_law_script", v)]) ∧ ∀ base : Heap, K.In base → base.Ns mainGlobals mg → GnOk l.prog w K mg base CX0 11 fa fd ["_law_script"] (sp_law K) := by
  have e := hfa.symm.trans (PySem.W.mg_of X G a31)
  cases e
  have F0 := fun_mk (st := s_BadCorrection_init) l0 c0 k0
  have b0 := F0.binds (ps := ["self", "place"]) fun _ _ _ _ _ _ us hl => match us, hl with | [_, _], _ => rfl
  have F1 := fun_mk (st := s_TooMany_init) l1 c1 k1
  have b1 := F1.binds (ps := ["self", "word"]) fun _ _ _ _ _ _ us hl => match us, hl with | [_, _], _ => rfl
  have F2 := fun_mk (st := s_is_integer) l2 c2 k2
  have b2 := F2.binds (ps := ["thing"]) fun _ _ _ _ _ _ us hl => match us, hl with | [_], _ => rfl
  have F3 := fun_mk (st := s_is_within) l3 c3 k3
  have b3 := F3.binds (ps := ["thing", "least", "most"]) fun _ _ _ _ _ _ us hl => match us, hl with | [_, _, _], _ => rfl
  have F4 := fun_mk (st := s_is_tuple) l4 c4 k4
  have b4 := F4.binds (ps := ["thing"]) fun _ _ _ _ _ _ us hl => match us, hl with | [_], _ => rfl
  have F5 := fun_mk (st := s_is_sized) l5 c5 k5
  have b5 := F5.binds (ps := ["thing", "least", "most"]) fun _ _ _ _ _ _ us hl => match us, hl with | [_, _, _], _ => rfl
  have F6 := fun_mk (st := s_kept_label) l6 c6 k6
  have b6 := F6.binds (ps := ["thing"]) fun _ _ _ _ _ _ us hl => match us, hl with | [_], _ => rfl
  have F7 := fun_mk (st := s_kept_page) l7 c7 k7
  have b7 := F7.binds (ps := ["thing"]) fun _ _ _ _ _ _ us hl => match us, hl with | [_], _ => rfl
  have F8 := fun_mk (st := s_is_token) l8 c8 k8
  have b8 := F8.binds (ps := ["thing"]) fun _ _ _ _ _ _ us hl => match us, hl with | [_], _ => rfl
  have F9 := fun_mk (st := s_Errata_init) l9 c9 k9
  have b9 := F9.binds (ps := ["self", "corrections"]) fun _ _ _ _ _ _ us hl => match us, hl with | [_, _], _ => rfl
  have F10 := fun_mk (st := s_Errata_len) l10 c10 k10
  have b10 := F10.binds (ps := ["self"]) fun _ _ _ _ _ _ us hl => match us, hl with | [_], _ => rfl
  have F11 := fun_mk (st := s_Errata_iter) l11 c11 k11
  have b11 := F11.binds (ps := ["self"]) fun _ _ _ _ _ _ us hl => match us, hl with | [_], _ => rfl
  have F12 := fun_mk (st := s_Errata_eq) l12 c12 k12
  have b12 := F12.binds (ps := ["self", "other"]) fun _ _ _ _ _ _ us hl => match us, hl with | [_, _], _ => rfl
  have F13 := fun_mk (st := s_turns_at_places) l13 c13 k13
  have b13 := F13.binds (ps := ["corrections"]) fun _ _ _ _ _ _ us hl => match us, hl with | [_], _ => rfl
  have F14 := fun_mk (st := s_judged_corrections) l14 c14 k14
  have b14 := F14.binds (ps := ["corrections"]) fun _ _ _ _ _ _ us hl => match us, hl with | [_], _ => rfl
  have F15 := fun_mk (st := s_kept_correction) l15 c15 k15
  have b15 := F15.binds (ps := ["thing"]) fun _ _ _ _ _ _ us hl => match us, hl with | [_], _ => rfl
  have F16 := fun_mk (st := s_source) l16 c16 k16
  have b16 := F16.binds (ps := ["_law_script", "_law_k"]) fun _ _ _ _ _ _ us hl => match us, hl with | [_, _], _ => rfl
  have F17 := fun_mk (st := s_pick) l17 c17 k17
  have b17 := F17.binds (ps := ["_law_source_here", "_law_many"]) fun _ _ _ _ _ _ us hl => match us, hl with | [_, _], _ => rfl
  have F18 := fun_mk (st := s_law_is_integer) l18 c18 k18
  have b18 := F18.binds (ps := ["_law_actual"]) fun _ _ _ _ _ _ us hl => match us, hl with | [_], _ => rfl
  have F19 := fun_mk (st := s_token) l19 c19 k19
  have b19 := F19.binds (ps := ["_law_source_here", "_law_most"]) fun _ _ _ _ _ _ us hl => match us, hl with | [_, _], _ => rfl
  have F20 := fun_mk (st := s_other) l20 c20 k20
  have b20 := F20.binds (ps := ["_law_token_here"]) fun _ _ _ _ _ _ us hl => match us, hl with | [_], _ => rfl
  have F21 := fun_mk (st := s_label) l21 c21 k21
  have b21 := F21.binds (ps := ["_law_source_here"]) fun _ _ _ _ _ _ us hl => match us, hl with | [_], _ => rfl
  have F22 := fun_mk (st := s_correction) l22 c22 k22
  have b22 := F22.binds (ps := ["_law_source_here"]) fun _ _ _ _ _ _ us hl => match us, hl with | [_], _ => rfl
  have F23 := fun_mk (st := s_spoilt_page) l23 c23 k23
  have b23 := F23.binds (ps := ["_law_page", "_law_way"]) fun _ _ _ _ _ _ us hl => match us, hl with | [_, _], _ => rfl
  have F24 := fun_mk (st := s_spoilt) l24 c24 k24
  have b24 := F24.binds (ps := ["_law_source_here", "_law_one"]) fun _ _ _ _ _ _ us hl => match us, hl with | [_, _], _ => rfl
  have F25 := fun_mk (st := s_shaped) l25 c25 k25
  have b25 := F25.binds (ps := ["_law_thing", "_law_way"]) fun _ _ _ _ _ _ us hl => match us, hl with | [_, _], _ => rfl
  have F26 := fun_mk (st := s_made) l26 c26 k26
  have b26 := F26.binds (ps := ["_law_thing"]) fun _ _ _ _ _ _ us hl => match us, hl with | [_], _ => rfl
  have F27 := fun_mk (st := s_keeps) l27 c27 k27
  have b27 := F27.binds (ps := ["_law_made_here", "_law_rows"]) fun _ _ _ _ _ _ us hl => match us, hl with | [_, _], _ => rfl
  have F28 := fun_mk (st := s_equals) l28 c28 k28
  have b28 := F28.binds (ps := ["_law_made_here", "_law_rows"]) fun _ _ _ _ _ _ us hl => match us, hl with | [_, _], _ => rfl
  have F29 := fun_mk (st := s_odd_thing) l29 c29 k29
  have b29 := F29.binds (ps := ["_law_source_here", "_law_rows"]) fun _ _ _ _ _ _ us hl => match us, hl with | [_, _], _ => rfl
  have F30 := fun_mk (st := s_good_asked) l30 c30 k30
  have b30 := F30.binds (ps := ["_law_rows", "_law_way"]) fun _ _ _ _ _ _ us hl => match us, hl with | [_, _], _ => rfl
  have F31 := fun_mk (st := s_law) l31 c31 k31
  have b31 := F31.binds (ps := ["_law_script"]) fun _ _ _ _ _ _ us hl => match us, hl with | [_], _ => rfl
  let T : Tab K mg := ⟨C_AfterError, C_BadForm, C_BadErrata, C_BadCorrection, C_TooMany, C_Errata, _, _, F0, b0, a0, _, _, F1, b1, a1, _, _, F2, b2, PySem.W.mg_of X G a2, _, _, F3, b3, PySem.W.mg_of X G a3, _, _, F4, b4, PySem.W.mg_of X G a4, _, _, F5, b5, PySem.W.mg_of X G a5, _, _, F6, b6, PySem.W.mg_of X G a6, _, _, F7, b7, PySem.W.mg_of X G a7, _, _, F8, b8, PySem.W.mg_of X G a8, _, _, F9, b9, a9, _, _, F10, b10, a10, _, _, F11, b11, a11, _, _, F12, b12, a12, _, _, F13, b13, PySem.W.mg_of X G a13, _, _, F14, b14, PySem.W.mg_of X G a14, _, _, F15, b15, PySem.W.mg_of X G a15, _, _, F16, b16, PySem.W.mg_of X G a16, _, _, F17, b17, PySem.W.mg_of X G a17, _, _, F18, b18, PySem.W.mg_of X G a18, _, _, F19, b19, PySem.W.mg_of X G a19, _, _, F20, b20, PySem.W.mg_of X G a20, _, _, F21, b21, PySem.W.mg_of X G a21, _, _, F22, b22, PySem.W.mg_of X G a22, _, _, F23, b23, PySem.W.mg_of X G a23, _, _, F24, b24, PySem.W.mg_of X G a24, _, _, F25, b25, PySem.W.mg_of X G a25, _, _, F26, b26, PySem.W.mg_of X G a26, _, _, F27, b27, PySem.W.mg_of X G a27, _, _, F28, b28, PySem.W.mg_of X G a28, _, _, F29, b29, PySem.W.mg_of X G a29, _, _, F30, b30, PySem.W.mg_of X G a30, _, _, F31, b31, PySem.W.mg_of X G a31, PySem.W.mg_of X G h_cg_Errata, PySem.W.mg_of X G h_cg_AfterError, PySem.W.mg_of X G h_cg_BadForm, PySem.W.mg_of X G h_cg_BadErrata, PySem.W.mg_of X G h_cg_BadCorrection, PySem.W.mg_of X G h_cg_TooMany, h_x_BadErrata, h_k_BadErrata, h_t_BadErrata, h_hg_BadErrata, h_hk_BadErrata, h_hs_BadErrata, h_hd_BadErrata, h_ha_BadErrata, h_hn_BadErrata, h_ht_BadErrata, h_hm_BadErrata, h_hg_TooMany, h_hk_TooMany, h_hs_TooMany, h_hd_TooMany, h_ha_TooMany, h_hn_TooMany, h_ht_TooMany, h_hm_TooMany, h_hg_BadCorrection, h_hk_BadCorrection, h_hs_BadCorrection, h_hd_BadCorrection, h_ha_BadCorrection, h_hn_BadCorrection, h_ht_BadCorrection, h_hm_BadCorrection, ⟨⟨_, _, _, _, _, _, _, _, _, _, _, _, _, _, _, xl_TooMany, rf_TooMany⟩, sa_TooMany, eb_TooMany, ty_TooMany, kc_TooMany⟩, h_n_TooMany_word, h_i_TooMany, ⟨⟨_, _, _, _, _, _, _, _, _, _, _, _, _, _, _, xl_BadCorrection, rf_BadCorrection⟩, sa_BadCorrection, eb_BadCorrection, ty_BadCorrection, kc_BadCorrection⟩, h_n_BadCorrection_place, h_i_BadCorrection, ⟨pg_Errata, hd_Errata, po_Errata, sa_Errata⟩, h_ms_Errata, h_kc_Errata, h_ca_Errata, h_cn_Errata, h_ct_Errata, h_cm_Errata, h_ic_Errata, h_tc_Errata, h_na_Errata_corrections, h_na_Errata__turns, h_ns_Errata_tuple, h_ns_Errata_int, h_ns_Errata_list, h_fn_Errata_init, h_fn_Errata_len, h_fn_Errata_iter, h_fn_Errata_eq, kit_ref ic_BadErrata tc_BadErrata h_q_BadErrata_BadErrata (fun _ => rfl), kit_ref ic_TooMany tc_TooMany h_q_BadErrata_TooMany (fun z => absurd z ne_BadErrata_TooMany), kit_ref ic_BadCorrection tc_BadCorrection h_q_BadErrata_BadCorrection (fun z => absurd z ne_BadErrata_BadCorrection), kit_rty h_q_BadErrata_ValueError (by decide +kernel), kit_ref ic_BadForm tc_BadForm h_q_BadErrata_BadForm (fun _ => rfl), kit_ref ic_BadErrata tc_BadErrata h_q_TooMany_BadErrata (fun z => absurd z ne_TooMany_BadErrata), kit_ref ic_TooMany tc_TooMany h_q_TooMany_TooMany (fun _ => rfl), kit_ref ic_BadCorrection tc_BadCorrection h_q_TooMany_BadCorrection (fun z => absurd z ne_TooMany_BadCorrection), kit_rty h_q_TooMany_ValueError (by decide +kernel), kit_ref ic_BadForm tc_BadForm h_q_TooMany_BadForm (fun z => absurd z ne_TooMany_BadForm), kit_ref ic_BadErrata tc_BadErrata h_q_BadCorrection_BadErrata (fun z => absurd z ne_BadCorrection_BadErrata), kit_ref ic_TooMany tc_TooMany h_q_BadCorrection_TooMany (fun z => absurd z ne_BadCorrection_TooMany), kit_ref ic_BadCorrection tc_BadCorrection h_q_BadCorrection_BadCorrection (fun _ => rfl), kit_rty h_q_BadCorrection_ValueError (by decide +kernel), kit_ref ic_BadForm tc_BadForm h_q_BadCorrection_BadForm (fun _ => rfl), kit_rty h_q_Errata_tuple (by decide +kernel), kit_rty h_q_Errata_list (by decide +kernel), PySem.W.exm_ref sc_AfterError dc_AfterError tc_AfterError h_e_BadErrata_AfterError, PySem.W.exm_ref sc_AfterError dc_AfterError tc_AfterError h_e_TooMany_AfterError, PySem.W.exm_ref sc_AfterError dc_AfterError tc_AfterError h_e_BadCorrection_AfterError, _, PySem.W.mg_of X G v_MOST_CORRECTIONS, _, PySem.W.mg_of X G v_MOST_PARTS, _, PySem.W.mg_of X G v_MOST_ROWS, _, PySem.W.mg_of X G v_MOST_SIGNS, _, PySem.W.mg_of X G v_MOST_TOKENS, PySem.W.mg_none_of X G z_ValueError, PySem.W.mg_none_of X G z_abs, PySem.W.mg_none_of X G z_all, PySem.W.mg_none_of X G z_bool, PySem.W.mg_none_of X G z_int, PySem.W.mg_none_of X G z_isinstance, PySem.W.mg_none_of X G z_iter, PySem.W.mg_none_of X G z_len, PySem.W.mg_none_of X G z_list, PySem.W.mg_none_of X G z_max, PySem.W.mg_none_of X G z_min, PySem.W.mg_none_of X G z_range, PySem.W.mg_none_of X G z_repr, PySem.W.mg_none_of X G z_str, PySem.W.mg_none_of X G z_sum, PySem.W.mg_none_of X G z_tuple⟩
  exact ⟨PySem.W.fnOf "law" "law" (defArgs s_law) (defBody s_law) (defScope s_law) .none kV31 dc31 pm31 an31 cd31 ct31, fun s v => .of_eq rfl, fun base _ _ => ok_law T⟩
end K50
open PySem PySem.W PyProof.Rows
set_option maxRecDepth 100000 in
set_option maxHeartbeats 0 in
theorem PySem.Challenge.cw_afterleaves_k50_corrections_judged_holds : PySem.Challenge.rw_afterleaves_k50_corrections_judged.Holds := by
  w_on; o_law; k_head; (case hw => w_witness2)
  k_fill
  refine K50.walk_ofG (l := PySem.Challenge.rw_afterleaves_k50_corrections_judged) (n := 63) (k := 11) (x := "_law_script") (CX := fun _ => L2.CX0) (sp := fun w => K50.sp_law _) rfl (by decide) rfl ⟨rfl, by decide, by decide⟩ (fun w h Y => PySem.W.kIn_of Y) ?F (fun _ _ a ns hl _ hS => ⟨a, ns, rfl, hS, hl, fun _ => rfl⟩) (fun _ _ _ _ _ h => h)
  case F =>
    intro w mg fa h KX G hmg
    refine' K50.all_mk KX G hmg ?a0 ?l0 ?c0 ?k0 ?a1 ?l1 ?c1 ?k1 ?a2 ?l2 ?c2 ?k2 ?a3 ?l3 ?c3 ?k3 ?a4 ?l4 ?c4 ?k4 ?a5 ?l5 ?c5 ?k5 ?a6 ?l6 ?c6 ?k6 ?a7 ?l7 ?c7 ?k7 ?a8 ?l8 ?c8 ?k8 ?a9 ?l9 ?c9 ?k9 ?a10 ?l10 ?c10 ?k10 ?a11 ?l11 ?c11 ?k11 ?a12 ?l12 ?c12 ?k12 ?a13 ?l13 ?c13 ?k13 ?a14 ?l14 ?c14 ?k14 ?a15 ?l15 ?c15 ?k15 ?a16 ?l16 ?c16 ?k16 ?a17 ?l17 ?c17 ?k17 ?a18 ?l18 ?c18 ?k18 ?a19 ?l19 ?c19 ?k19 ?a20 ?l20 ?c20 ?k20 ?a21 ?l21 ?c21 ?k21 ?a22 ?l22 ?c22 ?k22 ?a23 ?l23 ?c23 ?k23 ?a24 ?l24 ?c24 ?k24 ?a25 ?l25 ?c25 ?k25 ?a26 ?l26 ?c26 ?k26 ?a27 ?l27 ?c27 ?k27 ?a28 ?l28 ?c28 ?k28 ?a29 ?l29 ?c29 ?k29 ?a30 ?l30 ?c30 ?k30 ?a31 ?l31 ?c31 ?k31 ?v_MOST_CORRECTIONS ?v_MOST_PARTS ?v_MOST_ROWS ?v_MOST_SIGNS ?v_MOST_TOKENS ?z_ValueError ?z_abs ?z_all ?z_bool ?z_int ?z_isinstance ?z_iter ?z_len ?z_list ?z_max ?z_min ?z_range ?z_repr ?z_str ?z_sum ?z_tuple ?h_cg_Errata ?h_cg_AfterError ?h_cg_BadForm ?h_cg_BadErrata ?h_cg_BadCorrection ?h_cg_TooMany ?h_x_BadErrata ?h_k_BadErrata ?h_t_BadErrata ?h_hg_BadErrata ?h_hk_BadErrata ?h_hs_BadErrata ?h_hd_BadErrata ?h_ha_BadErrata ?h_hn_BadErrata ?h_ht_BadErrata ?h_hm_BadErrata ?h_hg_TooMany ?h_hk_TooMany ?h_hs_TooMany ?h_hd_TooMany ?h_ha_TooMany ?h_hn_TooMany ?h_ht_TooMany ?h_hm_TooMany ?h_hg_BadCorrection ?h_hk_BadCorrection ?h_hs_BadCorrection ?h_hd_BadCorrection ?h_ha_BadCorrection ?h_hn_BadCorrection ?h_ht_BadCorrection ?h_hm_BadCorrection ?h_n_TooMany_word ?h_i_TooMany ?h_n_BadCorrection_place ?h_i_BadCorrection ?h_ms_Errata ?h_kc_Errata ?h_ca_Errata ?h_cn_Errata ?h_ct_Errata ?h_cm_Errata ?h_ic_Errata ?h_tc_Errata ?h_na_Errata_corrections ?h_na_Errata__turns ?h_ns_Errata_tuple ?h_ns_Errata_int ?h_ns_Errata_list ?h_fn_Errata_init ?h_fn_Errata_len ?h_fn_Errata_iter ?h_fn_Errata_eq ?h_q_BadErrata_BadErrata ?h_q_BadErrata_TooMany ?h_q_BadErrata_BadCorrection ?h_q_BadErrata_ValueError ?h_q_BadErrata_BadForm ?h_q_TooMany_BadErrata ?h_q_TooMany_TooMany ?h_q_TooMany_BadCorrection ?h_q_TooMany_ValueError ?h_q_TooMany_BadForm ?h_q_BadCorrection_BadErrata ?h_q_BadCorrection_TooMany ?h_q_BadCorrection_BadCorrection ?h_q_BadCorrection_ValueError ?h_q_BadCorrection_BadForm ?h_q_Errata_tuple ?h_q_Errata_list ?h_e_BadErrata_AfterError ?h_e_TooMany_AfterError ?h_e_BadCorrection_AfterError ?xl_TooMany ?rf_TooMany ?sa_TooMany ?eb_TooMany ?ty_TooMany ?kc_TooMany ?xl_BadCorrection ?rf_BadCorrection ?sa_BadCorrection ?eb_BadCorrection ?ty_BadCorrection ?kc_BadCorrection ?pg_Errata ?hd_Errata ?po_Errata ?sa_Errata ?ic_AfterError ?tc_AfterError ?sc_AfterError ?dc_AfterError ?ic_BadForm ?tc_BadForm ?sc_BadForm ?dc_BadForm ?ic_BadErrata ?tc_BadErrata ?sc_BadErrata ?dc_BadErrata ?ic_BadCorrection ?tc_BadCorrection ?sc_BadCorrection ?dc_BadCorrection ?ic_TooMany ?tc_TooMany ?sc_TooMany ?dc_TooMany ?ne_BadErrata_TooMany ?ne_BadErrata_BadCorrection ?ne_TooMany_BadErrata ?ne_TooMany_BadCorrection ?ne_TooMany_BadForm ?ne_BadCorrection_BadErrata ?ne_BadCorrection_TooMany
    (case h_cg_Errata => k_is)
    (case h_cg_AfterError => k_is)
    (case h_cg_BadForm => k_is)
    (case h_cg_BadErrata => k_is)
    (case h_cg_BadCorrection => k_is)
    (case h_cg_TooMany => k_is)
    (case a0 => k_is)
    (case l0 => k_is)
    (case c0 => k_is)
    (case k0 => k_is)
    (case a1 => k_is)
    (case l1 => k_is)
    (case c1 => k_is)
    (case k1 => k_is)
    (case a2 => k_is)
    (case l2 => k_is)
    (case c2 => k_is)
    (case k2 => k_is)
    (case a3 => k_is)
    (case l3 => k_is)
    (case c3 => k_is)
    (case k3 => k_is)
    (case a4 => k_is)
    (case l4 => k_is)
    (case c4 => k_is)
    (case k4 => k_is)
    (case a5 => k_is)
    (case l5 => k_is)
    (case c5 => k_is)
    (case k5 => k_is)
    (case a6 => k_is)
    (case l6 => k_is)
    (case c6 => k_is)
    (case k6 => k_is)
    (case a7 => k_is)
    (case l7 => k_is)
    (case c7 => k_is)
    (case k7 => k_is)
    (case a8 => k_is)
    (case l8 => k_is)
    (case c8 => k_is)
    (case k8 => k_is)
    (case a9 => k_is)
    (case l9 => k_is)
    (case c9 => k_is)
    (case k9 => k_is)
    (case a10 => k_is)
    (case l10 => k_is)
    (case c10 => k_is)
    (case k10 => k_is)
    (case a11 => k_is)
    (case l11 => k_is)
    (case c11 => k_is)
    (case k11 => k_is)
    (case a12 => k_is)
    (case l12 => k_is)
    (case c12 => k_is)
    (case k12 => k_is)
    (case a13 => k_is)
    (case l13 => k_is)
    (case c13 => k_is)
    (case k13 => k_is)
    (case a14 => k_is)
    (case l14 => k_is)
    (case c14 => k_is)
    (case k14 => k_is)
    (case a15 => k_is)
    (case l15 => k_is)
    (case c15 => k_is)
    (case k15 => k_is)
    (case a16 => k_is)
    (case l16 => k_is)
    (case c16 => k_is)
    (case k16 => k_is)
    (case a17 => k_is)
    (case l17 => k_is)
    (case c17 => k_is)
    (case k17 => k_is)
    (case a18 => k_is)
    (case l18 => k_is)
    (case c18 => k_is)
    (case k18 => k_is)
    (case a19 => k_is)
    (case l19 => k_is)
    (case c19 => k_is)
    (case k19 => k_is)
    (case a20 => k_is)
    (case l20 => k_is)
    (case c20 => k_is)
    (case k20 => k_is)
    (case a21 => k_is)
    (case l21 => k_is)
    (case c21 => k_is)
    (case k21 => k_is)
    (case a22 => k_is)
    (case l22 => k_is)
    (case c22 => k_is)
    (case k22 => k_is)
    (case a23 => k_is)
    (case l23 => k_is)
    (case c23 => k_is)
    (case k23 => k_is)
    (case a24 => k_is)
    (case l24 => k_is)
    (case c24 => k_is)
    (case k24 => k_is)
    (case a25 => k_is)
    (case l25 => k_is)
    (case c25 => k_is)
    (case k25 => k_is)
    (case a26 => k_is)
    (case l26 => k_is)
    (case c26 => k_is)
    (case k26 => k_is)
    (case a27 => k_is)
    (case l27 => k_is)
    (case c27 => k_is)
    (case k27 => k_is)
    (case a28 => k_is)
    (case l28 => k_is)
    (case c28 => k_is)
    (case k28 => k_is)
    (case a29 => k_is)
    (case l29 => k_is)
    (case c29 => k_is)
    (case k29 => k_is)
    (case a30 => k_is)
    (case l30 => k_is)
    (case c30 => k_is)
    (case k30 => k_is)
    (case a31 => k_is)
    (case l31 => k_is)
    (case c31 => k_is)
    (case k31 => k_is)
    (case v_MOST_CORRECTIONS => k_is)
    (case v_MOST_PARTS => k_is)
    (case v_MOST_ROWS => k_is)
    (case v_MOST_SIGNS => k_is)
    (case v_MOST_TOKENS => k_is)
    (case z_ValueError => k_is)
    (case z_abs => k_is)
    (case z_all => k_is)
    (case z_bool => k_is)
    (case z_int => k_is)
    (case z_isinstance => k_is)
    (case z_iter => k_is)
    (case z_len => k_is)
    (case z_list => k_is)
    (case z_max => k_is)
    (case z_min => k_is)
    (case z_range => k_is)
    (case z_repr => k_is)
    (case z_str => k_is)
    (case z_sum => k_is)
    (case z_tuple => k_is)
    (case h_x_BadErrata => k_exc)
    (case h_k_BadErrata => k_is)
    (case h_t_BadErrata => k_is)
    (case h_hg_BadErrata => k_is)
    (case h_hk_BadErrata => k_is)
    (case h_hs_BadErrata => k_is)
    (case h_hd_BadErrata => k_is)
    (case h_ha_BadErrata => k_is)
    (case h_hn_BadErrata => k_is)
    (case h_ht_BadErrata => k_is)
    (case h_hm_BadErrata => k_is)
    (case h_hg_TooMany => k_is)
    (case h_hk_TooMany => k_is)
    (case h_hs_TooMany => k_is)
    (case h_hd_TooMany => k_is)
    (case h_ha_TooMany => k_is)
    (case h_hn_TooMany => k_is)
    (case h_ht_TooMany => k_is)
    (case h_hm_TooMany => k_is)
    (case h_hg_BadCorrection => k_is)
    (case h_hk_BadCorrection => k_is)
    (case h_hs_BadCorrection => k_is)
    (case h_hd_BadCorrection => k_is)
    (case h_ha_BadCorrection => k_is)
    (case h_hn_BadCorrection => k_is)
    (case h_ht_BadCorrection => k_is)
    (case h_hm_BadCorrection => k_is)
    (case h_n_TooMany_word => k_is)
    (case h_i_TooMany => k_is)
    (case h_n_BadCorrection_place => k_is)
    (case h_i_BadCorrection => k_is)
    (case h_ms_Errata => k_is)
    (case h_kc_Errata => k_is)
    (case h_ca_Errata => k_is)
    (case h_cn_Errata => k_is)
    (case h_ct_Errata => k_is)
    (case h_cm_Errata => k_is)
    (case h_ic_Errata => k_is)
    (case h_tc_Errata => k_is)
    (case h_na_Errata_corrections => k_is)
    (case h_na_Errata__turns => k_is)
    (case h_ns_Errata_tuple => k_is)
    (case h_ns_Errata_int => k_is)
    (case h_ns_Errata_list => k_is)
    (case h_fn_Errata_init => k_is)
    (case h_fn_Errata_len => k_is)
    (case h_fn_Errata_iter => k_is)
    (case h_fn_Errata_eq => k_is)
    (case h_q_BadErrata_BadErrata => k_is)
    (case h_q_BadErrata_TooMany => k_is)
    (case h_q_BadErrata_BadCorrection => k_is)
    (case h_q_BadErrata_ValueError => k_is)
    (case h_q_BadErrata_BadForm => k_is)
    (case h_q_TooMany_BadErrata => k_is)
    (case h_q_TooMany_TooMany => k_is)
    (case h_q_TooMany_BadCorrection => k_is)
    (case h_q_TooMany_ValueError => k_is)
    (case h_q_TooMany_BadForm => k_is)
    (case h_q_BadCorrection_BadErrata => k_is)
    (case h_q_BadCorrection_TooMany => k_is)
    (case h_q_BadCorrection_BadCorrection => k_is)
    (case h_q_BadCorrection_ValueError => k_is)
    (case h_q_BadCorrection_BadForm => k_is)
    (case h_q_Errata_tuple => k_is)
    (case h_q_Errata_list => k_is)
    (case h_e_BadErrata_AfterError => k_is)
    (case h_e_TooMany_AfterError => k_is)
    (case h_e_BadCorrection_AfterError => k_is)
    (case xl_TooMany => k_is)
    (case rf_TooMany => first | rfl | decide +kernel | k_is)
    (case sa_TooMany => k_is)
    (case eb_TooMany => k_is)
    (case ty_TooMany => k_is)
    (case kc_TooMany => k_is)
    (case xl_BadCorrection => k_is)
    (case rf_BadCorrection => first | rfl | decide +kernel | k_is)
    (case sa_BadCorrection => k_is)
    (case eb_BadCorrection => k_is)
    (case ty_BadCorrection => k_is)
    (case kc_BadCorrection => k_is)
    (case pg_Errata => k_is)
    (case hd_Errata => k_is)
    (case po_Errata => k_is)
    (case sa_Errata => k_is)
    (case ic_AfterError => k_is)
    (case tc_AfterError => k_is)
    (case sc_AfterError => k_is)
    (case dc_AfterError => k_is)
    (case ic_BadForm => k_is)
    (case tc_BadForm => k_is)
    (case sc_BadForm => k_is)
    (case dc_BadForm => k_is)
    (case ic_BadErrata => k_is)
    (case tc_BadErrata => k_is)
    (case sc_BadErrata => k_is)
    (case dc_BadErrata => k_is)
    (case ic_BadCorrection => k_is)
    (case tc_BadCorrection => k_is)
    (case sc_BadCorrection => k_is)
    (case dc_BadCorrection => k_is)
    (case ic_TooMany => k_is)
    (case tc_TooMany => k_is)
    (case sc_TooMany => k_is)
    (case dc_TooMany => k_is)
    (case ne_BadErrata_TooMany => decide)
    (case ne_BadErrata_BadCorrection => decide)
    (case ne_TooMany_BadErrata => decide)
    (case ne_TooMany_BadCorrection => decide)
    (case ne_TooMany_BadForm => decide)
    (case ne_BadCorrection_BadErrata => decide)
    (case ne_BadCorrection_TooMany => decide)

import PyProof.Rows.All
import Wide.All
import OpenK.AllK
import Wide.FinOn
import HandS.ForMost
import HandS.Codes
import HandS.IsInst
import HandS.Walk
import HandS.TupLe
import HandS.SortRule
import HandS.NamedTupSort
import KE.GoesRaise
import HandS.HotCalls
import HandS.DeepEq
import HandS.TupAny
import HandS.Deep
import HandS.FStr
import HandS.StrMore
import HandS.TryMany
import HandS.NoneIn
import HandS.ForExc
import HandS.ExcInit
import HandS.ExcField
import HandS.ExcIs
import KE.KExcIs
import KE.KRevSl
import PyProof.StrLawsRepr
import HandS.Flow
import HandS.OwnEq
import HandS.Defaults
import HandS.MakeKw
import HandS.MakeKwOnly
import PySem.Challenge.RW_afterleaves_k03_rows_of_labels
set_option Elab.async false
set_option linter.all false
set_option maxRecDepth 100000
set_option maxHeartbeats 4000000
namespace K03
open PySem PySem.Spec PyProof.Rows L2
/-! ### the text -/
def topS (i : Nat) : Stmt := PySem.Challenge.pw_afterleaves_k03_rows_of_labels.main.body.getD i (.Pass ⟨0, 0, 0, 0⟩)
abbrev s_BadLabel_init : Stmt := inClass (topS 4) 0
abbrev N_BadLabel_init : List Str := ["self", "label"]
theorem sc_BadLabel_init : FnScope N_BadLabel_init ["self", "label"] (defScope s_BadLabel_init) := ⟨rfl, rfl, rfl, by decide +kernel, rfl, by decide +kernel, by decide +kernel⟩
abbrev s_BadOrder_init : Stmt := inClass (topS 5) 0
abbrev N_BadOrder_init : List Str := ["self", "place"]
theorem sc_BadOrder_init : FnScope N_BadOrder_init ["self", "place"] (defScope s_BadOrder_init) := ⟨rfl, rfl, rfl, by decide +kernel, rfl, by decide +kernel, by decide +kernel⟩
abbrev s_is_integer : Stmt := topS 8
abbrev N_is_integer : List Str := ["thing"]
theorem sc_is_integer : FnScope N_is_integer ["thing"] (defScope s_is_integer) := ⟨rfl, rfl, rfl, by decide +kernel, rfl, by decide +kernel, by decide +kernel⟩
abbrev s_is_within : Stmt := topS 9
abbrev N_is_within : List Str := ["thing", "least", "most"]
theorem sc_is_within : FnScope N_is_within ["thing", "least", "most"] (defScope s_is_within) := ⟨rfl, rfl, rfl, by decide +kernel, rfl, by decide +kernel, by decide +kernel⟩
abbrev s_is_tuple : Stmt := topS 10
abbrev N_is_tuple : List Str := ["thing"]
theorem sc_is_tuple : FnScope N_is_tuple ["thing"] (defScope s_is_tuple) := ⟨rfl, rfl, rfl, by decide +kernel, rfl, by decide +kernel, by decide +kernel⟩
abbrev s_is_sized : Stmt := topS 11
abbrev N_is_sized : List Str := ["thing", "least", "most"]
theorem sc_is_sized : FnScope N_is_sized ["thing", "least", "most"] (defScope s_is_sized) := ⟨rfl, rfl, rfl, by decide +kernel, rfl, by decide +kernel, by decide +kernel⟩
abbrev s_kept_label : Stmt := topS 14
abbrev N_kept_label : List Str := ["thing", "part"]
theorem sc_kept_label : FnScope N_kept_label ["thing"] (defScope s_kept_label) := ⟨rfl, rfl, rfl, by decide +kernel, rfl, by decide +kernel, by decide +kernel⟩
abbrev s_judged_label : Stmt := topS 15
abbrev N_judged_label : List Str := ["thing", "label"]
theorem sc_judged_label : FnScope N_judged_label ["thing"] (defScope s_judged_label) := ⟨rfl, rfl, rfl, by decide +kernel, rfl, by decide +kernel, by decide +kernel⟩
abbrev s_between : Stmt := topS 16
abbrev N_between : List Str := ["low", "high", "count", "label"]
theorem sc_between : FnScope N_between ["low", "high"] (defScope s_between) := ⟨rfl, rfl, rfl, by decide +kernel, rfl, by decide +kernel, by decide +kernel⟩
abbrev s_least_above : Stmt := topS 17
abbrev N_least_above : List Str := ["low", "count", "parts", "number", "part", "label", "_"]
theorem sc_least_above : FnScope N_least_above ["low", "count"] (defScope s_least_above) := ⟨rfl, rfl, rfl, by decide +kernel, rfl, by decide +kernel, by decide +kernel⟩
abbrev s_neighbours : Stmt := topS 18
abbrev N_neighbours : List Str := ["labels", "kept", "k", "label", "low", "high"]
theorem sc_neighbours : FnScope N_neighbours ["labels"] (defScope s_neighbours) := ⟨rfl, rfl, rfl, by decide +kernel, rfl, by decide +kernel, by decide +kernel⟩
abbrev s_source : Stmt := topS 20
abbrev N_source : List Str := ["_law_script", "_law_k", "_law_cell", "_law_number", "_law_great"]
theorem sc_source : FnScope N_source ["_law_script", "_law_k"] (defScope s_source) := ⟨rfl, rfl, rfl, by decide +kernel, rfl, by decide +kernel, by decide +kernel⟩
abbrev s_pick : Stmt := topS 21
abbrev N_pick : List Str := ["_law_source_here", "_law_many", "_law_taken"]
theorem sc_pick : FnScope N_pick ["_law_source_here", "_law_many"] (defScope s_pick) := ⟨rfl, rfl, rfl, by decide +kernel, rfl, by decide +kernel, by decide +kernel⟩
abbrev s_law_is_integer : Stmt := topS 22
abbrev N_law_is_integer : List Str := ["_law_actual"]
theorem sc_law_is_integer : FnScope N_law_is_integer ["_law_actual"] (defScope s_law_is_integer) := ⟨rfl, rfl, rfl, by decide +kernel, rfl, by decide +kernel, by decide +kernel⟩
abbrev s_figure : Stmt := topS 23
abbrev N_figure : List Str := ["_law_source_here", "_law_least_here", "_law_way"]
theorem sc_figure : FnScope N_figure ["_law_source_here", "_law_least_here"] (defScope s_figure) := ⟨rfl, rfl, rfl, by decide +kernel, rfl, by decide +kernel, by decide +kernel⟩
abbrev s_label : Stmt := topS 24
abbrev N_label : List Str := ["_law_source_here", "_law_size", "_law_parts", "_law_step"]
theorem sc_label : FnScope N_label ["_law_source_here"] (defScope s_label) := ⟨rfl, rfl, rfl, by decide +kernel, rfl, by decide +kernel, by decide +kernel⟩
abbrev s_behind : Stmt := topS 25
abbrev N_behind : List Str := ["_law_source_here", "_law_low", "_law_way"]
theorem sc_behind : FnScope N_behind ["_law_source_here", "_law_low"] (defScope s_behind) := ⟨rfl, rfl, rfl, by decide +kernel, rfl, by decide +kernel, by decide +kernel⟩
abbrev s_row : Stmt := topS 26
abbrev N_row : List Str := ["_law_source_here", "_law_row_here", "_law_step", "_law_label_here"]
theorem sc_row : FnScope N_row ["_law_source_here"] (defScope s_row) := ⟨rfl, rfl, rfl, by decide +kernel, rfl, by decide +kernel, by decide +kernel⟩
abbrev s_least : Stmt := topS 27
abbrev N_least : List Str := ["_law_low", "_law_size", "_law_number", "_law_step", "_law_parts"]
theorem sc_least : FnScope N_least ["_law_low", "_law_size"] (defScope s_least) := ⟨rfl, rfl, rfl, by decide +kernel, rfl, by decide +kernel, by decide +kernel⟩
abbrev s_middle : Stmt := topS 28
abbrev N_middle : List Str := ["_law_low", "_law_high", "_law_size", "_law_label_here"]
theorem sc_middle : FnScope N_middle ["_law_low", "_law_high"] (defScope s_middle) := ⟨rfl, rfl, rfl, by decide +kernel, rfl, by decide +kernel, by decide +kernel⟩
abbrev s_dues : Stmt := topS 29
abbrev N_dues : List Str := ["_law_row_here", "_law_at"]
theorem sc_dues : FnScope N_dues ["_law_row_here"] (defScope s_dues) := ⟨rfl, rfl, rfl, by decide +kernel, rfl, by decide +kernel, by decide +kernel⟩
abbrev s_same : Stmt := topS 30
abbrev N_same : List Str := ["_law_actual", "_law_dues_here", "_law_at", "_law_part"]
theorem sc_same : FnScope N_same ["_law_actual", "_law_dues_here"] (defScope s_same) := ⟨rfl, rfl, rfl, by decide +kernel, rfl, by decide +kernel, by decide +kernel⟩
abbrev s_asked : Stmt := topS 31
abbrev N_asked : List Str := ["_law_row_here", "_law_dues_here", "_law_actual", "e"]
theorem sc_asked : FnScope N_asked ["_law_row_here", "_law_dues_here"] (defScope s_asked) := ⟨rfl, rfl, rfl, by decide +kernel, rfl, by decide +kernel, by decide +kernel⟩
abbrev s_rounds : Stmt := topS 32
abbrev N_rounds : List Str := ["_law_row_here", "_law_turn", "_law_dues_here", "_law_lists", "_law_longer", "_law_at", "_law_label_here"]
theorem sc_rounds : FnScope N_rounds ["_law_row_here"] (defScope s_rounds) := ⟨rfl, rfl, rfl, by decide +kernel, rfl, by decide +kernel, by decide +kernel⟩
abbrev s_odd : Stmt := topS 33
abbrev N_odd : List Str := ["_law_source_here", "_law_label_here", "_law_at", "_law_way"]
theorem sc_odd : FnScope N_odd ["_law_source_here", "_law_label_here"] (defScope s_odd) := ⟨rfl, rfl, rfl, by decide +kernel, rfl, by decide +kernel, by decide +kernel⟩
abbrev s_bad_label : Stmt := topS 34
abbrev N_bad_label : List Str := ["_law_row_here", "_law_thing", "e"]
theorem sc_bad_label : FnScope N_bad_label ["_law_row_here", "_law_thing"] (defScope s_bad_label) := ⟨rfl, rfl, rfl, by decide +kernel, rfl, by decide +kernel, by decide +kernel⟩
abbrev s_bad_order : Stmt := topS 35
abbrev N_bad_order : List Str := ["_law_row_here", "_law_at", "e"]
theorem sc_bad_order : FnScope N_bad_order ["_law_row_here", "_law_at"] (defScope s_bad_order) := ⟨rfl, rfl, rfl, by decide +kernel, rfl, by decide +kernel, by decide +kernel⟩
abbrev s_refusals : Stmt := topS 36
abbrev N_refusals : List Str := ["_law_source_here", "_law_row_here", "_law_odd_here", "_law_at", "_law_lower", "_law_turned", "_law_place"]
theorem sc_refusals : FnScope N_refusals ["_law_source_here", "_law_row_here"] (defScope s_refusals) := ⟨rfl, rfl, rfl, by decide +kernel, rfl, by decide +kernel, by decide +kernel⟩
abbrev s_law : Stmt := topS 37
abbrev N_law : List Str := ["_law_script", "_law_seen", "_law_k", "_law_source_here", "_law_row_here"]
theorem sc_law : FnScope N_law ["_law_script"] (defScope s_law) := ⟨rfl, rfl, rfl, by decide +kernel, rfl, by decide +kernel, by decide +kernel⟩
structure Tab (K : PySem.W.Frag) (mg : Str → Option Value) where
  C_AfterError : Addr
  C_BadForm : Addr
  C_NotThere : Addr
  C_BadLabel : Addr
  C_BadOrder : Addr
  C_NoRoom : Addr
  f_BadLabel_init : Addr
  d_BadLabel_init : FuncData
  F_BadLabel_init : Fun K "__init__" "BadLabel.__init__" s_BadLabel_init f_BadLabel_init d_BadLabel_init
  b_BadLabel_init : Binds K d_BadLabel_init ["self", "label"] []
  g_BadLabel_init : PySem.W.findIn K (.ref C_BadLabel) "__init__" = some (some (.ref f_BadLabel_init))
  f_BadOrder_init : Addr
  d_BadOrder_init : FuncData
  F_BadOrder_init : Fun K "__init__" "BadOrder.__init__" s_BadOrder_init f_BadOrder_init d_BadOrder_init
  b_BadOrder_init : Binds K d_BadOrder_init ["self", "place"] []
  g_BadOrder_init : PySem.W.findIn K (.ref C_BadOrder) "__init__" = some (some (.ref f_BadOrder_init))
  f_is_integer : Addr
  d_is_integer : FuncData
  F_is_integer : Fun K "is_integer" "is_integer" s_is_integer f_is_integer d_is_integer
  b_is_integer : Binds K d_is_integer ["thing"] []
  g_is_integer : mg "is_integer" = some (.ref f_is_integer)
  f_is_within : Addr
  d_is_within : FuncData
  F_is_within : Fun K "is_within" "is_within" s_is_within f_is_within d_is_within
  b_is_within : Binds K d_is_within ["thing", "least", "most"] []
  g_is_within : mg "is_within" = some (.ref f_is_within)
  f_is_tuple : Addr
  d_is_tuple : FuncData
  F_is_tuple : Fun K "is_tuple" "is_tuple" s_is_tuple f_is_tuple d_is_tuple
  b_is_tuple : Binds K d_is_tuple ["thing"] []
  g_is_tuple : mg "is_tuple" = some (.ref f_is_tuple)
  f_is_sized : Addr
  d_is_sized : FuncData
  F_is_sized : Fun K "is_sized" "is_sized" s_is_sized f_is_sized d_is_sized
  b_is_sized : Binds K d_is_sized ["thing", "least", "most"] []
  g_is_sized : mg "is_sized" = some (.ref f_is_sized)
  f_kept_label : Addr
  d_kept_label : FuncData
  F_kept_label : Fun K "kept_label" "kept_label" s_kept_label f_kept_label d_kept_label
  b_kept_label : Binds K d_kept_label ["thing"] []
  g_kept_label : mg "kept_label" = some (.ref f_kept_label)
  f_judged_label : Addr
  d_judged_label : FuncData
  F_judged_label : Fun K "judged_label" "judged_label" s_judged_label f_judged_label d_judged_label
  b_judged_label : Binds K d_judged_label ["thing"] []
  g_judged_label : mg "judged_label" = some (.ref f_judged_label)
  f_between : Addr
  d_between : FuncData
  F_between : Fun K "between" "between" s_between f_between d_between
  b_between : Binds K d_between ["low", "high"] []
  g_between : mg "between" = some (.ref f_between)
  f_least_above : Addr
  d_least_above : FuncData
  F_least_above : Fun K "_least_above" "_least_above" s_least_above f_least_above d_least_above
  b_least_above : Binds K d_least_above ["low", "count"] []
  g_least_above : mg "_least_above" = some (.ref f_least_above)
  f_neighbours : Addr
  d_neighbours : FuncData
  F_neighbours : Fun K "neighbours" "neighbours" s_neighbours f_neighbours d_neighbours
  b_neighbours : Binds K d_neighbours ["labels"] []
  g_neighbours : mg "neighbours" = some (.ref f_neighbours)
  f_source : Addr
  d_source : FuncData
  F_source : Fun K "_law_source" "_law_source" s_source f_source d_source
  b_source : Binds K d_source ["_law_script", "_law_k"] []
  g_source : mg "_law_source" = some (.ref f_source)
  f_pick : Addr
  d_pick : FuncData
  F_pick : Fun K "_law_pick" "_law_pick" s_pick f_pick d_pick
  b_pick : Binds K d_pick ["_law_source_here", "_law_many"] []
  g_pick : mg "_law_pick" = some (.ref f_pick)
  f_law_is_integer : Addr
  d_law_is_integer : FuncData
  F_law_is_integer : Fun K "_law_is_integer" "_law_is_integer" s_law_is_integer f_law_is_integer d_law_is_integer
  b_law_is_integer : Binds K d_law_is_integer ["_law_actual"] []
  g_law_is_integer : mg "_law_is_integer" = some (.ref f_law_is_integer)
  f_figure : Addr
  d_figure : FuncData
  F_figure : Fun K "_law_figure" "_law_figure" s_figure f_figure d_figure
  b_figure : Binds K d_figure ["_law_source_here", "_law_least_here"] []
  g_figure : mg "_law_figure" = some (.ref f_figure)
  f_label : Addr
  d_label : FuncData
  F_label : Fun K "_law_label" "_law_label" s_label f_label d_label
  b_label : Binds K d_label ["_law_source_here"] []
  g_label : mg "_law_label" = some (.ref f_label)
  f_behind : Addr
  d_behind : FuncData
  F_behind : Fun K "_law_behind" "_law_behind" s_behind f_behind d_behind
  b_behind : Binds K d_behind ["_law_source_here", "_law_low"] []
  g_behind : mg "_law_behind" = some (.ref f_behind)
  f_row : Addr
  d_row : FuncData
  F_row : Fun K "_law_row" "_law_row" s_row f_row d_row
  b_row : Binds K d_row ["_law_source_here"] []
  g_row : mg "_law_row" = some (.ref f_row)
  f_least : Addr
  d_least : FuncData
  F_least : Fun K "_law_least" "_law_least" s_least f_least d_least
  b_least : Binds K d_least ["_law_low", "_law_size"] []
  g_least : mg "_law_least" = some (.ref f_least)
  f_middle : Addr
  d_middle : FuncData
  F_middle : Fun K "_law_middle" "_law_middle" s_middle f_middle d_middle
  b_middle : Binds K d_middle ["_law_low", "_law_high"] []
  g_middle : mg "_law_middle" = some (.ref f_middle)
  f_dues : Addr
  d_dues : FuncData
  F_dues : Fun K "_law_dues" "_law_dues" s_dues f_dues d_dues
  b_dues : Binds K d_dues ["_law_row_here"] []
  g_dues : mg "_law_dues" = some (.ref f_dues)
  f_same : Addr
  d_same : FuncData
  F_same : Fun K "_law_same" "_law_same" s_same f_same d_same
  b_same : Binds K d_same ["_law_actual", "_law_dues_here"] []
  g_same : mg "_law_same" = some (.ref f_same)
  f_asked : Addr
  d_asked : FuncData
  F_asked : Fun K "_law_asked" "_law_asked" s_asked f_asked d_asked
  b_asked : Binds K d_asked ["_law_row_here", "_law_dues_here"] []
  g_asked : mg "_law_asked" = some (.ref f_asked)
  f_rounds : Addr
  d_rounds : FuncData
  F_rounds : Fun K "_law_rounds" "_law_rounds" s_rounds f_rounds d_rounds
  b_rounds : Binds K d_rounds ["_law_row_here"] []
  g_rounds : mg "_law_rounds" = some (.ref f_rounds)
  f_odd : Addr
  d_odd : FuncData
  F_odd : Fun K "_law_odd" "_law_odd" s_odd f_odd d_odd
  b_odd : Binds K d_odd ["_law_source_here", "_law_label_here"] []
  g_odd : mg "_law_odd" = some (.ref f_odd)
  f_bad_label : Addr
  d_bad_label : FuncData
  F_bad_label : Fun K "_law_bad_label" "_law_bad_label" s_bad_label f_bad_label d_bad_label
  b_bad_label : Binds K d_bad_label ["_law_row_here", "_law_thing"] []
  g_bad_label : mg "_law_bad_label" = some (.ref f_bad_label)
  f_bad_order : Addr
  d_bad_order : FuncData
  F_bad_order : Fun K "_law_bad_order" "_law_bad_order" s_bad_order f_bad_order d_bad_order
  b_bad_order : Binds K d_bad_order ["_law_row_here", "_law_at"] []
  g_bad_order : mg "_law_bad_order" = some (.ref f_bad_order)
  f_refusals : Addr
  d_refusals : FuncData
  F_refusals : Fun K "_law_refusals" "_law_refusals" s_refusals f_refusals d_refusals
  b_refusals : Binds K d_refusals ["_law_source_here", "_law_row_here"] []
  g_refusals : mg "_law_refusals" = some (.ref f_refusals)
  f_law : Addr
  d_law : FuncData
  F_law : Fun K "law" "law" s_law f_law d_law
  b_law : Binds K d_law ["_law_script"] []
  g_law : mg "law" = some (.ref f_law)
  cg_AfterError : mg "AfterError" = some (.ref C_AfterError)
  cg_BadForm : mg "BadForm" = some (.ref C_BadForm)
  cg_NotThere : mg "NotThere" = some (.ref C_NotThere)
  cg_BadLabel : mg "BadLabel" = some (.ref C_BadLabel)
  cg_BadOrder : mg "BadOrder" = some (.ref C_BadOrder)
  cg_NoRoom : mg "NoRoom" = some (.ref C_NoRoom)
  x_NoRoom : PySem.W.excIn K C_NoRoom [.type "ValueError", .type "Exception", .type "BaseException", .type "object"] "ValueError.__new__" = true
  k_NoRoom : PySem.W.keepIn K (.ref C_NoRoom) = true
  t_NoRoom : PySem.W.typeIn K (.ref C_NoRoom) = some (.type "type")
  hg_NoRoom : PySem.W.findIn K (.ref C_NoRoom) "__getattribute__" = some (some (.builtin "BaseException.__getattribute__"))
  hk_NoRoom : PySem.W.findIn K (.ref C_NoRoom) "__getattr__" = some none
  hs_NoRoom : PySem.W.subIn K (.ref C_NoRoom) (.type "BaseException") = some true
  hd_NoRoom : PySem.W.hasDictIn K C_NoRoom = true
  ha_NoRoom : PySem.W.findIn K (.ref C_NoRoom) "__class__" = some (some (.builtin "object.__class__"))
  hn_NoRoom : PySem.W.specialIn K (.builtin "object.__class__") "__get__" = some (some (.builtin "getset_descriptor.__get__"))
  ht_NoRoom : PySem.W.takesIn K (.builtin "object.__class__") = some true
  hm_NoRoom : PySem.W.mroIn K C_NoRoom (.type "object") = some true
  hg_BadLabel : PySem.W.findIn K (.ref C_BadLabel) "__getattribute__" = some (some (.builtin "BaseException.__getattribute__"))
  hk_BadLabel : PySem.W.findIn K (.ref C_BadLabel) "__getattr__" = some none
  hs_BadLabel : PySem.W.subIn K (.ref C_BadLabel) (.type "BaseException") = some true
  hd_BadLabel : PySem.W.hasDictIn K C_BadLabel = true
  ha_BadLabel : PySem.W.findIn K (.ref C_BadLabel) "__class__" = some (some (.builtin "object.__class__"))
  hn_BadLabel : PySem.W.specialIn K (.builtin "object.__class__") "__get__" = some (some (.builtin "getset_descriptor.__get__"))
  ht_BadLabel : PySem.W.takesIn K (.builtin "object.__class__") = some true
  hm_BadLabel : PySem.W.mroIn K C_BadLabel (.type "object") = some true
  hg_BadOrder : PySem.W.findIn K (.ref C_BadOrder) "__getattribute__" = some (some (.builtin "BaseException.__getattribute__"))
  hk_BadOrder : PySem.W.findIn K (.ref C_BadOrder) "__getattr__" = some none
  hs_BadOrder : PySem.W.subIn K (.ref C_BadOrder) (.type "BaseException") = some true
  hd_BadOrder : PySem.W.hasDictIn K C_BadOrder = true
  ha_BadOrder : PySem.W.findIn K (.ref C_BadOrder) "__class__" = some (some (.builtin "object.__class__"))
  hn_BadOrder : PySem.W.specialIn K (.builtin "object.__class__") "__get__" = some (some (.builtin "getset_descriptor.__get__"))
  ht_BadOrder : PySem.W.takesIn K (.builtin "object.__class__") = some true
  hm_BadOrder : PySem.W.mroIn K C_BadOrder (.type "object") = some true
  o_BadLabel : OexC K C_BadLabel
  n_BadLabel_label : PySem.W.findIn K (.ref C_BadLabel) "label" = some none
  i_BadLabel : PySem.W.typeIn K (.ref f_BadLabel_init) = some (.type "function")
  o_BadOrder : OexC K C_BadOrder
  n_BadOrder_place : PySem.W.findIn K (.ref C_BadOrder) "place" = some none
  i_BadOrder : PySem.W.typeIn K (.ref f_BadOrder_init) = some (.type "function")
  q_NoRoom_AfterError : PySem.W.kitOne K (.ref C_NoRoom) (.ref C_AfterError) = some true
  q_NoRoom_BadForm : PySem.W.kitOne K (.ref C_NoRoom) (.ref C_BadForm) = some false
  q_NoRoom_NotThere : PySem.W.kitOne K (.ref C_NoRoom) (.ref C_NotThere) = some false
  q_BadLabel_BadLabel : PySem.W.kitOne K (.ref C_BadLabel) (.ref C_BadLabel) = some true
  q_BadLabel_BadOrder : PySem.W.kitOne K (.ref C_BadLabel) (.ref C_BadOrder) = some false
  q_BadLabel_ValueError : PySem.W.kitOne K (.ref C_BadLabel) (.type "ValueError") = some true
  q_BadOrder_BadOrder : PySem.W.kitOne K (.ref C_BadOrder) (.ref C_BadOrder) = some true
  q_BadOrder_BadLabel : PySem.W.kitOne K (.ref C_BadOrder) (.ref C_BadLabel) = some false
  q_BadOrder_BadForm : PySem.W.kitOne K (.ref C_BadOrder) (.ref C_BadForm) = some true
  q_BadOrder_NotThere : PySem.W.kitOne K (.ref C_BadOrder) (.ref C_NotThere) = some false
  e_NoRoom_NoRoom : PySem.W.exmOne K (.ref C_NoRoom) (.ref C_NoRoom) = some true
  e_BadLabel_BadForm : PySem.W.exmOne K (.ref C_BadLabel) (.ref C_BadForm) = some true
  e_BadOrder_AfterError : PySem.W.exmOne K (.ref C_BadOrder) (.ref C_AfterError) = some true
  t_MOST_PARTS : Tok
  c_MOST_PARTS : mg "MOST_PARTS" = some (.int 3 t_MOST_PARTS)
  m_ValueError : mg "ValueError" = none
  m_abs : mg "abs" = none
  m_all : mg "all" = none
  m_bool : mg "bool" = none
  m_int : mg "int" = none
  m_isinstance : mg "isinstance" = none
  m_len : mg "len" = none
  m_list : mg "list" = none
  m_max : mg "max" = none
  m_min : mg "min" = none
  m_range : mg "range" = none
  m_repr : mg "repr" = none
  m_sorted : mg "sorted" = none
  m_sum : mg "sum" = none
  m_tuple : mg "tuple" = none
  m_zip : mg "zip" = none
/-! ### heaps and sources -/
theorem un2 {k : Nat} {A : Around} (r : Room k A) : A.units + 65 < cLine := by have := r.un; omega
theorem same_upd {H : Hp} {p : Addr} {o : HO} (h : H p = none) : Same H (upd H p o) := fun b x e => by
  rw [upd_ne (ne_of_none e h)]
  exact e
/-- all but a stand as they stood -/
def But (a : Addr) (H H' : Hp) : Prop := ∀ b o, b ≠ a → H b = some o → H' b = some o
theorem But.refl (a : Addr) (H : Hp) : But a H H := fun _ _ _ e => e
theorem But.trans {a : Addr} {H H1 H2 : Hp} (x : But a H H1) (y : But a H1 H2) : But a H H2 := fun b o n e => y b o n (x b o n e)
theorem But.of {a : Addr} {H H1 : Hp} (x : Same H H1) : But a H H1 := fun b o _ e => x b o e
theorem But.upd {a : Addr} {H : Hp} (o : HO) : But a H (upd H a o) := fun b u n e => by
  rw [upd_ne n]
  exact e
/-- what changes is not there at first -/
theorem But.same {a : Addr} {H0 H H' : Hp} (n : H0 a = none) (s : Same H0 H) (x : But a H H') : Same H0 H' := fun b o e => x b o (ne_of_none e n) (s b o e)
/-- a source of numbers: three ints -/
def Src (H : Hp) (a : Addr) : Prop := ∃ g x c : Int, H a = some (.lst [.int g, .int x, .int c])
theorem cut_map (ns : List Int) (lo hi : Option Int) : ∃ ms : List Int, cutV (ns.map V.int) lo hi = ms.map V.int := by
  unfold cutV
  exact ⟨_, by rw [← List.map_drop, ← List.map_take]⟩
theorem at_of' {α : Type} {xs : List α} {z : Int} {j : Nat} {v : α} (e : z = (j : Int)) (h : xs[j]? = some v) : atI xs z = some v := by
  subst e
  exact atI_nat h
theorem str_len_snoc (z : Str) (c : Nat) : (z ++ (⟨#[c]⟩ : Str)).length = z.length + 1 := by
  show (z.cps ++ #[c]).size = z.cps.size + 1
  rw [Array.size_append]
  rfl
theorem But.none {a D : Addr} {H H3 : Hp} (x : But a H H3) (n : H3 D = .none) (h : D ≠ a) : H D = .none := by
  cases e : H D with
  | none => rfl
  | some o =>
    rw [x D o h e] at n
    cases n
theorem But.put {a D : Addr} {H H' : Hp} (x : But a H H') (n : H D = .none) (o : HO) : But a H (L2.upd H' D o) := fun b u nb e => by
  rw [upd_ne (ne_of_none e n)]
  exact x b u nb e
theorem Src.put {a D : Addr} {H : Hp} (x : Src H a) (n : a ≠ D) (o : HO) : Src (upd H D o) a := by
  obtain ⟨g, y, c, e⟩ := x
  exact ⟨g, y, c, by rw [upd_ne n]; exact e⟩
theorem Src.ne {a D : Addr} {H : Hp} (x : Src H a) (n : H D = .none) : a ≠ D := by
  obtain ⟨g, y, c, e⟩ := x
  exact ne_of_none e n
theorem get_map {xs : List Str} {i : Nat} {x : V} (h : (xs.map V.str)[i]? = some x) : ∃ z, x = .str z ∧ xs[i]? = some z := by
  rw [List.getElem?_map] at h
  cases e : xs[i]? with
  | none => rw [e] at h; cases h
  | some z => rw [e] at h; exact ⟨z, (Option.some.inj h).symm, rfl⟩
theorem get_mapR {xs : List Addr} {i : Nat} {x : V} (h : (xs.map V.ref)[i]? = some x) : ∃ z, x = .ref z ∧ z ∈ xs := by
  rw [List.getElem?_map] at h
  cases e : xs[i]? with
  | none => rw [e] at h; cases h
  | some z => rw [e] at h; exact ⟨z, (Option.some.inj h).symm, List.mem_of_getElem? e⟩
section
variable {X : Cx} {tg e : Expr} {w1 w2 : TI}
theorem pi_or (a : PI X tg e w1) (b : PI X tg e w2) : PI X tg e (fun σ H R => w1 σ H R ∨ w2 σ H R) :=
  ⟨fun pins s σ H R I h => h.elim (fun h => a.run pins s σ H R I h) (fun h => b.run pins s σ H R I h)⟩
theorem op_rep_str : OpR X (binaryOp .Mult) (fun x y H Q => ∃ z n, x = .str z ∧ y = .int n ∧ PySem.MulOk z n ∧ Q (.str (Txt.mul z n)) H) := by
  intro pins s σ H x y v u Q I rx ry h
  obtain ⟨z, n, rfl, rfl, hm, q⟩ := h
  obtain ⟨t, rfl⟩ := rx
  obtain ⟨t', rfl⟩ := ry
  exact PySem.SB.mul hm (fun t' tk => ⟨.str _, H, I.tok _, ⟨_, rfl⟩, q⟩)
end
theorem eq_strs {K : PySem.W.Frag} {H : Hp} : ∀ zs : List Str, Paired (EqV K H 1) (zs.map V.str) (zs.map V.str)
  | [] => .nil
  | z :: r => .cons (.inl ⟨rfl, rfl⟩) (eq_strs r)
theorem same_seqT {K : PySem.W.Frag} {H H' : Hp} {a : Addr} {xs : List V} (e : Same H H') (h : SqT K H a xs) : SqT K H' a xs :=
  h.elim (fun r => .inl (r.elim (fun e1 => .inl (e _ _ e1)) (fun ⟨o, e1⟩ => .inr ⟨o, e _ _ e1⟩))) .inr
theorem same_sq {K : PySem.W.Frag} {H H' : Hp} {a : Addr} {xs : List V} (e : Same H H') (h : SqL K H a xs ∨ SqT K H a xs) : SqL K H' a xs ∨ SqT K H' a xs :=
  h.elim (fun h => .inl (e.seq h)) (fun h => .inr (same_seqT e h))
theorem same_put {H H' : Hp} {b : Addr} (x : Same H H') (n : H b = .none) (o : HO) : Same H (upd H' b o) := fun c u e => by
  rw [upd_ne (ne_of_none e n)]
  exact x c u e
/-! ### == of rows of texts and of numbers -/
theorem dp_strs {K : PySem.W.Frag} {H : Hp} : ∀ zs : List Str, DpAll K H (zs.map V.str) (zs.map PyData.str)
  | [] => .nil
  | z :: r => .cons (.str z) (dp_strs r)
theorem dp_ints {K : PySem.W.Frag} {H : Hp} : ∀ zs : List Int, DpAll K H (zs.map V.int) (zs.map PyData.int)
  | [] => .nil
  | z :: r => .cons (.int z) (dp_ints r)
theorem can_strs : ∀ zs : List Str, (∀ z ∈ zs, PyData.strOk z = true) → PyData.canLayAll0 (zs.map PyData.str) = true
  | [], _ => rfl
  | z :: r, h => by
    show (PyData.strOk z && PyData.canLayAll0 (r.map PyData.str)) = true
    rw [can_strs r fun y hy => h y (List.mem_cons_of_mem _ hy), Bool.and_true]
    exact h z (List.mem_cons_self ..)
theorem can_ints : ∀ zs : List Int, PyData.canLayAll0 (zs.map PyData.int) = true
  | [] => rfl
  | z :: r => by
    show (true && PyData.canLayAll0 (r.map PyData.int)) = true
    rw [can_ints r]
    rfl
theorem depth_strs : ∀ zs : List Str, PyData.depthAll (zs.map PyData.str) = 0
  | [] => rfl
  | z :: r => by
    show max 0 (PyData.depthAll (r.map PyData.str)) = 0
    rw [depth_strs r]
    rfl
theorem depth_ints : ∀ zs : List Int, PyData.depthAll (zs.map PyData.int) = 0
  | [] => rfl
  | z :: r => by
    show max 0 (PyData.depthAll (r.map PyData.int)) = 0
    rw [depth_ints r]
    rfl
theorem shaped_l (zs : List Str) (h : ∀ z ∈ zs, PyData.strOk z = true) : SeqAt.shaped (.list (zs.map PyData.str)) = true := by
  unfold SeqAt.shaped
  rw [Bool.and_eq_true]
  refine ⟨can_strs zs h, decide_eq_true ?_⟩
  show PyData.depthAll (zs.map PyData.str) + 1 ≤ 64
  rw [depth_strs]
  decide
theorem shaped_t (zs : List Str) (h : ∀ z ∈ zs, PyData.strOk z = true) : SeqAt.shaped (.tuple (zs.map PyData.str)) = true := by
  unfold SeqAt.shaped
  rw [Bool.and_eq_true]
  refine ⟨can_strs zs h, decide_eq_true ?_⟩
  show PyData.depthAll (zs.map PyData.str) + 1 ≤ 64
  rw [depth_strs]
  decide
theorem shaped_il (zs : List Int) : SeqAt.shaped (.list (zs.map PyData.int)) = true := by
  unfold SeqAt.shaped
  rw [Bool.and_eq_true]
  refine ⟨can_ints zs, decide_eq_true ?_⟩
  show PyData.depthAll (zs.map PyData.int) + 1 ≤ 64
  rw [depth_ints]
  decide
theorem shaped_it (zs : List Int) : SeqAt.shaped (.tuple (zs.map PyData.int)) = true := by
  unfold SeqAt.shaped
  rw [Bool.and_eq_true]
  refine ⟨can_ints zs, decide_eq_true ?_⟩
  show PyData.depthAll (zs.map PyData.int) + 1 ≤ 64
  rw [depth_ints]
  decide
theorem eqv_strs : ∀ xs ys : List Str, PyData.eqvAll (xs.map PyData.str) (ys.map PyData.str) = decide (xs = ys)
  | [], [] => rfl
  | [], y :: s => rfl
  | x :: r, [] => rfl
  | x :: r, y :: s => by
    show ((x == y) && PyData.eqvAll (r.map PyData.str) (s.map PyData.str)) = decide (x :: r = y :: s)
    rw [eqv_strs r s]
    by_cases h : x = y
    · subst h
      simp
    · simp [h]
theorem eqv_ints : ∀ xs ys : List Int, PyData.eqvAll (xs.map PyData.int) (ys.map PyData.int) = decide (xs = ys)
  | [], [] => rfl
  | [], y :: s => rfl
  | x :: r, [] => rfl
  | x :: r, y :: s => by
    show ((x == y) && PyData.eqvAll (r.map PyData.int) (s.map PyData.int)) = decide (x :: r = y :: s)
    rw [eqv_ints r s]
    by_cases h : x = y
    · subst h
      simp
    · simp [h]
theorem ok_app (a b : Str) (ha : PyData.strOk a = true) (hb : PyData.strOk b = true) : PyData.strOk (a ++ b) = true := by
  show (a.cps ++ b.cps).all (· < 0x110000) = true
  rw [Array.all_append]
  exact Bool.and_eq_true_iff.mpr ⟨ha, hb⟩
/-! ### labels, pages, ranges as words -/
def rdN : List Nat → Option Int
  | [a] => if 48 ≤ a ∧ a ≤ 57 then some ((a : Int) - 48) else none
  | [a, b] => if (48 < a ∧ a ≤ 57) ∧ (48 ≤ b ∧ b ≤ 57) then some (((a : Int) - 48) * 10 + ((b : Int) - 48)) else none
  | _ => none
def rdI (z : Str) : Option Int := rdN z.cps.toList
def allSome : List (Option Int) → Option (List Int)
  | [] => some []
  | none :: _ => none
  | some i :: r => match allSome r with | some L => some (i :: L) | none => none
def keep (os : List (Option Int)) : Option (List Int) :=
  match allSome os with
  | some L => if L.length ≤ 3 ∧ L.getLastD 0 ≠ 0 then some L else none
  | none => none
def rdL (z : Str) : Option (List Int) := keep ((Txt.split z ".").map rdI)
abbrev Pg := List Int × Int
def rdP (z : Str) : Option Pg :=
  match z.cps.toList.getLast? with
  | some c => if c = 97 ∨ c = 98 then (match rdL (cutS z none (some (-1))) with | some L => some (L, (c : Int) - 97) | none => none) else none
  | none => none
def rdR (z : Str) : Option (Pg × Pg) :=
  match (Txt.split z "-").map rdP with
  | [some p] => some (p, p)
  | [some p, some q] => some (p, q)
  | _ => none
def rdR2 : List (Option Pg) → Option (Pg × Pg)
  | [some p] => some (p, p)
  | [some p, some q] => some (p, q)
  | _ => none
theorem rdR_eq (z : Str) : rdR z = rdR2 ((Txt.split z "-").map rdP) := by
  unfold rdR
  generalize (Txt.split z "-").map rdP = ps
  match ps with
  | [] => rfl
  | [none] => rfl
  | [some p] => rfl
  | [none, b] => rfl
  | [some p, none] => rfl
  | [some p, some q] => rfl
  | none :: b :: c :: r => rfl
  | some a :: none :: c :: r => rfl
  | some a :: some b :: c :: r => rfl
def okL (L : List Int) : Prop := L.length ≤ 3 ∧ L.getLastD 0 ≠ 0 ∧ ∀ i ∈ L, 0 ≤ i ∧ i ≤ 99
def okP (p : Pg) : Prop := okL p.1 ∧ (p.2 = 0 ∨ p.2 = 1)
def fL (L : List Int) : Str := Txt.join "." (L.map fun i => (toString i : Str))
def fP (p : Pg) : Str := fL p.1 ++ (if p.2 = 0 then ("a" : Str) else "b")
def fR (p q : Pg) : Str := if fP p = fP q then fP p else fP p ++ "-" ++ fP q
def dL (L : List Int) : PyData := .tuple (L.map PyData.int)
def dP (p : Pg) : PyData := .tuple [dL p.1, .int p.2]
def dR (r : Pg × Pg) : PyData := .tuple [dP r.1, dP r.2]
def oD {α : Type} (f : α → PyData) : Option α → PyData
  | none => .none
  | some x => f x
def optI : Option Int → V
  | none => .non
  | some i => .int i
theorem num_all : ((List.range 100).all fun i => decide (((toString (i : Int) : Str)).length ≤ 2) && decide (1 ≤ ((toString (i : Int) : Str)).length) && ((toString (i : Int) : Str)).cps.toList.all (fun c => decide (48 ≤ c ∧ c ≤ 57)) && decide (rdI (toString (i : Int)) = some (i : Int))) = true := by decide +kernel
theorem num_ok {i : Int} (h0 : 0 ≤ i) (h1 : i ≤ 99) : ((toString i : Str)).length ≤ 2 ∧ 1 ≤ ((toString i : Str)).length ∧ (∀ c ∈ ((toString i : Str)).cps.toList, 48 ≤ c ∧ c ≤ 57) ∧ rdI (toString i) = some i := by
  have h := List.all_eq_true.mp num_all i.toNat (List.mem_range.mpr (by omega))
  rw [Int.toNat_of_nonneg h0] at h
  simp only [Bool.and_eq_true, decide_eq_true_eq, List.all_eq_true] at h
  exact ⟨h.1.1.1, h.1.1.2, h.1.2, h.2⟩
theorem int_all : ((List.range 10).all fun i => decide (PySem.intText? (⟨#[48 + i]⟩ : Str) = some (i : Int)) && (List.range 10).all fun j => decide (PySem.intText? (⟨#[48 + i, 48 + j]⟩ : Str) = some ((i : Int) * 10 + (j : Int)))) = true := by decide +kernel
theorem int1 {a : Nat} (h : 48 ≤ a ∧ a ≤ 57) : PySem.intText? (⟨#[a]⟩ : Str) = some ((a : Int) - 48) := by
  have h1 := List.all_eq_true.mp int_all (a - 48) (List.mem_range.mpr (by omega))
  simp only [Bool.and_eq_true, decide_eq_true_eq] at h1
  have h2 := h1.1
  rw [show 48 + (a - 48) = a by omega] at h2
  rw [h2]
  congr 1
  omega
theorem int2 {a b : Nat} (h : 48 ≤ a ∧ a ≤ 57) (hb : 48 ≤ b ∧ b ≤ 57) : PySem.intText? (⟨#[a, b]⟩ : Str) = some (((a : Int) - 48) * 10 + ((b : Int) - 48)) := by
  have h1 := List.all_eq_true.mp int_all (a - 48) (List.mem_range.mpr (by omega))
  simp only [Bool.and_eq_true, decide_eq_true_eq] at h1
  have h2 := List.all_eq_true.mp h1.2 (b - 48) (List.mem_range.mpr (by omega))
  simp only [decide_eq_true_eq] at h2
  rw [show 48 + (a - 48) = a by omega, show 48 + (b - 48) = b by omega] at h2
  rw [h2]
  congr 1
  omega
theorem rd_bound {z : Str} {i : Int} (h : rdI z = some i) : 0 ≤ i ∧ i ≤ 99 := by
  unfold rdI at h
  match e : z.cps.toList with
  | [] => rw [e] at h; cases h
  | [a] =>
    rw [e] at h
    simp only [rdN] at h
    split at h
    · injection h with h; omega
    · cases h
  | [a, b] =>
    rw [e] at h
    simp only [rdN] at h
    split at h
    · injection h with h; omega
    · cases h
  | a :: b :: c :: r => rw [e] at h; cases h
theorem allSome_map (L : List Int) : allSome (L.map some) = some L := by
  induction L with
  | nil => rfl
  | cons i r ih => rw [List.map_cons]; unfold allSome; rw [ih]
theorem keep_ok {L : List Int} (h : okL L) : keep (L.map some) = some L := by
  unfold keep
  rw [allSome_map]
  simp only
  rw [if_pos ⟨h.1, h.2.1⟩]
theorem okL_ne {L : List Int} (h : okL L) : L ≠ [] := fun e => by
  subst e
  exact h.2.1 rfl
theorem rdL_fL {L : List Int} (h : okL L) : rdL (fL L) = some L := by
  unfold rdL fL
  rw [TL.split_join (s := 46) (S := []) (by rfl) (by decide +kernel) (fun e => okL_ne h (List.map_eq_nil_iff.mp e)) fun p hp => ?_]
  · rw [List.map_map]
    have e : L.map (rdI ∘ fun i => (toString i : Str)) = L.map some := List.map_congr_left fun i hi => (num_ok (h.2.2 i hi).1 (h.2.2 i hi).2).2.2.2
    rw [e, keep_ok h]
  · obtain ⟨i, hi, rfl⟩ := List.mem_map.mp hp
    intro hc
    have := (num_ok (h.2.2 i hi).1 (h.2.2 i hi).2).2.2.1 46 hc
    omega
theorem cut_m1 (z : Str) (c : Nat) : cutS (z ++ (⟨#[c]⟩ : Str)) none (some (-1)) = z := by
  unfold cutS
  have e : (z ++ (⟨#[c]⟩ : Str)).cps.toList = z.cps.toList ++ [c] := cps_toList_append z _
  have l : (z ++ (⟨#[c]⟩ : Str)).length = z.length + 1 := str_len_snoc z c
  rw [e, HT.sIx_none, List.drop_zero, l]
  rw [show HT.sIx (z.length + 1) (z.length + 1) (some (-1)) = z.length by
    show ((-1 : Int) + ((z.length + 1 : Nat) : Int)).toNat = z.length
    omega]
  rw [Nat.sub_zero, List.take_left' (show z.cps.toList.length = z.length from rfl)]
theorem rdP_fP {p : Pg} (h : okP p) : rdP (fP p) = some p := by
  obtain ⟨L, s⟩ := p
  obtain ⟨hL, hs⟩ := h
  have key : ∀ c : Nat, rdP (fL L ++ (⟨#[c]⟩ : Str)) = if c = 97 ∨ c = 98 then some (L, (c : Int) - 97) else none := fun c => by
    unfold rdP
    rw [show (fL L ++ (⟨#[c]⟩ : Str)).cps.toList = (fL L).cps.toList ++ [c] from cps_toList_append _ _, List.getLast?_append, cut_m1, rdL_fL hL]
    rfl
  rcases hs with rfl | rfl
  · exact key 97
  · exact key 98
theorem fP_inj {p q : Pg} (hp : okP p) (hq : okP q) (e : fP p = fP q) : p = q := by
  have h := rdP_fP hp
  rw [e, rdP_fP hq] at h
  exact (Option.some.inj h).symm
theorem fL_free {L : List Int} (h : okL L) : ∀ c ∈ (fL L).cps.toList, c ≠ 45 := by
  intro c hc e
  subst e
  unfold fL at hc
  rw [TL.join_eq] at hc
  rcases (mem_join _ _ _).mp hc with ⟨t, ht, h1⟩ | ⟨_, h1⟩
  · obtain ⟨i, hi, rfl⟩ := List.mem_map.mp ht
    have := (num_ok (h.2.2 i hi).1 (h.2.2 i hi).2).2.2.1 45 h1
    omega
  · revert h1
    decide +kernel
theorem fP_free {p : Pg} (h : okP p) : 45 ∉ TL.tl (fP p) := by
  intro hc
  have hc2 : 45 ∈ (fP p).cps.toList := hc
  unfold fP at hc2
  rw [cps_toList_append] at hc2
  rcases List.mem_append.mp hc2 with h1 | h1
  · exact fL_free h.1 45 h1 rfl
  · split at h1 <;> (revert h1; decide +kernel)
theorem rdR_two {p q : Pg} (hp : okP p) (hq : okP q) : rdR (fP p ++ "-" ++ fP q) = some (p, q) := by
  unfold rdR
  have e : fP p ++ "-" ++ fP q = Txt.join "-" [fP p, fP q] := by rw [TL.join_eq]; rfl
  rw [e, TL.split_join (s := 45) (S := []) (by rfl) (by decide +kernel) (by simp) fun z hz => ?_]
  · simp only [List.map_cons, List.map_nil, rdP_fP hp, rdP_fP hq]
  · rcases List.mem_cons.mp hz with h | h
    · rw [h]; exact fP_free hp
    · rw [List.mem_singleton.mp h]; exact fP_free hq
theorem rdR_one {p : Pg} (hp : okP p) : rdR (fP p) = some (p, p) := by
  unfold rdR
  have e : fP p = Txt.join "-" [fP p] := by rw [TL.join_eq]; rfl
  rw [e, TL.split_join (s := 45) (S := []) (by rfl) (by decide +kernel) (by simp) fun z hz => ?_]
  · simp only [List.map_cons, List.map_nil]
    rw [rdP_fP hp]
  · rw [List.mem_singleton.mp hz]; exact fP_free hp
theorem rdR_fR {p q : Pg} (hp : okP p) (hq : okP q) : rdR (fR p q) = some (p, q) := by
  unfold fR
  split
  · rename_i e
    rw [← fP_inj hp hq e]
    exact rdR_one hp
  · exact rdR_two hp hq
theorem fL_len {L : List Int} (h : okL L) : (fL L).length ≤ 8 ∧ 1 ≤ (fL L).length := by
  have hn := okL_ne h
  have l1 : ("." : Str).length = 1 := by decide +kernel
  have ap : ∀ x y : Str, (x ++ y).length = x.length + y.length := fun x y => by
    show (x.cps ++ y.cps).size = _
    rw [Array.size_append]; rfl
  have nn := fun i hi => num_ok (h.2.2 i hi).1 (h.2.2 i hi).2
  unfold fL
  rw [TL.join_eq]
  match L, h, hn, nn with
  | [a], _, _, nn =>
    have := nn a (List.mem_singleton.mpr rfl)
    show ((toString a : Str)).length ≤ 8 ∧ 1 ≤ ((toString a : Str)).length
    omega
  | [a, b], _, _, nn =>
    have h1 := nn a (by simp)
    have h2 := nn b (by simp)
    show ((toString a : Str) ++ "." ++ (toString b : Str)).length ≤ 8 ∧ 1 ≤ ((toString a : Str) ++ "." ++ (toString b : Str)).length
    rw [ap, ap, l1]
    omega
  | [a, b, c], _, _, nn =>
    have h1 := nn a (by simp)
    have h2 := nn b (by simp)
    have h3 := nn c (by simp)
    show ((toString a : Str) ++ "." ++ ((toString b : Str) ++ "." ++ (toString c : Str))).length ≤ 8 ∧ 1 ≤ ((toString a : Str) ++ "." ++ ((toString b : Str) ++ "." ++ (toString c : Str))).length
    rw [ap, ap, ap, ap, l1]
    omega
  | a :: b :: c :: d :: r, h, _, _ => have := h.1; simp only [List.length_cons] at this; omega
theorem fP_len {p : Pg} (h : okP p) : (fP p).length ≤ 9 ∧ 2 ≤ (fP p).length := by
  have h1 := fL_len h.1
  have ap : ∀ x y : Str, (x ++ y).length = x.length + y.length := fun x y => by
    show (x.cps ++ y.cps).size = _
    rw [Array.size_append]; rfl
  unfold fP
  rw [ap]
  have : (if p.2 = 0 then ("a" : Str) else "b").length = 1 := by split <;> decide +kernel
  omega
/-! ### data in the heap -/
def Seq (K : PySem.W.Frag) (H : Hp) (a : Addr) (xs : List V) : Prop := SqL K H a xs ∨ SqT K H a xs
def PageAt (K : PySem.W.Frag) (H : Hp) (v : V) (p : Pg) : Prop := ∃ a l : Addr, v = .ref a ∧ Seq K H a [.ref l, .int p.2] ∧ Seq K H l (p.1.map V.int)
theorem ty_L {K : PySem.W.Frag} {H : Hp} {a : Addr} {xs : List V} (h : SqL K H a xs) : TyX K H (.ref a) (.type "list") := by
  rcases h with (h | ⟨o, h⟩) | ⟨o, its, n, h, c, _⟩
  · exact .base (.lst h)
  · exact .base (.frz h)
  · exact .kList h c
theorem ty_T {K : PySem.W.Frag} {H : Hp} {a : Addr} {xs : List V} (h : SqT K H a xs) : TyX K H (.ref a) (.type "tuple") := by
  rcases h with (h | ⟨o, h⟩) | ⟨o, its, n, h, c, _⟩
  · exact .base (.tup h)
  · exact .fTuple h
  · exact .kTuple h c
theorem kit2_T {K : PySem.W.Frag} : PySem.W.kitAny K (.type "tuple") [.type "tuple", .type "list"] = some true :=
  kitAny_cons (kit_ty (r := true) (by decide +kernel)) (fun h => nomatch h) (fun _ => rfl)
theorem kit2_L {K : PySem.W.Frag} : PySem.W.kitAny K (.type "list") [.type "tuple", .type "list"] = some true :=
  kitAny_cons (kit_ty (r := false) (by decide +kernel)) (fun _ => kitAny_cons (kit_ty (r := true) (by decide +kernel)) (fun h => nomatch h) (fun _ => rfl)) (fun h => nomatch h)
mutual
theorem dp_same {K : PySem.W.Frag} {H H' : Hp} (e : Same H H') : ∀ {v : V} {d : PyData}, Dp K H v d → Dp K H' v d
  | _, _, .non => .non
  | _, _, .bl b => .bl b
  | _, _, .int i => .int i
  | _, _, .str x => .str x
  | _, _, .lst h a => .lst (e.seq h) (dpAll_same e a)
  | _, _, .tup h a => .tup (same_seqT e h) (dpAll_same e a)
theorem dpAll_same {K : PySem.W.Frag} {H H' : Hp} (e : Same H H') : ∀ {vs : List V} {ds : List PyData}, DpAll K H vs ds → DpAll K H' vs ds
  | _, _, .nil => .nil
  | _, _, .cons h a => .cons (dp_same e h) (dpAll_same e a)
end
theorem dpL {K : PySem.W.Frag} {H : Hp} {a : Addr} {L : List Int} (h : SqT K H a (L.map V.int)) : Dp K H (.ref a) (dL L) := .tup h (dp_ints L)
theorem dp_ints_inv {K : PySem.W.Frag} {H : Hp} : ∀ {L : List Int} {vs : List V}, DpAll K H vs (L.map PyData.int) → vs = L.map V.int
  | [], _, .nil => rfl
  | i :: r, _, .cons h a => by
    cases h
    rw [dp_ints_inv a]
    rfl
theorem dL_inv {K : PySem.W.Frag} {H : Hp} {v : V} {L : List Int} (h : Dp K H v (dL L)) : ∃ a, v = .ref a ∧ SqT K H a (L.map V.int) := by
  cases h with
  | tup h a =>
    rw [dp_ints_inv a] at h
    exact ⟨_, rfl, h⟩
theorem dP_inv {K : PySem.W.Frag} {H : Hp} {v : V} {p : Pg} (h : Dp K H v (dP p)) : ∃ a l, v = .ref a ∧ SqT K H a [.ref l, .int p.2] ∧ SqT K H l (p.1.map V.int) := by
  cases h with
  | tup h a =>
    cases a with
    | cons h1 a =>
      cases a with
      | cons h2 a =>
        cases a
        cases h2
        obtain ⟨l, rfl, hl⟩ := dL_inv h1
        exact ⟨_, l, rfl, h, hl⟩
theorem dR_inv {K : PySem.W.Frag} {H : Hp} {v : V} {r : Pg × Pg} (h : Dp K H v (dR r)) : ∃ a x y, v = .ref a ∧ SqT K H a [x, y] ∧ Dp K H x (dP r.1) ∧ Dp K H y (dP r.2) := by
  cases h with
  | tup h a =>
    cases a with
    | cons h1 a =>
      cases a with
      | cons h2 a =>
        cases a
        exact ⟨_, _, _, rfl, h, h1, h2⟩
theorem pageAt_of {K : PySem.W.Frag} {H : Hp} {v : V} {p : Pg} (h : Dp K H v (dP p)) : PageAt K H v p := by
  obtain ⟨a, l, rfl, h1, h2⟩ := dP_inv h
  exact ⟨a, l, rfl, .inr h1, .inr h2⟩
theorem pageAt_same {K : PySem.W.Frag} {H H' : Hp} (e : Same H H') {v : V} {p : Pg} (h : PageAt K H v p) : PageAt K H' v p := by
  obtain ⟨a, l, rfl, h1, h2⟩ := h
  exact ⟨a, l, rfl, same_sq e h1, same_sq e h2⟩
theorem dp_opt {K : PySem.W.Frag} {H : Hp} {v : V} {α : Type} {f : α → PyData} (h : Dp K H v (oD f none)) : v = .non := by
  cases h
  rfl
theorem log_small {n : Nat} (h : n ≤ 99) : n.log2 < 1920 := Nat.lt_of_le_of_lt (Nat.log2_le_self n) (by omega)
section
variable {X : Cx} {e : Expr} {t u : TG}
theorem pg_or (a : PG X e t) (b : PG X e u) : PG X e (fun v σ H Q => t v σ H Q ∨ u v σ H Q) :=
  ⟨fun pins s σ H v w Q I r h => h.elim (fun h => a.run pins s σ H v w Q I r h) (fun h => b.run pins s σ H v w Q I r h)⟩
end
def dg (c : Nat) : Bool := decide (48 ≤ c ∧ c ≤ 57)
theorem dig_in (c : Nat) : decide (c ∈ ("0123456789" : Str).cps.toList) = dg c := by
  have e : ("0123456789" : Str).cps.toList = [48, 49, 50, 51, 52, 53, 54, 55, 56, 57] := by decide +kernel
  unfold dg
  rw [e]
  apply decide_eq_decide.mpr
  simp only [List.mem_cons, List.not_mem_nil, or_false]
  omega
theorem str1 {z : Str} {a : Nat} (h : z.cps.toList = [a]) : z = ⟨#[a]⟩ := TL.ext_tl h
theorem str2 {z : Str} {a b : Nat} (h : z.cps.toList = [a, b]) : z = ⟨#[a, b]⟩ := TL.ext_tl h
theorem len_cps (z : Str) : z.length = z.cps.toList.length := rfl
theorem zero_ne2 (a b : Nat) : (V.str ⟨#[a, b]⟩ = V.str "0") = False := by
  apply propext
  refine ⟨fun h => ?_, False.elim⟩
  injection h with h
  have := congrArg (fun s : Str => s.cps.size) h
  cases this
theorem zero_eq1 (a : Nat) : (V.str ⟨#[a]⟩ = V.str "0") = (a = 48) := by
  apply propext
  refine ⟨fun h => ?_, fun h => by subst h; rfl⟩
  injection h with h
  injection h with h
  exact (List.cons.inj (congrArg Array.toList h)).1
theorem split_cnt (x y : Str) (hy : 1 ≤ y.length) : (Txt.split x y).length ≤ x.length + 1 := by
  have := split_weight x y hy
  omega
theorem mem_sum {zs : List Str} {z : Str} (h : z ∈ zs) : z.length + zs.length ≤ (zs.map (·.length)).sum + zs.length := by
  have : z.length ≤ (zs.map (·.length)).sum := by
    induction zs with
    | nil => cases h
    | cons y r ih =>
      rw [List.map_cons, List.sum_cons]
      rcases List.mem_cons.mp h with e | e
      · rw [e]; omega
      · have := ih e; omega
  omega
theorem split_part (x y : Str) (hy : 1 ≤ y.length) {z : Str} (h : z ∈ Txt.split x y) : z.length ≤ x.length := by
  have h1 := split_weight x y hy
  have h2 := mem_sum h
  have h3 : 1 ≤ (Txt.split x y).length := List.length_pos_of_mem h
  omega
theorem rdI_some {os : List Str} {i : Int} (h : some i ∈ os.map rdI) : 0 ≤ i ∧ i ≤ 99 := by
  obtain ⟨z, _, e⟩ := List.mem_map.mp h
  exact rd_bound e
theorem some_bound {L : List Int} (h : okL L) {i : Int} (hi : some i ∈ L.map some) : 0 ≤ i ∧ i ≤ 99 := by
  obtain ⟨j, hj, e⟩ := List.mem_map.mp hi
  injection e with e
  subst e
  exact h.2.2 _ hj
theorem optI_map (L : List Int) : (L.map some).map optI = L.map V.int := by
  rw [List.map_map]
  rfl
theorem num_fit {L : List Int} (h : okL L) : ((L.map fun i => (toString i : Str)).map (·.length)).sum + (L.map fun i => (toString i : Str)).length * ("." : Str).length ≤ 16777216 := by
  have l1 : ("." : Str).length = 1 := by decide +kernel
  have h1 : ((L.map fun i => (toString i : Str)).map (·.length)).sum ≤ 2 * L.length := by
    have hb := h.2.2
    clear h
    induction L with
    | nil => exact Nat.le_refl _
    | cons i r ih =>
      have hi := num_ok (hb i (List.mem_cons_self ..)).1 (hb i (List.mem_cons_self ..)).2
      have := ih fun j hj => hb j (List.mem_cons_of_mem _ hj)
      simp only [List.map_cons, List.sum_cons, List.length_cons]
      omega
  have h2 := h.1
  rw [l1, List.length_map]
  omega
theorem split_ne (x y : Str) : Txt.split x y ≠ [] := by
  unfold Txt.split
  split
  · simp
  · split
    · simp
    · rw [StrLaws.partsBetween_eq]
      intro h
      generalize Builtin.Str.occurrences x y 0 x.length (x.length + 1) = cuts at h
      cases cuts with
      | nil => cases h
      | cons c r => cases h
theorem seqT_but {K : PySem.W.Frag} {H H' : Hp} {a p : Addr} {xs ys : List V} (ha : H a = some (.lst xs)) (b : But a H H') (h : SqT K H p ys) : SqT K H' p ys :=
  h.elim (fun r => .inl (r.elim (fun e => .inl (b p _ (ne_of e ha (by intro z; cases z)) e)) (fun ⟨o, e⟩ => .inr ⟨o, b p _ (ne_of e ha (by intro z; cases z)) e⟩))) .inr
/-- nothing, ints, tuples -/
def Pn : Nat → PyData → Prop
  | _, .none => True
  | _, .int _ => True
  | n + 1, .tuple ds => ∀ d ∈ ds, Pn n d
  | _, _ => False
mutual
theorem dp_but {K : PySem.W.Frag} {H H' : Hp} {a : Addr} {xs : List V} (ha : H a = some (.lst xs)) (b : But a H H') : ∀ {v : V} {d : PyData}, Dp K H v d → (∃ n, Pn n d) → Dp K H' v d
  | _, _, .non, _ => .non
  | _, _, .bl b, _ => .bl b
  | _, _, .int i, _ => .int i
  | _, _, .str x, _ => .str x
  | _, _, .lst _ _, ⟨n, h⟩ => by cases n <;> exact h.elim
  | _, _, .tup h k, ⟨0, z⟩ => z.elim
  | _, _, .tup h k, ⟨n + 1, z⟩ => .tup (seqT_but ha b h) (dpAll_but ha b k fun d hd => ⟨n, z d hd⟩)
theorem dpAll_but {K : PySem.W.Frag} {H H' : Hp} {a : Addr} {xs : List V} (ha : H a = some (.lst xs)) (b : But a H H') : ∀ {vs : List V} {ds : List PyData}, DpAll K H vs ds → (∀ d ∈ ds, ∃ n, Pn n d) → DpAll K H' vs ds
  | _, _, .nil, _ => .nil
  | _, _, .cons h k, z => .cons (dp_but ha b h (z _ (List.mem_cons_self ..))) (dpAll_but ha b k fun d hd => z d (List.mem_cons_of_mem _ hd))
end
theorem dpAll_snoc {K : PySem.W.Frag} {H : Hp} : ∀ {vs : List V} {ds : List PyData} {v : V} {d : PyData}, DpAll K H vs ds → Dp K H v d → DpAll K H (vs ++ [v]) (ds ++ [d])
  | _, _, _, _, .nil, h => .cons h .nil
  | _, _, _, _, .cons k r, h => .cons k (dpAll_snoc r h)
theorem dpAll_len {K : PySem.W.Frag} {H : Hp} : ∀ {vs : List V} {ds : List PyData}, DpAll K H vs ds → vs.length = ds.length
  | _, _, .nil => rfl
  | _, _, .cons _ r => congrArg (· + 1) (dpAll_len r)
theorem pn_L (L : List Int) : Pn 1 (dL L) := fun d hd => by
  obtain ⟨i, _, rfl⟩ := List.mem_map.mp hd
  trivial
theorem pn_P (p : Pg) : Pn 2 (dP p) := fun d hd => by
  rcases List.mem_cons.mp hd with h | h
  · rw [h]; exact pn_L p.1
  · rw [List.mem_singleton.mp h]; trivial
theorem pn_oL : ∀ o : Option (List Int), Pn 1 (oD dL o)
  | none => trivial
  | some L => pn_L L
theorem pn_oP : ∀ o : Option Pg, Pn 2 (oD dP o)
  | none => trivial
  | some p => pn_P p
theorem lay_pn : ∀ (n : Nat) (d : PyData), Pn n d → d.canLay0 = true ∧ d.depth ≤ n
  | _, .none, _ => ⟨rfl, Nat.zero_le _⟩
  | _, .int _, _ => ⟨rfl, Nat.zero_le _⟩
  | 0, .tuple ds, h => h.elim
  | n + 1, .tuple ds, h => by
    have key : ∀ es : List PyData, (∀ d ∈ es, Pn n d) → PyData.canLayAll0 es = true ∧ PyData.depthAll es ≤ n := by
      intro es
      induction es with
      | nil => exact fun _ => ⟨rfl, Nat.zero_le _⟩
      | cons d r ih =>
        intro hh
        have h1 := lay_pn n d (hh d (List.mem_cons_self ..))
        have h2 := ih fun e he => hh e (List.mem_cons_of_mem _ he)
        refine ⟨?_, ?_⟩
        · show (d.canLay0 && PyData.canLayAll0 r) = true
          rw [h1.1, h2.1]
          rfl
        · show max d.depth (PyData.depthAll r) ≤ n
          omega
    have := key ds h
    exact ⟨this.1, Nat.succ_le_succ this.2⟩
  | _, .bool _, h => by simp [Pn] at h
  | _, .str _, h => by simp [Pn] at h
  | _, .list _, h => by simp [Pn] at h
  | _, .dict _, h => by simp [Pn] at h
theorem shaped_pn {n : Nat} {d : PyData} (h : Pn n d) (hn : n ≤ 64) : SeqAt.shaped d = true := by
  have := lay_pn n d h
  unfold SeqAt.shaped
  rw [Bool.and_eq_true]
  exact ⟨this.1, decide_eq_true (by omega)⟩
theorem shaped_pnl {n : Nat} {ds : List PyData} (h : ∀ d ∈ ds, Pn n d) (hn : n ≤ 63) : SeqAt.shaped (.list ds) = true := by
  have := lay_pn (n + 1) (.tuple ds) h
  unfold SeqAt.shaped
  rw [Bool.and_eq_true]
  exact ⟨this.1, decide_eq_true (by have := this.2; show PyData.depthAll ds + 1 ≤ 64; have e : (PyData.tuple ds).depth = PyData.depthAll ds + 1 := rfl; omega)⟩
theorem none_in (os : List (Option Pg)) : ((os.map (oD dP)).any fun z => PyData.eqv z .none) = os.any (·.isNone) := by
  induction os with
  | nil => rfl
  | cons o r ih =>
    rw [List.map_cons, List.any_cons, List.any_cons, ih]
    cases o <;> rfl
theorem cut_end (z : Str) : (z.cps.toList = [] ∧ cutS z (some (-1)) none = Str.empty) ∨ ∃ c, z.cps.toList.getLast? = some c ∧ cutS z (some (-1)) none = ⟨#[c]⟩ := by
  cases e : z.cps.toList.getLast? with
  | none =>
    have h := List.getLast?_eq_none_iff.mp e
    refine .inl ⟨h, ?_⟩
    unfold cutS
    rw [h]
    simp [Str.empty]
  | some c =>
    refine .inr ⟨c, rfl, ?_⟩
    obtain ⟨l, hl⟩ := List.getLast?_eq_some_iff.mp e
    unfold cutS
    have hz : z.length = l.length + 1 := by
      show z.cps.toList.length = _
      rw [hl, List.length_append]
      rfl
    rw [hz, HT.sIx_none, show HT.sIx (l.length + 1) 0 (some (-1)) = l.length by
      show ((-1 : Int) + ((l.length + 1 : Nat) : Int)).toNat = l.length
      omega, hl, List.drop_left' rfl]
    rw [show l.length + 1 - l.length = 1 by omega]
    rfl
theorem ab_in (y : Str) : inV (.str y) [.str "a", .str "b"] = decide (y = ⟨#[97]⟩ ∨ y = ⟨#[98]⟩) := by
  show ((("a" : Str) == y) || ((("b" : Str) == y) || false)) = _
  have ea : ("a" : Str) = ⟨#[97]⟩ := rfl
  have eb : ("b" : Str) = ⟨#[98]⟩ := rfl
  rw [ea, eb, Bool.or_false]
  by_cases h1 : y = ⟨#[97]⟩
  · subst h1; simp
  · by_cases h2 : y = ⟨#[98]⟩
    · subst h2; simp
    · have h1' : ¬ (⟨#[97]⟩ : Str) = y := fun e => h1 e.symm
      have h2' : ¬ (⟨#[98]⟩ : Str) = y := fun e => h2 e.symm
      simp [h1, h2, h1', h2']
theorem one_inj {a b : Nat} (h : (⟨#[a]⟩ : Str) = ⟨#[b]⟩) : a = b := by
  injection h with h
  exact (List.cons.inj (congrArg Array.toList h)).1
theorem eqv_dP (p q : Pg) : PyData.eqv (dP p) (dP q) = decide (p = q) := by
  show (PyData.eqvAll (p.1.map PyData.int) (q.1.map PyData.int) && ((p.2 == q.2) && true)) = _
  rw [eqv_ints, Bool.and_true]
  obtain ⟨a, b⟩ := p
  obtain ⟨c, d⟩ := q
  by_cases h1 : a = c
  · by_cases h2 : b = d
    · subst h1; subst h2; simp
    · simp [h1, h2]
  · simp [h1]
theorem allSome_none {os : List (Option Int)} (h : none ∈ os) : allSome os = none := by
  induction os with
  | nil => cases h
  | cons o r ih =>
    rcases o with _ | i
    · rfl
    · have h2 : none ∈ r := (List.mem_cons.mp h).resolve_left (by simp)
      unfold allSome
      rw [ih h2]
theorem keep_none {os : List (Option Int)} (h : none ∈ os) : keep os = none := by
  unfold keep
  rw [allSome_none h]
theorem keep_map (L : List Int) : keep (L.map some) = if L.length ≤ 3 ∧ L.getLastD 0 ≠ 0 then some L else none := by
  unfold keep
  rw [allSome_map]
/-! ### data that was laid since -/
mutual
inductive Fd (H0 H : Hp) : V → PyData → Prop
  | int (i : Int) : Fd H0 H (.int i) (.int i)
  | lst {a : Addr} {vs : List V} {ds : List PyData} (h : H a = some (.lst vs)) (n : H0 a = none) (r : FdAll H0 H vs ds) : Fd H0 H (.ref a) (.list ds)
inductive FdAll (H0 H : Hp) : List V → List PyData → Prop
  | nil : FdAll H0 H [] []
  | cons {v : V} {vs : List V} {d : PyData} {ds : List PyData} (h : Fd H0 H v d) (r : FdAll H0 H vs ds) : FdAll H0 H (v :: vs) (d :: ds)
end
mutual
theorem fd_to {H0 H H0' H' : Hp} (hm : ∀ a o, H0 a = none → H a = some o → H0' a = none ∧ H' a = some o) : ∀ {v : V} {d : PyData}, Fd H0 H v d → Fd H0' H' v d
  | _, _, .int i => .int i
  | _, _, .lst h n r => .lst (hm _ _ n h).2 (hm _ _ n h).1 (fdAll_to hm r)
theorem fdAll_to {H0 H H0' H' : Hp} (hm : ∀ a o, H0 a = none → H a = some o → H0' a = none ∧ H' a = some o) : ∀ {vs : List V} {ds : List PyData}, FdAll H0 H vs ds → FdAll H0' H' vs ds
  | _, _, .nil => .nil
  | _, _, .cons h r => .cons (fd_to hm h) (fdAll_to hm r)
end
mutual
theorem fd_dp {K : PySem.W.Frag} {H0 H : Hp} : ∀ {v : V} {d : PyData}, Fd H0 H v d → Dp K H v d
  | _, _, .int i => .int i
  | _, _, .lst h _ r => .lst (.inl (.inl h)) (fdAll_dp r)
theorem fdAll_dp {K : PySem.W.Frag} {H0 H : Hp} : ∀ {vs : List V} {ds : List PyData}, FdAll H0 H vs ds → DpAll K H vs ds
  | _, _, .nil => .nil
  | _, _, .cons h r => .cons (fd_dp h) (fdAll_dp r)
end
theorem fdAll_snoc {H0 H : Hp} : ∀ {vs : List V} {ds : List PyData} {v : V} {d : PyData}, FdAll H0 H vs ds → Fd H0 H v d → FdAll H0 H (vs ++ [v]) (ds ++ [d])
  | _, _, _, _, .nil, h => .cons h .nil
  | _, _, _, _, .cons k r, h => .cons k (fdAll_snoc r h)
theorem fdAll_len {H0 H : Hp} : ∀ {vs : List V} {ds : List PyData}, FdAll H0 H vs ds → vs.length = ds.length
  | _, _, .nil => rfl
  | _, _, .cons _ r => congrArg (· + 1) (fdAll_len r)
theorem fdAll_same {H0 H H' : Hp} (s : Same H H') {vs : List V} {ds : List PyData} (h : FdAll H0 H vs ds) : FdAll H0 H' vs ds := fdAll_to (fun a o n e => ⟨n, s a o e⟩) h
theorem dpAll_get {K : PySem.W.Frag} {H : Hp} : ∀ {vs : List V} {ds : List PyData} {i : Nat} {v : V}, DpAll K H vs ds → vs[i]? = some v → ∃ d, ds[i]? = some d ∧ Dp K H v d
  | _, _, _, _, .nil, e => nomatch e
  | _, _, 0, _, .cons h r, e => by
    injection e with e
    subst e
    exact ⟨_, rfl, h⟩
  | _, _, i + 1, _, .cons h r, e => by
    obtain ⟨d, e1, e2⟩ := dpAll_get (i := i) r e
    exact ⟨d, e1, e2⟩
theorem dpAll_get2 {K : PySem.W.Frag} {H : Hp} {vs : List V} {ds : List PyData} {i : Nat} {d : PyData} (h : DpAll K H vs ds) (e : ds[i]? = some d) : ∃ v, vs[i]? = some v ∧ Dp K H v d := by
  have hi := (List.getElem?_eq_some_iff.mp e).1
  rw [← dpAll_len h] at hi
  have e1 := List.getElem?_eq_getElem hi
  obtain ⟨d', e2, e3⟩ := dpAll_get h e1
  rw [e] at e2
  injection e2 with e2
  subst e2
  exact ⟨_, e1, e3⟩
theorem ixN_end (R : List Int) (x : Int) : ixN ((R ++ [x]).map V.int).length (-1) = some R.length := by
  unfold ixN
  rw [List.length_map, List.length_append, List.length_singleton, if_neg (by decide), if_pos (by omega)]
  congr 1
  omega
theorem set_end (R : List Int) (x v : Int) : ((R ++ [x]).map V.int).set R.length (.int v) = (R ++ [v]).map V.int := by
  rw [List.map_append, List.map_append, List.set_append_right _ _ (by rw [List.length_map]; exact Nat.le_refl _), List.length_map, Nat.sub_self]
  rfl
theorem at_end (R : List Int) (x : Int) : atI ((R ++ [x]).map V.int) (-1) = some (.int x) := by
  rw [List.map_append]
  exact atI_last _ _
/-- a page that was laid apart from a -/
def PT (a : Addr) (H : Hp) (o : Addr) (p : Pg) : Prop := ∃ l, l ≠ a ∧ o ≠ a ∧ H o = some (.tup [.ref l, .int p.2]) ∧ H l = some (.tup (p.1.map V.int))
theorem PT.but {a o : Addr} {H H' : Hp} {p : Pg} (h : PT a H o p) (b : But a H H') : PT a H' o p := by
  obtain ⟨l, h1, h2, h3, h4⟩ := h
  exact ⟨l, h1, h2, b _ _ h2 h3, b _ _ h1 h4⟩
theorem PT.dp {K : PySem.W.Frag} {a o : Addr} {H : Hp} {p : Pg} (h : PT a H o p) : Dp K H (.ref o) (dP p) := by
  obtain ⟨l, h1, h2, h3, h4⟩ := h
  exact .tup (.inl (.inl h3)) (.cons (dpL (.inl (.inl h4))) (.cons (.int _) .nil))
theorem cut_to (z : Str) (k : Int) (h0 : 0 ≤ k) (h1 : k ≤ (z.length : Int)) : (cutS z none (some k)).length = k.toNat := by
  obtain ⟨n, rfl⟩ := Int.eq_ofNat_of_zero_le h0
  show (((z.cps.toList.drop 0).take (HT.sIx z.length z.length (some (n : Int)) - 0)).toArray).size = _
  rw [HT.sIx_nat, List.size_toArray, List.length_take, List.drop_zero, Array.length_toList]
  show min (min n z.length - 0) z.length = _
  omega
theorem cut_from (z : Str) (k : Int) (h0 : 0 ≤ k) : (cutS z (some k) none).length = z.length - k.toNat := by
  obtain ⟨n, rfl⟩ := Int.eq_ofNat_of_zero_le h0
  show (((z.cps.toList.drop (HT.sIx z.length 0 (some (n : Int)))).take (z.length - HT.sIx z.length 0 (some (n : Int)))).toArray).size = _
  rw [HT.sIx_nat, List.size_toArray, List.length_take, List.length_drop, Array.length_toList]
  show min (z.length - min n z.length) (z.length - min n z.length) = _
  omega
theorem at_some {α : Type} (xs : List α) (k : Int) (h0 : 0 ≤ k) (h1 : k < (xs.length : Int)) : ∃ c, atI xs k = some c := by
  obtain ⟨n, rfl⟩ := Int.eq_ofNat_of_zero_le h0
  exact ⟨_, atI_nat (List.getElem?_eq_getElem (show n < xs.length by omega))⟩
/-! ### a def that is called where no object is being shown: its promise may count on that (repr) -/
structure GnOk (P : Program) (w : World) (K : PySem.W.Frag) (mg : Str → Option Value) (base : Heap) (CX : CXT) (k : Nat) (f : Addr) (fd : FuncData) (ps : List Str) (sp : Sp) : Prop where
  size : ∀ vs H Q E, sp vs H Q E → vs.length = ps.length
  go : ∀ (A : Around) (outer : List Env) (s : Shared) (H : Hp) (args : Args) (us : List Value) (vs : List V) (Q : VK) (E : XK), Room k A → A.guards = some [] → Env0 P w K mg base A outer s H →
    BindsTo s fd args (ps.zip us) → Vals vs us → sp vs H Q E → codeAny (model P w) A (.call (.ref f) args) (CR CX outer P w H s Q E) s
section
variable {P : Program} {w : World} {K : PySem.W.Frag} {mg : Str → Option Value} {base : Heap}
theorem ce_of {X : Cx} {Q : VK} {σ : L2.St} {H H1 : Hp} {s s1 : Shared} {v : V} {u : Value} (J : Inv X [] σ H1 s1) (r : RelV v u) (q : Q v H1) (e1 : s1.os = s.os) (e2 : Un (frs X.outer) [] H H1 s.heap s1.heap) :
    CE X.outer X.prog X.w H s Q u s1 := ⟨v, H1, e1, J.bare, e2, J.hok, r, q⟩
theorem gn_of {CX : CXT} {k : Nat} {x qual : Str} {st : Stmt} {f : Addr} {fd : FuncData} {N ps : List Str} {sp : Sp} (F : Fun K x qual st f fd) (S : FnScope N ps (defScope st)) (len : ∀ vs H Q E, sp vs H Q E → vs.length = ps.length)
    (body : ∀ (cdv : Value) (A : Around) (outer : List Env) (s : Shared) (H : Hp) (vs : List V) (Q : VK) (E : XK), Room k (A.deeper (envOfC qual (defScope st) s.heap.objs.size f cdv)) → A.guards = some [] → sp vs H Q E →
      ∃ t, PSs (cxOf CX P w K mg base N qual (defScope st) f cdv A outer s H E) (defBody st) t ∧ t { nx := fun _ H' => Q .non H', rt := Q } (start N vs) H) : GnOk P w K mg base CX (k + 1) f fd ps sp := by
  obtain ⟨oc, od, kV, doc, pm, an, cdv, ct, osl, rfl, lk, hcd⟩ := F.ex
  constructor
  · exact len
  intro A outer s H args us vs Q E hr hg env0 bind rel hsp
  have up := env0.bs
  have KX : K.In s.heap := env0.mod.kin.keeps (fun b o e => (up b o e).1)
  refine codeAny_call_function (hroom := hr.depth) (KX _ _ lk) rfl S.co S.gen rfl (PySem.W.codeRec_of KX hcd) (bind _ _ _ _ ?_)
  have kinds : ∀ y ∈ ps.zip us, (defScope st).names.lookup y.1 = some .local ∨
      ((defScope st).names.lookup y.1 = some .cell ∧ ((cellsFrom (s.heap.objs.size + 1) (defScope st).names []).lookup y.1).isSome = true) := by
    rintro ⟨n, v⟩ hy
    exact (S.par n (List.of_mem_zip hy).1).elim .inl (fun q => .inr ⟨q, PySem.W.cellsFrom_some _ _ _ (.inl q)⟩)
  refine wpAny_newFunctionEnv_cells S.kind kinds (fun env he s1 fresh => ?_)
  subst he
  refine ⟨(env0.mod.nolimit.keeps (fun b o e => (up b o e).1)).keeps fresh.toInCall.keep, codeAny_func ?_⟩
  obtain ⟨t, walk, want⟩ := body cdv A outer s H vs Q E (hr.deeper _) hg hsp
  have J := inv_start (CX := CX) (E := E) S hr.hd env0 (len _ _ _ _ hsp) rel fresh
  refine wpAny_mono (walk.run [] s1 (start N vs) H _ J want) ?_ (fun _ _ z => z)
  rintro (_ | _ | _ | u) s2 h
  · obtain ⟨σ2, H2, J2, q⟩ := h
    exact ⟨.non, H2, J2.os, J2.bare, J2.base, J2.hok, rfl, q⟩
  · obtain ⟨_, _, _, q⟩ := h
    exact q.elim
  · obtain ⟨_, _, _, q⟩ := h
    exact q.elim
  · obtain ⟨v, σ2, H2, J2, r, q⟩ := h
    exact ⟨v, H2, J2.os, J2.bare, J2.base, J2.hok, r, q⟩
end
section
variable {X : Cx} {CX : CXT} {k : Nat} {f : Addr} {fd : FuncData} {ps : List Str} {sp : Sp} {E : XK} {x : Str} {p pos : Pos} {e : Expr} {es : List Expr} {t : TA}
/-- such a def is called by its name -/
theorem pe_callG (F : GnOk X.prog X.w X.K X.mg X.base CX k f fd ps sp) (hr : Room k X.A) (hg : X.A.guards = some []) (gl : Gl X x) (hm : X.mg x = some (.ref f)) (hk : PySem.W.keepIn X.K (.ref f) = true) (hb : Binds X.K fd ps []) (hx : Passes CX X E)
    (ha : PA X (e :: es) t) (hdb : (x == ("__debug__" : Str)) = false := by decide) (he : starEach (e :: es) X.env = (false, eval e X.env) :: starEach es X.env := by rfl) (hpl : (backTo pos (starEach es X.env)).any (·.1) = false := by rfl) :
    PE X (.Call (.Name x p) (e :: es) [] pos) (tCall sp [] E t) := by
  constructor
  intro pins s σ H Q I h
  refine wpAny_Call_Name_kw (ld_glob I gl hm ?_ hdb)
  refine PySem.W.callWith_K (h₀ := X.base) I.ok.mod.kin hk ?_ he hpl
  refine thn (ha.run pos pins s σ H _ I h) ?_
  rintro us s1 ⟨vs, H1, I1, rel, q⟩
  refine ⟨I1.kIn, ?_⟩
  have q : sp vs H1 Q E := by rw [List.append_nil] at q; exact q
  have bd := hb s1 us I1.kIn (by rw [List.append_nil, ← rel.length]; exact F.size _ _ _ _ q)
  rw [List.append_nil] at bd
  refine wpAny_call (codeAny_mono (F.go X.A X.stack s1 H1 _ us vs Q E hr hg I1.env0 bd rel q) ?_)
  rintro (er | fl) s2 h2
  · exact hx pins σ H1 s1 er s2 I1 h2
  · rcases fl with _ | _ | _ | u
    · exact h2.elim
    · exact h2.elim
    · exact h2.elim
    · exact I1.after h2
end
section
variable {P : Program} {w : World} {K : PySem.W.Frag} {mg mb : Str → Option Value} {CX : CXT} {k : Nat} {fa a : Addr} {fd : FuncData} {x : Str} {sp : Sp} {s₁ : Shared} {vs : List Value} {ns : List Int}
/-- what the top asks of the law's call -/
def Ended (s₁ : Shared) (r : Result) (s' : Shared) : Prop := r = .ok (.ret (.bool true)) ∧ OldK s₁.heap s'.heap ∧ s'.os = s₁.os ∧ AllBare s'.gens
theorem only_at {H : Hp} (hA : ∀ b, H b ≠ none → b = a) {b : Addr} {u : HO} (q : H b = some u) : b = a := hA b (fun z => by rw [q] at z; cases z)
theorem go_with {H : Hp} (KX : K.In s₁.heap) (hns : s₁.heap.Ns mainGlobals mg) (hb : s₁.heap.Ns builtinsNs mb) (hbb : ∀ x : Str, x ≠ "__name__" → mb x = bootBuiltins x) (hlim : s₁.heap.NoLimit) (hg : s₁.gens = #[])
    (ha : s₁.heap.get? a = some { cls := .type "list", data := .seq vs.toArray }) (hr : Room k callerA) (F : ∀ base : Heap, K.In base → base.Ns mainGlobals mg → GnOk P w K mg base CX k fa fd [x] sp)
    (hbind : ∀ (s : Shared) (u : Value), BindsTo s fd ⟨[u], []⟩ [(x, u)]) (hO : Only H) (hok : HOk P w H s₁.heap) (hA : ∀ b, H b ≠ none → b = a) (hK : H a ≠ none → K.lookup a = none)
    (hsp : sp [.ref a] H (fun v _ => v = .bl true) fun _ _ _ => False) (hCX : ∀ e s', CX [] H s₁ (fun _ _ _ => False) e s' → False) : codeAny (model P w) callerA (.call (.ref fa) ⟨[.ref a], []⟩) (Ended s₁) s₁ := by
  -- a dict, and what is written, is not the script: it stands in the rest too
  have dicts : ∀ {b : Addr} {m : Str → Option Value}, s₁.heap.Ns b m → (hidT s₁.heap H).Ns b m := by
    rintro b m ⟨o, es, ep, e, d, r⟩
    refine ⟨o, es, ep, hidT_get e ?_, d, r⟩
    cases q : H b with
    | none => rfl
    | some u =>
      have z := only_at hA q
      rw [z, ha] at e
      cases e
      have d2 : Data.seq vs.toArray _ = Data.dict es ep := d
      cases d2
  have written : K.In (hidT s₁.heap H) := by
    intro b o e
    refine hidT_get (KX b o e) ?_
    cases q : H b with
    | none => rfl
    | some u =>
      have z := only_at hA q
      subst z
      rw [hK (fun z => by rw [q] at z; cases z)] at e
      cases e
  obtain ⟨mc, l1, l2⟩ := hlim
  have M : Mod K mg (hidT s₁.heap H) := ⟨written, dicts hns, ⟨mb, dicts hb, hbb⟩, ⟨mc, dicts l1, l2⟩⟩
  have env0 : Env0 P w K mg (hidT s₁.heap H) callerA [] s₁ H := { frames := rfl, mod := M, bs := fun b o e => of_hidT e, bsz := Nat.le_of_eq (hidT_size _ _), funs := trivial, frf := (fun b z => by cases z), hok := hok, bare := .of_eq hg }
  have run := (F _ written (dicts hns)).go callerA [] s₁ H ⟨[.ref a], []⟩ [.ref a] [.ref a] _ _ hr rfl env0 (hbind s₁ (.ref a)) (.cons rfl .nil) hsp
  refine codeAny_mono run ?_
  rintro (e | _ | _ | _ | u) s' h
  · exact (hCX e s' h).elim
  · exact h.elim
  · exact h.elim
  · exact h.elim
  obtain ⟨v, H', os, bare, un, hok', r', q⟩ := h
  obtain rfl : v = .bl true := q
  obtain rfl : u = Value.bool true := r'
  refine ⟨rfl, OldK.of_keep ?_, os, bare⟩
  intro b o e
  cases q : H b with
  | none => exact un.keep b o e q (fun z => by cases z) (fun z => by cases z)
  | some u =>
    rcases hO b with z | ⟨ob, xs, z⟩
    · rw [q] at z
      cases z
    · obtain ⟨e1, _⟩ := hok b _ z
      obtain ⟨e2, _⟩ := hok' b _ (un.frzs b ob _ z)
      rw [e] at e1
      cases e1
      exact e2
/-- the script alone is tracked -/
def script (a : Addr) (vs : List Value) (ns : List Int) : Hp := fun b => if b = a then some (.frz { cls := .type "list", data := .seq vs.toArray } (.lst (ns.map V.int))) else Option.none
theorem script_at : script a vs ns a = some (.frz { cls := .type "list", data := .seq vs.toArray } (.lst (ns.map V.int))) := if_pos rfl
theorem script_ne {b : Addr} (h : b ≠ a) : script a vs ns b = Option.none := if_neg h
theorem law_goG (KX : K.In s₁.heap) (hns : s₁.heap.Ns mainGlobals mg) (hb : s₁.heap.Ns builtinsNs mb) (hbb : ∀ x : Str, x ≠ "__name__" → mb x = bootBuiltins x) (hlim : s₁.heap.NoLimit) (hg : s₁.gens = #[])
    (ha : s₁.heap.get? a = some { cls := .type "list", data := .seq vs.toArray }) (hi : IntsAre vs ns) (hl : ns.length ≤ sizeLine) (hr : Room k callerA) (F : ∀ base : Heap, K.In base → base.Ns mainGlobals mg → GnOk P w K mg base CX k fa fd [x] sp)
    (hbind : ∀ (s : Shared) (u : Value), BindsTo s fd ⟨[u], []⟩ [(x, u)]) (hsp : ∀ H : Hp, Only H → SqL K H a (ns.map V.int) → sp [.ref a] H (fun v _ => v = .bl true) fun _ _ _ => False)
    (hCX : ∀ H e s', CX [] H s₁ (fun _ _ _ => False) e s' → False) : codeAny (model P w) callerA (.call (.ref fa) ⟨[.ref a], []⟩) (Ended s₁) s₁ := by
  have rv := vals_ints hi
  cases hk : K.lookup a with
  | some o =>
    have e := (KX a o hk).symm.trans ha
    cases e
    have hO : Only (fun _ => Option.none) := fun _ => .inl rfl
    have hS : SqL K (fun _ => Option.none) a (ns.map V.int) := .inr ⟨_, vs.toArray, _, hk, rfl, rfl, rfl, by rw [List.size_toArray, hi.length]; exact hl, by simpa using rv⟩
    exact go_with KX hns hb hbb hlim hg ha hr F hbind hO (fun b u z => by have z' : (Option.none : Option HO) = some u := z; cases z') (fun b z => absurd rfl z) (fun z => absurd rfl z) (hsp _ hO hS) (hCX _)
  | none =>
    have hO : Only (script a vs ns) := fun b => by
      by_cases q : b = a
      · subst q
        exact .inr ⟨_, _, script_at⟩
      · exact .inl (script_ne q)
    refine go_with KX hns hb hbb hlim hg ha hr F hbind hO ?_ ?_ (fun _ => hk) (hsp _ hO (.inl (.inr ⟨_, script_at⟩))) (hCX _)
    · intro b u z
      by_cases q : b = a
      · subst q
        rw [script_at] at z
        cases z
        exact ⟨ha, by rw [List.length_map]; exact hl, vs, _, rv, ha⟩
      · rw [script_ne q] at z
        cases z
    · intro b z
      by_cases q : b = a
      · exact q
      · exact absurd (script_ne q) z
end
/-- the goal behind k_head, for a law whose def counts on it -/
theorem walk_ofG {l : PySem.W.OpenLaw} {n k : Nat} {q : Program} {loose : List Str} {XP : (Str → Option Value) → Heap → Prop} {YP : World → Heap → Prop} {d : DefRec} {K : Params → PySem.W.Frag} {CX : World → CXT} {sp : World → Sp} {x : Str}
    (hn : l.most = some n) (hn2 : n ≤ sizeLine) (hdf : d.params.defaults = []) (hr : Room k callerA) (hY : ∀ (w : World) (h : Heap), YP w h → (K w.params).In h)
    (F : ∀ (w : World) (mg : Str → Option Value) (fa : Addr) (h : Heap), (K w.params).In h → h.Ns mainGlobals mg → mg d.name = some (.ref fa) → ∃ fd : FuncData, (∀ (s : Shared) (u : Value), BindsTo s fd ⟨[u], []⟩ [(x, u)]) ∧
      ∀ base : Heap, (K w.params).In base → base.Ns mainGlobals mg → GnOk l.prog w (K w.params) mg base (CX w) k fa fd [x] (sp w))
    (hsp : ∀ (w : World) (H : Hp) (a : Addr) (ns : List Int), ns.length ≤ n → Only H → SqL (K w.params) H a (ns.map V.int) → sp w [.ref a] H (fun v _ => v = .bl true) fun _ _ _ => False)
    (hCX : ∀ (w : World) (H : Hp) (s : Shared) (e : Value) (s' : Shared), CX w [] H s (fun _ _ _ => False) e s' → False) : PySem.W.WalkO q loose XP YP l.row.toRowW d [] (fun f vs => PySem.call f vs) := by
  refine Att.attach_call hn hdf ?_
  intro w s₀ s₁ mg mb fa o pm cd doc a vs ns G Y ho hd hcd hmg hobj hints hlen hg
  obtain ⟨fd, hb, hF⟩ := F w mg fa _ (hY w _ Y) G.T.g hmg
  exact law_goG (hY w _ Y) G.T.g G.T.b G.T.builtins G.T.nolimit hg hobj hints (Nat.le_trans hlen hn2) hr hF hb (fun H h1 h2 => hsp w H a ns hlen h1 h2) (fun H e s' => hCX w H s₁ e s')
/-- for a def that nothing leaves -/
theorem gn_ok {P : Program} {w : World} {K : PySem.W.Frag} {mg : Str → Option Value} {base : Heap} {k : Nat} {x qual : Str} {st : Stmt} {f : Addr} {fd : FuncData} {N ps : List Str} {sp : Sp} (F : Fun K x qual st f fd) (S : FnScope N ps (defScope st))
    (len : ∀ vs H Q E, sp vs H Q E → vs.length = ps.length) (body : ∀ (cdv : Value) (A : Around) (outer : List Env) (s : Shared) (H : Hp) (vs : List V) (Q : VK) (E : XK), Room k (A.deeper (envOfC qual (defScope st) s.heap.objs.size f cdv)) → A.guards = some [] → sp vs H Q E →
      ∃ t, PSs (cxOf CX0 P w K mg base N qual (defScope st) f cdv A outer s H E).nox (defBody st) t ∧ t { nx := fun _ H' => Q .non H', rt := Q } (start N vs) H) : GnOk P w K mg base CX0 (k + 1) f fd ps sp :=
  gn_of F S len (fun cdv A outer s H vs Q E hr hg h => (body cdv A outer s H vs Q E hr hg h).elim fun t z => ⟨t, z.1.nox, z.2⟩)
theorem un20 {k : Nat} {A : Around} (r : Room k A) : A.units + 20 < cLine := by have := r.un; omega
/-! ### repr of data, where no object is being shown -/
def rReprD (K : PySem.W.Frag) : List V → Hp → VK → Prop := fun xs H Q => ∃ (v : V) (d : PyData), xs = [v] ∧ Dp K H v d ∧ d.showable = true ∧ d.hasDict = false ∧ d.depth ≤ 8 ∧ d.shown.length ≤ sizeLine ∧ Q (.str d.shown) H
theorem call_reprD {X : Cx} (hg : X.A.guards = some []) (hu : X.A.units + 20 < cLine) : CallR X (.builtin "repr") (rReprD X.K) := by
  intro pins s σ H xs us Q I r h
  obtain ⟨v, d, rfl, hd, h1, h2, h3, h4, q⟩ := h
  obtain ⟨u, rfl, ru⟩ := vals1 r
  obtain ⟨as, R⟩ := Dp.reads I d v u hd ru
  cases v with
  | ref a =>
    obtain rfl : u = Value.ref a := ru
    refine repr_of_reads' R h1 (fun z => by rw [h2] at z; cases z) hg (by omega) (fun _ _ z => z) (fun h' u tk hk => ?_) h4
    exact ⟨.str _, H, I.kept (t' := tk) hk, ⟨_, rfl⟩, q⟩
  | non =>
    cases hd
    cases ru
    exact PySem.P.repr_of_none ⟨.str _, H, I.tok _, ⟨_, rfl⟩, q⟩
  | bl b =>
    cases hd
    cases ru
    exact PySem.P.repr_of_bool ⟨.str _, H, I.tok _, ⟨_, rfl⟩, q⟩
  | int i =>
    cases hd
    obtain ⟨t, rfl⟩ := ru
    have hz : i.natAbs.log2 < 1920 := of_decide_eq_true h1
    exact PySem.P.repr_of_int hz ⟨.str _, H, I.tok _, ⟨_, rfl⟩, q⟩
  | str z =>
    cases hd
    obtain ⟨t, rfl⟩ := ru
    exact PySem.P.repr_of_str ⟨.str _, H, I.tok _, ⟨_, rfl⟩, q⟩ h4
  | _ => cases hd
theorem call_reprS {X : Cx} {a : Addr} {oe : Obj} {pn : List (Addr × Obj)} (hg : X.A.guards = some []) (hu : X.A.units + 20 < cLine) : CallR (X.suite a ((a, oe) :: pn)) (.builtin "repr") (rReprD X.K) := call_reprD (X := X.suite a ((a, oe) :: pn)) hg hu
/-! ### own errors: made with nothing, asked for their classes -/
section
variable {X : Cx} {C : Addr} {bmB : List Value} {B newId initId : String}
/-- X() -/
theorem pmk_own0 {x : Str} {p pos : Pos} (F : ExcBaseFacts B newId initId bmB) (q : PySem.W.excIn X.K C bmB newId = true) (gC : X.mg x = some (.ref C)) (kC : PySem.W.keepIn X.K (.ref C) = true) (r : Raises X (.ref C)) (hg : Gl X x)
    (hdb : (x == ("__debug__" : Str)) = false := by decide) : PMk X (.Call (.Name x p) [] [] pos) (fun _ H Q => Q (.ref C) none H) := by
  intro pins s σ H Q I h
  refine wpAny_Call_Name_kw (ld_glob I hg gC ?_ hdb)
  refine PySem.W.callWith_K0 I.kIn kC ?_
  obtain ⟨bm, N, nm, qn, bs, hdct, sn, sub, ab, col, dd, k0, k1, k2, k3, k5, mN, hC, hN, hni, T⟩ := exc_obj I.kIn q
  obtain ⟨hp, g, dr, tk, os⟩ := s
  refine wpAny_call_exc_subT F T hC hN hni ?_ (by decide)
  exact fun h' e hm => mk_of I hm r h (I.hok.gone hm.new)
end
/-- isinstance(e, c), e the error that the suite holds, with a dict of its own or without -/
def rIsX (K : PySem.W.Frag) (cls : Value) (a : Addr) (d : Option Addr) : List V → Hp → VK → Prop := fun xs H Q => ∃ (D : Addr) (c : V) (cv : Value) (b : Bool), xs = [.ref a, c] ∧ cls = .ref D ∧ ExcC K D ∧ (∀ u, RelV c u → u = cv) ∧
  (d = Option.none ∨ ∃ dd fs, d = some dd ∧ H dd = some (.xd fs)) ∧ PySem.W.kitOne K (.ref D) cv = some b ∧ Q (.bl b) H
theorem call_isX {X : Cx} {a : Addr} {cls : Value} {d : Option Addr} {oe : Obj} {pn : List (Addr × Obj)} (hz : Zc cls d oe) (hf : ∃ vs, oe.data = .fields vs) : CallR (X.suite a ((a, oe) :: pn)) (.builtin "isinstance") (rIsX X.K cls a d) := by
  intro pins s σ H xs us Q I r h
  obtain ⟨D, c, cv, b, rfl, rfl, C, hcv, hd, e, q⟩ := h
  obtain ⟨u1, u2, rfl, r1, r2⟩ := vals2 r
  obtain rfl : u1 = Value.ref a := r1
  obtain rfl := hcv _ r2
  obtain ⟨at_, _⟩ := I.pin (a, oe) (List.mem_append_left _ List.mem_cons_self)
  obtain ⟨vs, hv⟩ := hf
  have fin : ∀ {od : Option Obj}, PySem.W.InstAt s.heap a oe D od → wpAny (model X.prog X.w) (X.suite a ((a, oe) :: pn)).A (call (.builtin "isinstance") [.ref a, u2]) (EP (X.suite a ((a, oe) :: pn)) pins σ Q) (X.suite a ((a, oe) :: pn)).xe s := fun J =>
    PySem.W.kia_one (PySem.W.kitx_exc (PySem.W.any_some C.hd |>.elim fun _ z => by rw [z.1]; rfl) C.hg C.hk C.hs C.ha C.hn C.ht C.hm) I.kIn J e (fun z => nomatch z) fun tk => ⟨.bl b, H, I.kept (t' := tk) (fun _ _ z => z), rfl, q⟩
  have nc : PySem.W.notCls oe = true := by
    unfold PySem.W.notCls
    rw [hv] <;> rfl
  rcases hd with rfl | ⟨dd, fs, rfl, hdd⟩
  · exact fin (od := Option.none) ⟨at_, hz.1, nc, by rw [hz.2]; trivial⟩
  · obtain ⟨mA, hns, _⟩ := I.hok dd _ hdd
    obtain ⟨od, ho, _⟩ := lookIn_ns hns
    exact fin (od := some od) ⟨at_, hz.1, nc, by rw [hz.2]; exact ho⟩
theorem kit_ref {K : PySem.W.Frag} {D C : Addr} {b : Bool} (h1 : PySem.W.isClsIn K C = true) (h2 : PySem.W.typeIn K (.ref C) = some (.type "type")) (h3 : PySem.W.subIn K (.ref D) (.ref C) = some b) (h4 : D = C → b = true) : PySem.W.kitOne K (.ref D) (.ref C) = some b := by
  unfold PySem.W.kitOne
  by_cases q : (Value.ref D == Value.ref C) = true
  · rw [if_pos q, h4 (Value.ref.inj (beq_iff_eq.mp q))]
  · rw [if_neg q]
    unfold PySem.W.kitCls
    have h1' : (PySem.W.clsIn K C).isSome = true := h1
    simp only [h1', h2, beq_self_eq_true, Bool.and_self, if_true]
    exact h3
theorem kit_rty {K : PySem.W.Frag} {D : Addr} {T : String} {b : Bool} (h3 : PySem.W.subIn K (.ref D) (.type T) = some b) (h : PySem.W.kitMeta T = true) : PySem.W.kitOne K (.ref D) (.type T) = some b := by
  unfold PySem.W.kitOne
  rw [if_neg (by simp)]
  unfold PySem.W.kitCls
  simp only [h, if_true]
  exact h3
/-! ### xs[::-1], xs a list -/
section
variable {X : Cx} {e st : Expr} {te : TE} {tq : TO} {p2 pos : Pos}
def tRevL (K : PySem.W.Frag) (te : TE) (tq : TO) : TE := fun σ H Q => te σ H fun x H1 => tq σ H1 fun k H2 => ∃ a xs, k = some (-1) ∧ x = .ref a ∧ SqL K H2 a xs ∧ ∀ p, H2 p = none → Q (.ref p) (upd H2 p (.lst xs.reverse))
theorem pe_revL (he : PE X e te) (hk : PO X (some st) tq) : PE X (.Subscript e (.Slice none none (some st) p2) pos) (tRevL X.K te tq) := by
  constructor
  intro pins s σ H Q I h
  refine Subscript_ (thn (he.run pins s σ H _ I h) ?_)
  rintro v s1 ⟨x, H1, I1, r1, q1⟩
  refine wpAny_Slice ?_
  rw [evalPart_none]
  refine wpAny_pure ?_
  refine wpAny_pure (thn (hk.run pins s1 σ H1 _ I1 q1) ?_)
  rintro vk s2 ⟨k, H2, I2, pk, a, xs, rfl, rfl, hx, q⟩
  cases r1
  have J : Inv X pins σ H2 { s2 with heap := s2.heap.push { cls := .type "slice", data := .fields #[.none, .none, vk] } } := I2.kept (t' := s2.toks) (fun b ob q => Heap.get?_push_of_some _ q)
  obtain ⟨its, r, isl, hz⟩ := J.list hx
  have hlen := r.length
  have step : wpAny (model X.prog X.w) X.A (getItem (.ref a) (.ref s2.heap.objs.size)) (EP X pins σ Q) X.xe { s2 with heap := s2.heap.push { cls := .type "slice", data := .fields #[.none, .none, vk] } } := by
    refine wpAny_getItem_list_slice isl.isList (Heap.IsSliceOf.new ..) .none .none pk (by decide) ?_ (by rw [List.size_toArray]; omega)
    have er : slicePick its.toArray none none (some (-1)) = its.reverse.toArray := PySem.W.krv_pick its.toArray
    rw [er]
    refine ⟨.ref (s2.heap.push { cls := .type "slice", data := .fields #[.none, .none, vk] }).objs.size, _, J.laid (t' := s2.toks) (o := .lst xs.reverse) (fun b ob q => Heap.get?_push_of_some _ q) (Nat.le_refl _) ?_, rfl, q _ (J.hok.fresh (Nat.le_refl _))⟩
    exact ⟨by rw [List.length_reverse]; exact hz, _, 0, r.reverse, Heap.get?_push_size _ rfl⟩
  exact tail_any (ops := [.ref a, .ref s2.heap.objs.size]) isl.isList.typeIs slot_list_getitem.lookup step (by with_unfolding_all rfl)
end
theorem ix_listK {X : Cx} {K : PySem.W.Frag} (h : X.K = K) : IxR X (rIxL K) := h ▸ ix_list
theorem ix_tupK {X : Cx} {K : PySem.W.Frag} (h : X.K = K) : IxR X (rIxT K) := h ▸ ix_tup
/-! ### a list comprehension whose element may let an error out -/
section
variable {X : Cx}
theorem flying_less {B h : Heap} {C a : Addr} {l : List Env} {Z : Obj → Prop} (fl : HandSPX.FlyingZ B l a Z h) : HandSPX.FlyingZ (PySem.W.hideAll B [C]) l a Z h := by
  obtain ⟨k1, k2, k3, oe, vs, T, oT, ts, he, hz, hd, h1, hnT, r⟩ := fl
  have sub : ∀ {b : Addr}, B.get? b = none → (PySem.W.hideAll B [C]).get? b = none := fun {b} e => by
    cases q : (PySem.W.hideAll B [C]).get? b with
    | none => rfl
    | some o => rw [PySem.W.of_hideAll _ q] at e; cases e
  exact ⟨fun b o e => k1 b o (PySem.W.of_hideAll _ e), sub k2, funFrames_none k3 fun b hb => sub (k3.mem hb).1, oe, vs, T, oT, ts, he, hz, hd, h1, sub hnT, r⟩
/-- an error of a call within the block, noted by the def's own frame, flies on behind the block -/
theorem blk_note {E : XK} {cenv : Env} {s3 s s' : Shared} {H3 H : Hp} {scope : Scope} {fp : List Addr} {σ0 σ : L2.St} {pinsX pins : List (Addr × Obj)} {u : Value}
    (tk : Takes X (fun cls d _ H => E cls d H)) (hs : X.stack = X.env :: X.outer) (hf : X.env.frame = some X.env.locals) (hce : cenv.frame = X.env.frame) (I3 : Inv X pinsX σ0 H3 s3)
    (hch : ∀ b ∈ fp, (b ∈ X.ex ∨ X.s_0.heap.objs.size ≤ b) ∧ b ≠ X.env.locals ∧ (∀ x c, X.env.cells.lookup x = some c → c ≠ b) ∧ ∀ p ∈ X.pn ++ pinsX, p.1 ≠ b)
    (I : Inv (X.blk s3 H3 scope cenv fp) pins σ H s) (c : L2.CX X.prog X.w X.stack H s E u s') :
    notedBy (model X.prog X.w) X.A cenv (CompFails (model X.prog X.w) X.A X.xe cenv) u s' := by
  obtain ⟨a, B, H', cls, d, rfl, fl, hok, ub, na, os, ag, hE⟩ := c
  have hfr : X.A.frames = some (X.env :: X.outer) := by rw [I3.ok.frames, hs]
  obtain ⟨m, ⟨oL, es, ep, hoL, hdL, rL⟩, _⟩ := I.loc
  have abv : s3.heap.objs.size ≤ cenv.locals := I.ok.above
  have nC3 : ∀ b o, s3.heap.get? b = some o → b ≠ cenv.locals := fun b o e z => by
    have := Heap.lt_size e
    rw [z] at this
    exact absurd (Nat.lt_of_lt_of_le this abv) (Nat.lt_irrefl _)
  have nCs : cenv.locals ∉ frs X.stack := fun hm => by
    obtain ⟨_, o, e, _⟩ := I3.stack.mem hm
    exact nC3 _ o e rfl
  have hC0 : H cenv.locals = none := I.free
  have eB : B.get? cenv.locals = some oL := ub.keep _ oL hoL hC0 nCs
  have hC1 : H' cenv.locals = none := ub.free _ oL hoL hC0
  have toB2 : ∀ {b : Addr} {o : Obj}, B.get? b = some o → b ≠ cenv.locals → (PySem.W.hideAll B [cenv.locals]).get? b = some o := fun {b o} e n => PySem.W.hideAll_get _ e (fun hm => n (List.mem_singleton.mp hm))
  have ofB2 : ∀ {b : Addr} {o : Obj}, (PySem.W.hideAll B [cenv.locals]).get? b = some o → B.get? b = some o ∧ b ≠ cenv.locals := fun {b o} e => ⟨PySem.W.of_hideAll _ e, fun z => by
    rw [PySem.W.hideAll_none _ (List.mem_singleton.mpr z)] at e; cases e⟩
  have hok2 : HOk X.prog X.w H' (PySem.W.hideAll B [cenv.locals]) := fun b o q => (hok b o q).stay (fun c u hc r => toB2 r fun z => by
    rw [z] at hc
    rcases hc with hc | hc
    · rw [← hc, hC1] at q; cases q
    · rw [hC1] at hc; cases hc) (fun _ r => r) fun _ _ r => r
  have fl2 := flying_less (C := cenv.locals) fl
  -- the state ahead of the call, the block's names let go
  have hidS : ∀ {b : Addr} {o : Obj}, s.heap.get? b = some o → b ≠ cenv.locals → (PySem.W.hideAll s.heap [cenv.locals]).get? b = some o := fun {b o} e n => PySem.W.hideAll_get _ e (fun hm => n (List.mem_singleton.mp hm))
  have ofS : ∀ {b : Addr} {o : Obj}, (PySem.W.hideAll s.heap [cenv.locals]).get? b = some o → s.heap.get? b = some o ∧ b ≠ cenv.locals := fun {b o} e => ⟨PySem.W.of_hideAll _ e, fun z => by
    rw [PySem.W.hideAll_none _ (List.mem_singleton.mpr z)] at e; cases e⟩
  have IX : Inv X pinsX σ0 H { s with heap := PySem.W.hideAll s.heap [cenv.locals] } := by
    refine I3.call' (ch := fp) I.os ⟨fun b o e n h1 h2 => hidS (I.base.keep b o e n h1 h2) (nC3 b o e), fun b o e n h1 h2 => ?_, fun b o e n h => I.base.free b o e n h, fun b o e h => ?_, I.base.tups, I.base.frzs, I.base.tbls⟩ (fun b o q => (I.hok b o q).stay (fun c u hc r => hidS r fun z => by
      rw [z] at hc
      rcases hc with hc | hc
      · rw [← hc, hC0] at q; cases q
      · rw [hC0] at hc; cases hc) (fun _ r => r) fun _ _ r => r) I.bare hch
    · obtain ⟨sl, q⟩ := I.base.slot b o e n h1 h2
      exact ⟨sl, hidS q (nC3 b o e)⟩
    · obtain ⟨o', q⟩ := I.base.there b o e h
      exact ⟨o', hidS q (nC3 b o e)⟩
  show wpAny _ _ (noteFrame (.ref a) cenv) _ _ s'
  rw [noteFrame_env _ hce]
  have fl3 : HandSPX.FlyingZ (PySem.W.hideAll B [cenv.locals]) (X.env :: X.outer) a (Zc cls d) s'.heap := by rw [← hs]; exact fl2
  refine HandSPX.looks_onZ Zc.steady hfr hf fl3 fun h1 hh up1 => ?_
  have eC : ∃ sl, h1.get? cenv.locals = some { oL with slots := sl } := up1 _ oL (fl.1 _ _ eB) fun vs q => by rw [hdL] at q; cases q
  obtain ⟨slC, eC⟩ := eC
  refine ⟨m, ⟨_, es, ep, eC, hdL, rL⟩, fun h2 m2 hn2 hs2 => ?_⟩
  obtain ⟨g1, g2, g3, oe, vs, T, oT, ts, he, hz, hd, h11, hnT, hTe, hT, hdT, h33⟩ := hh
  have neA : a ≠ cenv.locals := fun z => by
    rw [z, eC] at he; cases he
    rw [show ({ oL with slots := slC } : Obj).data = oL.data from rfl, hdL] at hd; cases hd
  have neT : T ≠ cenv.locals := fun z => by
    rw [z, eC] at hT; cases hT
    rw [show ({ oL with slots := slC } : Obj).data = oL.data from rfl, hdL] at hdT; cases hdT
  have he2 : h2.get? a = some oe := (hs2.2 a neA).trans he
  have hT2 : h2.get? T = some oT := (hs2.2 T neT).trans hT
  have hh2 : HandSPX.HeldZ (PySem.W.hideAll B [cenv.locals]) (X.env :: X.outer) a (Zc cls d) X.env.locals h2 :=
    ⟨fun b o e => (hs2.2 b (ofB2 e).2).trans (g1 b o e), g2, Heap.FunFrames.sameBut hs2 hn2 g3, oe, vs, T, oT, ts, he2, hz, hd, h11, hnT, hTe, hT2, hdT, h33⟩
  unfold PySem.passOn
  refine wpAny_bind (wpAny_field he2 hd h11 ?_)
  rw [if_neg (show ¬ ((Value.ref T == Value.none) = true) from by simp)]
  rw [show cenv.frame = some X.env.locals from hce.trans hf]
  refine wpAny_bind (HandSPX.setFlight_onZ hh2 fun h3 hh3 up3 => ?_)
  refine wpAny_throw (tk _ _ ?_)
  have upA : ∀ b o, b ≠ cenv.locals → s'.heap.get? b = some o → (∀ vs, o.data ≠ .fields vs) → ∃ sl, h3.get? b = some { o with slots := sl } := fun b o n e nf => by
    obtain ⟨sl, q⟩ := up1 b o e nf
    obtain ⟨sl2, q2⟩ := up3 b _ ((hs2.2 b n).trans q) nf
    exact ⟨sl2, q2⟩
  obtain ⟨G, gy, gn⟩ := restrict h3 fun b => ((PySem.W.hideAll B [cenv.locals]).get? b).isSome || decide (b ∈ frs X.stack)
  have gB : ∀ b o, (PySem.W.hideAll B [cenv.locals]).get? b = some o → G.get? b = some o := fun b o e => by
    rw [gy b (by simp [e])]
    exact hh3.1 b o e
  have gF : ∀ b, b ∈ frs X.stack → G.get? b = h3.get? b := fun b hb => gy b (by simp [hb])
  have og : ∀ b o, G.get? b = some o → h3.get? b = some o ∧ (((PySem.W.hideAll B [cenv.locals]).get? b).isSome = true ∨ b ∈ frs X.stack) := fun b o e => by
    cases q : (((PySem.W.hideAll B [cenv.locals]).get? b).isSome || decide (b ∈ frs X.stack)) with
    | false => rw [gn b q] at e; cases e
    | true =>
      rw [gy b q] at e
      exact ⟨e, by simpa [Bool.or_eq_true] using q⟩
  have slF : ∀ b o, s.heap.get? b = some o → b ≠ cenv.locals → b ∈ frs X.stack → ∃ sl, G.get? b = some { o with slots := sl } := fun b o e n hb => by
    obtain ⟨sl, q⟩ := ub.slot b o e hb
    obtain ⟨_, o', e', nf⟩ := fl.2.2.1.mem hb
    rw [q] at e'; cases e'
    obtain ⟨sl2, q2⟩ := upA b _ n q nf
    exact ⟨sl2, by rw [gF b hb]; exact q2⟩
  refine ⟨a, PySem.W.hideAll B [cenv.locals], { s with heap := G, gens := s'.gens, drawn := s'.drawn, toks := s'.toks }, pinsX, σ0, H', cls, d, rfl, ?_, fun b o e hb => ?_, Heap.UpToSlots.of_keeps fun b o e => (og b o e).1, .inr (.inr (by rw [hs]; exact hh3)), na, os, ag, hE⟩
  · have J := IX.call (h' := G) (H' := H') (g' := s'.gens) (t' := s'.toks) (d' := s'.drawn) (ch := []) ⟨fun b o e n hb _ => gB b o (toB2 (ub.keep b o (ofS e).1 n hb) (ofS e).2), fun b o e n hb _ => slF b o (ofS e).1 (ofS e).2 hb, fun b o e n _ => ub.free b o (ofS e).1 n, fun b o e _ => ?_, ub.tups, ub.frzs, ub.tbls⟩ (hok2.kept gB) ag (fun _ z => nomatch z)
    · exact J
    · by_cases hb : b ∈ frs X.stack
      · obtain ⟨sl, q⟩ := slF b o (ofS e).1 (ofS e).2 hb
        exact ⟨_, q⟩
      · obtain ⟨o', q⟩ := ub.there b o (ofS e).1 hb
        exact ⟨o', gB b o' (toB2 q (ofS e).2)⟩
  · obtain ⟨e', h⟩ := og b o e
    rcases h with h | h
    · obtain ⟨o', q⟩ := Option.isSome_iff_exists.mp h
      have z := hh3.1 b o' q
      rw [e'] at z; cases z
      exact q
    · exact absurd h hb
theorem lc_coreX {E : XK} {pins : List (Addr × Obj)} {s : Shared} {σ : L2.St} {H : Hp} {Q : VK} {elt tg iter : Expr} {scope : Scope} {own : List (Str × Nat)} {pos pos' : Pos} {wi : TI} {g : TG} {te : TE} {use : Option (Value → Sem Unit)} {Qf : Value → Shared → Prop}
    (tk : Takes X (fun cls d _ H => E cls d H)) (hst : X.stack = X.env :: X.outer) (hfr : X.env.frame = some X.env.locals) (hc : X.calm = true) (hN : X.N.Nodup) (I : Inv X pins σ H s) (hi : PI X tg iter wi) (ok : BlkOk X.N X.env.scope scope own)
    (hg : ∀ (s : Shared) (H : Hp) (C : Addr) (cl : List (Str × Addr)) (fp : List Addr), PG (X.blk s H scope (compEnvC scope cl C X.env) fp) tg g)
    (he : ∀ (s : Shared) (H : Hp) (C : Addr) (cl : List (Str × Addr)) (fp : List Addr) (xe : Value → Shared → Prop), Passes (L2.CX X.prog X.w) ((X.blk s H scope (compEnvC scope cl C X.env) fp).wish xe) E → PE ((X.blk s H scope (compEnvC scope cl C X.env) fp).wish xe) elt te) (hs : ∀ x, foldedSetIterable iter X.env x = pure x)
    (h : tLc wi g tYes te (own.map (·.2)) σ H Q)
    (hRR : ∀ D C s' m H', Inv X pins σ H' s' → Q (.ref D) H' → s'.heap.Ns C m → FpOk X pins H' C → compPost (model X.prog X.w) X.A X.xe use Qf (.ref D) C (.ok .next) s') :
    wpAny (model X.prog X.w) X.A (comprehension (.ListComp elt [⟨tg, iter, [], 0⟩] scope pos) scope X.env pos' (newList []) false (eval iter X.env) use) Qf X.xe s := by
  have hfree : ∀ y ∈ scope.names, y.2 = .free → ∃ c, X.env.cells.lookup y.1 = some c := fun y hy e => (ok.free y hy e).elim (fun k => I.ok.has _ (.inl k)) (fun k => I.ok.has _ (.inr k))
  refine comprehension_at (use := use) rfl hs (closure_ok hfree) ok.kind (fun y hy e => by rw [ok.uniq y hy, e]) (thn (hi.run pins s σ H _ I h) fun xv s1 hx => thn hx fun itv s2 h2 => ?_)
  obtain ⟨it, fp, tn, J, H2, rfl, I2, T, st2, f2, q⟩ := h2
  refine wpAny_newObj_type (newEnv_comp ?_) (by show 0 ≤ sizeLine; decide)
  obtain ⟨D, hD⟩ : ∃ D, s2.heap.objs.size = D := ⟨_, rfl⟩
  obtain ⟨W, ⟨m0, w0⟩, turn⟩ := q D (I2.hok.fresh (Nat.le_of_eq hD))
  rw [hD]
  obtain ⟨s3, hs3⟩ : ∃ s3 : Shared, s3 = { s2 with heap := s2.heap.push { cls := .type "list", data := .seq ([] : List Value).toArray } } := ⟨_, rfl⟩
  have h3 : s3.heap = s2.heap.push { cls := .type "list", data := .seq ([] : List Value).toArray } := by rw [hs3]
  have I3 : Inv X pins σ (upd H2 D (.lst [])) s3 := by
    rw [hs3]
    refine I2.laid (t' := s2.toks) (fun b o e => Heap.get?_push_of_some _ e) (Nat.le_of_eq hD) ⟨Nat.zero_le _, [], 0, .nil, ?_⟩
    rw [← hD]
    exact Heap.get?_push_size _ rfl
  have f3 : ∀ b ∈ fp, FpOk X pins (upd H2 D (.lst [])) b ∧ b < s3.heap.objs.size := fun b hb => by
    obtain ⟨o, e, _⟩ := T.obj _ _ st2 b hb
    have hlt := Heap.lt_size e
    refine ⟨⟨?_, (f2 b hb).2⟩, by rw [h3, Heap.size_push]; exact Nat.lt_succ_of_lt hlt⟩
    rw [upd_ne (by rw [← hD]; exact Nat.ne_of_lt hlt)]
    exact (f2 b hb).1
  have hch : ∀ b ∈ fp, (b ∈ X.ex ∨ X.s_0.heap.objs.size ≤ b) ∧ b ≠ X.env.locals ∧ (∀ x c, X.env.cells.lookup x = some c → c ≠ b) ∧ ∀ p ∈ X.pn ++ pins, p.1 ≠ b := fun b hb => ⟨(f3 b hb).1.2.2.2.1, (f3 b hb).1.2.1, (f3 b hb).1.2.2.2.2.1, (f3 b hb).1.2.2.2.2.2⟩
  have I4 := block_start I3 ok hN f3
  rw [← hs3]
  show codeAny _ _ (.compStart (.ListComp elt [⟨tg, iter, [], 0⟩] scope pos) 0 (.ref it) (.ref D) (compEnvC scope (cellsFrom (s3.heap.objs.size + 1) scope.names (cloFrom X.env.cells scope.names [])) s3.heap.objs.size X.env)) (compEnds (model X.prog X.w) X.A X.xe use Qf (.ref D) (compEnvC scope (cellsFrom (s3.heap.objs.size + 1) scope.names (cloFrom X.env.cells scope.names [])) s3.heap.objs.size X.env)) { s3 with heap := pushCells (s3.heap.push { cls := .type "dict", data := .dict #[] }) scope.names }
  have pg := hg s3 (upd H2 D (.lst [])) s3.heap.objs.size (cellsFrom (s3.heap.objs.size + 1) scope.names (cloFrom X.env.cells scope.names [])) fp
  have pe := he s3 (upd H2 D (.lst [])) s3.heap.objs.size (cellsFrom (s3.heap.objs.size + 1) scope.names (cloFrom X.env.cells scope.names [])) fp
  obtain ⟨ce, hce⟩ : ∃ ce, ce = compEnvC scope (cellsFrom (s3.heap.objs.size + 1) scope.names (cloFrom X.env.cells scope.names [])) s3.heap.objs.size X.env := ⟨_, rfl⟩
  have cL : ce.locals = s3.heap.objs.size := by rw [hce]; rfl
  have cF : ce.frame = X.env.frame := by rw [hce]; rfl
  rw [← hce] at I4 pg pe ⊢
  have nfp : ∀ b ∈ fp, (upd H2 D (.lst [])) b = none := fun b hb => (f3 b hb).1.1
  have st4 : tn 0 (pushCells (s3.heap.push { cls := .type "dict", data := .dict #[] }) scope.names) := T.keep _ _ _ st2 fun b _ o e => pushCells_keeps _ _ _ _ (Heap.get?_push_of_some _ (by rw [h3]; exact Heap.get?_push_of_some _ e))
  have pass : Passes (L2.CX X.prog X.w) ((X.blk s3 (upd H2 D (.lst [])) scope ce fp).wish (notedBy (model X.prog X.w) X.A ce (CompFails (model X.prog X.w) X.A X.xe ce))) E := fun pins' σ' H' s' e s'' I' c' =>
    blk_note tk hst hfr cF I3 hch I'.unwish c'
  have pe := pe _ pass
  generalize upd H2 D (.lst []) = H3 at I3 I4 pg pe w0 nfp f3 pass
  have stat : ∀ {σ' : L2.St} {H' : Hp} {s' : Shared}, Inv (X.blk s3 H3 scope ce fp) [] σ' H' s' → (∀ b ∈ fp, H' b = none) → ∀ b ∈ fp, FpOk (X.blk s3 H3 scope ce fp) [] H' b := fun {σ' H' s'} I' hn b hb =>
    ⟨hn b hb, (I'.ok.exf b hb).1, I'.ok.exfs b hb, .inl hb, fun x c e => (I'.ok.exf b hb).2 x c e, fun p hp => absurd (show p ∈ ([] : List (Addr × Obj)) ++ [] from hp) (by simp)⟩
  have RE : ∀ x s', CompFails (model X.prog X.w) X.A X.xe ce x s' → compEnds (model X.prog X.w) X.A X.xe use Qf (.ref D) ce (.error x) s' := fun x s' z => by cases use <;> exact z
  have RO : ∀ s', compPost (model X.prog X.w) X.A X.xe use Qf (.ref D) ce.locals (.ok .next) s' → compEnds (model X.prog X.w) X.A X.xe use Qf (.ref D) ce (.ok .next) s' := fun s' z => by cases use <;> exact z
  have loop : ∀ s4 : Shared, Inv (X.blk s3 H3 scope ce fp) [] (wipe σ (own.map (·.2))) H3 s4 → tn 0 s4.heap → codeAny (model X.prog X.w) X.A (.compLoop (.ListComp elt [⟨tg, iter, [], 0⟩] scope pos) 0 (.ref it) (.ref D) ce) (compEnds (model X.prog X.w) X.A X.xe use Qf (.ref D) ce) s4 := by
    intro s4 I4 st4
    refine compLoop_any (fun n s' => ∃ i H', Inv (X.blk s3 H3 scope ce fp) [] (wipe σ (own.map (·.2))) H' s' ∧ tn i s'.heap ∧ (∀ b ∈ fp, H' b = none) ∧ W i n H') ?_ m0 ⟨0, H3, I4, st4, nfp, w0⟩
    rintro n s5 ⟨i, H5, I5, st5, n5, w5⟩
    rcases turn i n H5 w5 with ⟨stop, qq⟩ | ⟨go, Nx, hNx, step⟩
    · refine thnF (T.done (X.blk s3 H3 scope ce fp) rfl rfl rfl hc i [] s5 _ H5 (fun _ _ => False) I5 (stat I5 n5) st5 stop) fun r s6 ⟨hr, I6⟩ => ?_
      subst hr
      have I7 : Inv X pins σ H5 s6 := I3.call' (ch := fp) I6.os I6.base I6.hok I6.bare hch
      have nC : H5 ce.locals = none := I6.free
      obtain ⟨m, hn, _⟩ := I6.loc
      exact RO _ (hRR D ce.locals s6 m H5 I7 qq hn (by rw [cL] at nC ⊢; exact I3.fpOk (Nat.le_refl _) nC))
    · refine thnF (T.item (X.blk s3 H3 scope ce fp) rfl rfl rfl hc i [] s5 _ H5 (fun _ _ => False) I5 (stat I5 n5) st5 go) fun r s6 ⟨u, hr, h6⟩ => ?_
      subst hr
      refine thnF h6 fun _ s7 ⟨x, H7, I7, r7, y7, st7, n7⟩ => ?_
      refine thnF (pg.run _ s7 _ H7 x u _ (I7.pinned (stat I7 n7) (T.obj _ _ st7)) r7 (step x H7 y7)) fun _ s8 ⟨σ8, H8, I8, hw8, q8⟩ => ?_
      refine wpAny_tests_nil ?_
      have q8 : te σ8 H8 fun y H4 => ∃ acc, H4 D = some (.lst acc) ∧ acc.length < sizeLine ∧ Nx (upd H4 D (.lst (acc ++ [y]))) := q8
      have fin : ∀ {s' : Shared} {H' : Hp}, Inv (X.blk s3 H3 scope ce fp) ([] ++ pinsAt fp s7.heap) σ8 H' s' → Nx H' → ∃ m, m < n ∧ ∃ i H', Inv (X.blk s3 H3 scope ce fp) [] (wipe σ (own.map (·.2))) H' s' ∧ tn i s'.heap ∧ (∀ b ∈ fp, H' b = none) ∧ W i m H' := fun {s' H'} I' nx => by
        obtain ⟨m', hm, w'⟩ := hNx H' nx
        have pin' : ∀ b ∈ fp, ∀ o, s7.heap.get? b = some o → s'.heap.get? b = some o ∧ H' b = none := fun b hb o e =>
          let z := I'.pin (b, o) (List.mem_append_right _ (List.mem_append_right _ (mem_pinsAt hb e)))
          ⟨z.1, z.2.1⟩
        refine ⟨m', hm, i + 1, H', (I'.unpinned (pins := [])).weak (by rw [← hw8, wipe_length]) (fun j v e => ?_), T.keep _ _ _ st7 fun b hb o e => (pin' b hb o e).1, fun b hb => ?_, w'⟩
        · rw [← hw8] at e
          exact (wipe_some e).1
        · obtain ⟨o, e, _⟩ := T.obj _ _ st7 b hb
          exact (pin' b hb o e).2
      rw [if_pos rfl]
      refine wpAny_mono (pe.run _ s8 σ8 H8 _ (I8.wish _) q8) (fun z s10 ⟨yv, H10, I10, r10, acc, hD10, hz10, nx⟩ => ?_) (fun e s' z => wpAny_mono z (fun _ s'' y => RE e s'' y) fun _ s'' y => RE _ s'' y)
      exact app_ok (X := X.blk s3 H3 scope ce fp) I10.unwish hD10 hz10 r10 fun s11 I11 => fin I11 nx
  exact codeAny_compStart_list (loop _ I4 st4) (T.self X.A 0 _ _ _ st4 (loop _ I4 st4))
theorem pe_lcX {E : XK} {elt tg iter : Expr} {scope : Scope} {own : List (Str × Nat)} {pos : Pos} {wi : TI} {g : TG} {te : TE} (tk : Takes X (fun cls d _ H => E cls d H)) (hst : X.stack = X.env :: X.outer) (hfr : X.env.frame = some X.env.locals) (hc : X.calm = true) (hN : X.N.Nodup) (hi : PI X tg iter wi) (ok : BlkOk X.N X.env.scope scope own)
    (hg : ∀ (s : Shared) (H : Hp) (C : Addr) (cl : List (Str × Addr)) (fp : List Addr), PG (X.blk s H scope (compEnvC scope cl C X.env) fp) tg g)
    (he : ∀ (s : Shared) (H : Hp) (C : Addr) (cl : List (Str × Addr)) (fp : List Addr) (xe : Value → Shared → Prop), Passes (L2.CX X.prog X.w) ((X.blk s H scope (compEnvC scope cl C X.env) fp).wish xe) E → PE ((X.blk s H scope (compEnvC scope cl C X.env) fp).wish xe) elt te) (hs : ∀ x, foldedSetIterable iter X.env x = pure x := by intro _; rfl) :
    PE X (.ListComp elt [⟨tg, iter, [], 0⟩] scope pos) (tLc wi g tYes te (own.map (·.2))) := by
  constructor
  intro pins s σ H Q I h
  rw [eval_ListComp]
  refine lc_coreX tk hst hfr hc hN I hi ok hg he hs h fun D C s' m H' I' q hn f => ⟨m, hn, fun h'' sb => ?_⟩
  obtain ⟨f0, f1, f2, f3, f4, f5⟩ := f
  exact ⟨.ref D, H', I'.turned (t' := s'.toks) (fun b o hb e => (sb.2 b hb).trans e) f0 f1 f3 f4 f5, rfl, q⟩
theorem ps_setLcX {E : XK} {i : Nat} {y : Str} {py : Pos} {elt tg iter : Expr} {scope : Scope} {own : List (Str × Nat)} {pos spos : Pos} {wi : TI} {g : TG} {te : TE} (tk : Takes X (fun cls d _ H => E cls d H)) (hst : X.stack = X.env :: X.outer) (hfr : X.env.frame = some X.env.locals) (hc : X.calm = true) (hN : X.N.Nodup) (hy : X.N[i]? = some y) (hyl : X.env.scope.names.lookup y = some .local)
    (hsw : swapsWith (.ListComp elt [⟨tg, iter, [], 0⟩] scope pos) (some (.Name y py)) spos.line X.env = pure true) (hi : PI X tg iter wi) (ok : BlkOk X.N X.env.scope scope own)
    (hg : ∀ (s : Shared) (H : Hp) (C : Addr) (cl : List (Str × Addr)) (fp : List Addr), PG (X.blk s H scope (compEnvC scope cl C X.env) fp) tg g)
    (he : ∀ (s : Shared) (H : Hp) (C : Addr) (cl : List (Str × Addr)) (fp : List Addr) (xe : Value → Shared → Prop), Passes (L2.CX X.prog X.w) ((X.blk s H scope (compEnvC scope cl C X.env) fp).wish xe) E → PE ((X.blk s H scope (compEnvC scope cl C X.env) fp).wish xe) elt te) (hs : ∀ x, foldedSetIterable iter X.env x = pure x := by intro _; rfl) :
    PS X (.Assign [.Name y py] (.ListComp elt [⟨tg, iter, [], 0⟩] scope pos) spos) (tAsg (tLc wi g tYes te (own.map (·.2))) (gName i)) := by
  constructor
  intro pins s σ H D I h
  rw [exec_Assign_Name_used _ _ _ _ hsw]
  refine wpAny_bind (wpAny_standAt (wpAny_bind ?_))
  show wpAny _ X.A (do let _ ← comprehension (.ListComp elt [⟨tg, iter, [], 0⟩] scope pos) scope X.env (firstIterPos [⟨tg, iter, [], 0⟩] pos) (newList []) false (eval iter X.env) (some (assign (.Name y py) X.env))) _ _ s
  have h : tLc wi g tYes te (own.map (·.2)) σ H (fun x H1 => gName i x σ H1 D.nx) := h
  refine wpAny_bind (thn (lc_coreX (Qf := fun _ s' => SP X pins D .next s') tk hst hfr hc hN I hi ok hg he hs h fun L C s' m H' I' q hn f => ?_) fun _ s' hq => wpAny_pure (wpAny_pure hq))
  show wpAny _ _ (assign (.Name y py) X.env (.ref L)) _ _ _
  refine wpAny_assign_Name (store_ok2 (v := V.ref L) I' hN hy (.inl hyl) rfl (fun s2 I2 ⟨a, sb, ha⟩ => ?_) (.inr hyl))
  obtain ⟨f0, f1, f2, f3, f4, f5⟩ := f
  have haC : C ≠ a := ha.elim (fun z => by rw [z]; exact f1) (fun z e => f4 y a z e.symm)
  exact ⟨m, hn.sameBut sb haC, fun h3 sb3 => ⟨_, H', I2.turned (t' := s2.toks) (fun b o hb e => (sb3.2 b hb).trans e) f0 f1 f3 f4 f5, q⟩⟩
end
/-! ### sorted of a list of tuples of ints, of any lengths -/
section
variable {prog : Program} {w : World} {A : Around} {s : Shared}
def IsIT (h : Heap) (v : Value) (ns : List Int) : Prop := ∃ (a : Addr) (o : Obj) (its : Array Value) (n : Nat), v = .ref a ∧ h.get? a = some o ∧ o.cls = .type "tuple" ∧ o.data = .seq its n ∧ IntsAre its.toList ns
theorem IsIT.keeps {h h' : Heap} {v : Value} {ns : List Int} (x : IsIT h v ns) (k : ∀ b o, h.get? b = some o → o.cls = .type "tuple" → h'.get? b = some o) : IsIT h' v ns := by
  obtain ⟨a, o, its, n, e, ho, hc, r⟩ := x
  exact ⟨a, o, its, n, e, k a o ho hc, hc, r⟩
theorem ints_length {us : List Value} {ns : List Int} (h : IntsAre us ns) : us.length = ns.length := by
  have := (vals_of_ints h).length
  rw [List.length_map] at this
  exact this.symm
theorem kat_ints {Q : Bool → Shared → Prop} : ∀ (xs ys : List Value) (ns ms : List Int) (i : Nat), IntsAre xs ns → IntsAre ys ms → Q (HT.lexLt ns ms) s → PySem.W.KatLex prog w A true (decide (ns.length < ms.length)) Q (xs.zip ys) i s
  | [], ys, ns, ms, i, h1, h2, q => by
    cases h1
    · cases ms with
      | nil => exact PySem.W.kat_nil q
      | cons m ms => exact PySem.W.kat_nil q
  | x :: xs, [], ns, ms, i, h1, h2, q => by
    cases h2
    · cases ns with
      | nil => cases h1
      | cons n ns =>
        rw [HT.lexLt_cons_nil] at q
        exact PySem.W.kat_nil q
  | x :: xs, y :: ys, ns, ms, i, h1, h2, q => by
    cases ns with
    | nil => cases h1
    | cons n ns =>
    cases ms with
    | nil => cases h2
    | cons m ms =>
    cases h1 with
    | cons _ t h1 =>
    cases h2 with
    | cons _ u h2 =>
    rw [HT.lexLt_cons] at q
    have z : decide ((n :: ns).length < (m :: ms).length) = decide (ns.length < ms.length) := by simp
    rw [z]
    show PySem.W.KatLex prog w A true (decide (ns.length < ms.length)) Q ((.int n t, .int m u) :: xs.zip ys) i s
    refine PySem.W.kat_cons (SeqAt.EqAt.int_int n t m u prog w _ _ ?_)
    refine PySem.W.kat_go (fun e1 => ?_) (fun e1 => ?_)
    · have e : n = m := by simpa using e1
      rw [if_pos e] at q
      exact PySem.W.kat_yes (kat_ints xs ys ns ms (i + 1) h1 h2 q)
    · have e : ¬ n = m := by simpa using e1
      rw [if_neg e] at q
      refine PySem.W.kat_no ?_
      cases i with
      | zero => exact TS.oneLt_ints true q
      | succ i => exact PySem.W.kat_one _ _ (PyProof.Rows.lt_int q)
theorem it_cmp {vs : List Value} {k : Value → List Int} (hp : ∀ v ∈ vs, IsIT s.heap v (k v)) : SrtO.Cmp prog w A s (tuples' true) (fun p => p.1 ∈ vs) (SrtO.lt2 fun v u => HT.lexLt (k v) (k u)) := by
  intro p q hm hm'
  obtain ⟨a, o, its, n, e, ho, hc, hd, hi⟩ := hp _ hm
  obtain ⟨a', o', its', n', e', ho', hc', hd', hi'⟩ := hp _ hm'
  show wpAny (model prog w) A (keyLt' (tuples' true) p.1 q.1) (fun r s' => s' = s ∧ r = HT.lexLt (k p.1) (k q.1)) (fun _ _ => False) s
  rw [e, e']
  rw [e] at hi
  rw [e'] at hi'
  refine PySem.W.kat_lt ho hd ho' hd' ?_
  have l1 : its.size = (k (.ref a)).length := by rw [← Array.length_toList]; exact ints_length hi
  have l2 : its'.size = (k (.ref a')).length := by rw [← Array.length_toList]; exact ints_length hi'
  rw [l1, l2]
  exact kat_ints _ _ _ _ 0 hi hi' ⟨rfl, rfl⟩
theorem it_firsts {h : Heap} : ∀ {vs : List Value} {k : Value → List Int}, (∀ v ∈ vs, IsIT h v (k v) ∧ k v ≠ []) → ∃ fs, PySem.W.KatTups h vs fs ∧ fs.length = vs.length ∧ ∀ f ∈ fs, ∃ x t, f = .int x t
  | [], _, _ => ⟨[], trivial, rfl, fun _ h => nomatch h⟩
  | v :: vs, k, hp => by
    obtain ⟨fs, t, l, r⟩ := it_firsts (vs := vs) (k := k) fun u hu => hp u (List.mem_cons_of_mem _ hu)
    obtain ⟨⟨a, o, its, n, rfl, ho, hc, hd, hi⟩, ne⟩ := hp v (List.mem_cons_self ..)
    cases ek : k (.ref a) with
    | nil => exact absurd ek ne
    | cons m ms =>
      rw [ek] at hi
      cases ei : its.toList with
      | nil => rw [ei] at hi; cases hi
      | cons x xs =>
        rw [ei] at hi
        cases hi with
        | cons _ t' hi =>
        have h0 : its[0]? = some (.int m t') := by rw [← Array.getElem?_toList, ei]; rfl
        refine ⟨.int m t' :: fs, PySem.W.KatTups.cons ho hc hd h0 t, by simp [l], fun f hf => ?_⟩
        rcases List.mem_cons.mp hf with e | hf
        · exact ⟨m, t', e⟩
        · exact r f hf
theorem it_sortable {a : Addr} {vs : List Value} {k : Value → List Int} (h0 : 0 < vs.length) (hp : ∀ v ∈ vs, IsIT s.heap v (k v) ∧ k v ≠ []) (ha : ∀ o, s.heap.get? a = some o → o.cls ≠ .type "tuple") : SrtO.SortableO prog w A s a vs fun v u => HT.lexLt (k v) (k u) := by
  intro h' keep
  have hp' : ∀ v ∈ vs, IsIT h' v (k v) ∧ k v ≠ [] := fun v hm => ⟨(hp v hm).1.keeps fun b o e c => keep b o (fun z => by subst z; exact ha o e c) e, (hp v hm).2⟩
  obtain ⟨fs, h1, h2, h3⟩ := it_firsts hp'
  refine ⟨tuples' true, fun Q E hq => ?_, it_cmp fun v hm => (hp' v hm).1⟩
  refine PySem.W.kat_kind (T := .type "int") h1 (by omega) (fun f hm => ?_) (by rfl) ?_
  · obtain ⟨x, t, rfl⟩ := h3 f hm
    exact PySem.W.Looks.now
  · have e : (Value.type "int" != Value.type "tuple") = true := by first | decide +kernel | rfl | decide
    rw [e]
    exact hq
end
section
variable {X : Cx}
def rSortedT3 (K : PySem.W.Frag) : List V → Hp → VK → Prop := fun vs H Q => ∃ (a : Addr) (xs : List V) (k : V → List Int), vs = [V.ref a] ∧ SqL K H a xs ∧ (∀ x ∈ xs, ∃ t, x = V.ref t ∧ SqT K H t ((k x).map V.int) ∧ k x ≠ []) ∧
  ∀ ys p, SrtO.Srtd (fun v u => HT.lexLt (k v) (k u)) ys → ys.Perm xs → H p = none → Q (.ref p) (upd H p (.lst ys))
theorem cr_sortedT3 : CallR X (.builtin "sorted") (rSortedT3 X.K) := by
  intro pins s σ H vs us Q I r h
  obtain ⟨a, xs, k, rfl, hs, hx, q⟩ := h
  obtain ⟨its, rv, hl, hz⟩ := I.list hs
  obtain ⟨u, rfl, ru⟩ := vals1 r
  obtain rfl : u = Value.ref a := ru
  obtain ⟨e1, e2⟩ := refs_back rv fun x m => by
    obtain ⟨t, e, _⟩ := hx x m
    exact ⟨t, e⟩
  have hit : ∀ v ∈ its, IsIT s.heap v (k (backV v)) ∧ k (backV v) ≠ [] := fun v hv => by
    obtain ⟨t, rfl⟩ := e2 v hv
    have hm : V.ref t ∈ xs := by rw [e1]; exact List.mem_map.mpr ⟨_, hv, rfl⟩
    obtain ⟨t', e, ht, ne⟩ := hx _ hm
    cases e
    obtain ⟨its2, r2, ⟨o, ho, hc, n, hd⟩, _⟩ := I.tuple ht
    exact ⟨⟨t, o, _, n, rfl, ho, hc, hd, intsAre_of r2⟩, ne⟩
  refine SrtO.sorted_ord (NtL.swo_lexL fun u => k (backV u)) hl.isList (by rw [← rv.length]; exact hz) (fun h2 h₁ a' ha' kk => ?_) fun out h1 h2 => ?_
  · refine it_sortable (s := { s with heap := h₁ }) (by omega) (fun v hm => ⟨(hit v hm).1.keeps fun b o e _ => (kk b o e).2, (hit v hm).2⟩) fun o e => ?_
    have e' : some o = some (seqObj "list" its.toArray 0) := e.symm.trans ha'
    cases e'
    intro c
    exact absurd (Value.type.inj c) (by decide)
  · have h3 : ∀ u ∈ out, ∃ a, u = Value.ref a := fun u hu => e2 u (h2.perm.mem_iff.mp hu)
    have hp : (out.map backV).Perm xs := by rw [e1]; exact h2.perm.map _
    obtain ⟨n, hn⟩ := sortedAll_at s.heap its out.toArray
    refine ⟨.ref (s.heap.objs.size + 1), upd H (s.heap.objs.size + 1) (.lst (out.map backV)), I.laid (t' := s.toks) (fun b o e => sortedAll_old e) (Nat.le_succ _) ⟨?_, out, n, vals_back h3, hn⟩, rfl, q _ _ (SrtO.srtd_map h1) hp (I.hok.fresh (Nat.le_succ _))⟩
    rw [hp.length_eq]
    exact hz
theorem op_inDK {K : PySem.W.Frag} (h : X.K = K) (hu : X.A.units + 65 < cLine) : OpR X (compareOp .In) (rInD K) := h ▸ op_inD hu
theorem op_notInDK {K : PySem.W.Frag} (h : X.K = K) (hu : X.A.units + 65 < cLine) : OpR X (compareOp .NotIn) (rNotInD K) := h ▸ op_notInD hu
theorem call_list_ofK {K : PySem.W.Frag} (h : X.K = K) : CallR X (.type "list") (fun xs H Q => ∃ p ys, xs = [.ref p] ∧ (SqL K H p ys ∨ SqT K H p ys) ∧ ∀ l, H l = none → Q (.ref l) (upd H l (.lst ys))) := h ▸ call_list_of
end
/-! ### a def that is called while an exception is handled, and lets none out -/
section
variable {P : Program} {w : World} {K : PySem.W.Frag} {mg : Str → Option Value} {base : Heap}
structure FnS (P : Program) (w : World) (K : PySem.W.Frag) (mg : Str → Option Value) (base : Heap) (k : Nat) (f : Addr) (fd : FuncData) (ps : List Str) (sp : Sp) : Prop where
  len : ∀ vs H Q E, sp vs H Q E → vs.length = ps.length
  run : ∀ (A : Around) (outer : List Env) (s : Shared) (H : Hp) (args : Args) (us : List Value) (vs : List V) (Q : VK) (E : XK) (p : Addr × Obj), L2H.RoomH k A → L2H.PinOk outer H s p → Env0 P w K mg base A outer s H → BindsTo s fd args (ps.zip us) → Vals vs us → sp vs H Q E →
    codeAny (model P w) A (.call (.ref f) args) (CR CX0 outer P w H s Q E) s
theorem fun_okS {x qual : Str} {st : Stmt} {f : Addr} {fd : FuncData} {N ps : List Str} {k : Nat} {sp : Sp} (F : Fun K x qual st f fd) (S : FnScope N ps (defScope st)) (len : ∀ vs H Q E, sp vs H Q E → vs.length = ps.length)
    (hbody : ∀ (cdv : Value) (A : Around) (outer : List Env) (s : Shared) (H : Hp) (vs : List V) (Q : VK) (E : XK) (p : Addr × Obj), L2H.RoomH k (A.deeper (envOfC qual (defScope st) s.heap.objs.size f cdv)) → sp vs H Q E →
      ∃ t, PSs (L2H.cxH CX0 P w K mg base N qual (defScope st) f cdv A outer s H E p) (defBody st) t ∧ t { nx := fun _ H' => Q .non H', rt := Q } (L2.start N vs) H) : FnS P w K mg base (k + 1) f fd ps sp := by
  obtain ⟨oc, od, kV, doc, pm, an, cdv, ct, osl, rfl, lk, hcd⟩ := F.ex
  refine ⟨len, fun A outer s H args us vs Q E p hr hpin e0 hb r hsp => ?_⟩
  have kpb : ∀ b o, base.get? b = some o → s.heap.get? b = some o := fun b o e => (e0.bs b o e).1
  have KX : K.In s.heap := e0.mod.kin.keeps kpb
  have hkind : ∀ y ∈ ps.zip us, (defScope st).names.lookup y.1 = some .local ∨ ((defScope st).names.lookup y.1 = some .cell ∧ ((cellsFrom (s.heap.objs.size + 1) (defScope st).names []).lookup y.1).isSome = true) := fun ⟨n, v⟩ hy =>
    (S.par n (List.of_mem_zip hy).1).elim .inl fun q => .inr ⟨q, PySem.W.cellsFrom_some _ _ _ (.inl q)⟩
  refine codeAny_call_function hr.depth (KX _ _ lk) rfl S.co S.gen rfl (PySem.W.codeRec_of KX hcd) (hb _ _ _ _ ?_)
  refine wpAny_newFunctionEnv_cells S.kind hkind fun env he s1 y => ?_
  subst he
  refine ⟨(e0.mod.nolimit.keeps kpb).keeps y.toInCall.keep, codeAny_func ?_⟩
  obtain ⟨t, ht, hq⟩ := hbody cdv A outer s H vs Q E p (hr.deeper _) hsp
  refine wpAny_mono (ht.run [] s1 (L2.start N vs) H _ (L2H.inv_startH S hpin e0 (len _ _ _ _ hsp) r y) hq) (fun fl s' hs => ?_) fun e s' hs => hs
  cases fl with
  | ret u =>
    obtain ⟨v, σ', H', J, rv, q⟩ := hs
    exact ⟨v, H', J.os, J.bare, J.base, J.hok, rv, q⟩
  | next =>
    obtain ⟨σ', H', J, q⟩ := hs
    exact ⟨V.non, H', J.os, J.bare, J.base, J.hok, rfl, q⟩
  | brk =>
    obtain ⟨_, _, _, q⟩ := hs
    exact False.elim q
  | cont =>
    obtain ⟨_, _, _, q⟩ := hs
    exact False.elim q
end
section
variable {X : Cx} {k : Nat} {f : Addr} {fd : FuncData} {ps : List Str} {sp : Sp} {x : Str} {q pos : Pos} {e : Expr} {es : List Expr} {t : TA}
theorem pe_callQ (F : FnS X.prog X.w X.K X.mg X.base k f fd ps sp) (hr : L2H.RoomH k X.A) (hp : ∃ p, p ∈ X.pn) (hg : Gl X x) (hm : X.mg x = some (.ref f)) (hk : PySem.W.keepIn X.K (.ref f) = true) (hb : Binds X.K fd ps [])
    (ha : PA X (e :: es) t) (hdb : (x == ("__debug__" : Str)) = false := by decide) (he : starEach (e :: es) X.env = (false, eval e X.env) :: starEach es X.env := by rfl) (hpl : (backTo pos (starEach es X.env)).any (·.1) = false := by rfl) :
    PE X (.Call (.Name x q) (e :: es) [] pos) (tCall sp [] E0 t) := by
  constructor
  intro pins s σ H Q I h
  refine wpAny_Call_Name_kw (ld_glob I hg hm ?_ hdb)
  refine PySem.W.callWith_K (h₀ := X.base) I.ok.mod.kin hk ?_ he hpl
  refine thn (ha.run pos pins s σ H _ I h) ?_
  rintro us s1 ⟨vs, H1, I1, r, q1⟩
  refine ⟨I1.kIn, ?_⟩
  obtain ⟨p, hp⟩ := hp
  rw [List.append_nil] at q1
  have hl : us.length = ps.length := by rw [← r.length]; exact F.len _ _ _ _ q1
  have b := hb s1 us I1.kIn (by rw [List.append_nil]; exact hl)
  rw [List.append_nil] at b
  have P1 := I1.pin p (List.mem_append_left _ hp)
  have hpin : L2H.PinOk X.stack H1 s1 p := ⟨P1.1, P1.2.1, fun hm => (List.mem_cons.mp (I1.stkSub p.1 hm)).elim P1.2.2.1 P1.2.2.2.1, P1.2.2.2.2⟩
  refine wpAny_call (codeAny_mono (F.run X.A X.stack s1 H1 ⟨us, []⟩ us vs Q E0 p hr hpin I1.env0 b r q1) fun r s' hq => ?_)
  cases r with
  | error e => exact False.elim hq
  | ok fl =>
    cases fl with
    | ret u => exact I1.after hq
    | next => exact False.elim hq
    | brk => exact False.elim hq
    | cont => exact False.elim hq
end
/-! ### a label by its number -/
def num (L : List Int) : Nat → Int
  | 0 => 0
  | n + 1 => num L n * 100 + L.getD n 0
def bump (i : Int) : Int := if i % 100 = 0 then i + 1 else i
def dv (M : Int) : Nat → Int
  | 0 => M
  | n + 1 => dv M n / 100
def lsd (M : Int) : Nat → List Int
  | 0 => []
  | n + 1 => lsd M n ++ [dv M n % 100]
def least (L : List Int) (n : Nat) : Option (List Int) := if dv (bump (num L n + 1)) n = 0 then some (lsd (bump (num L n + 1)) n).reverse else none
def okHi (hi : Option (List Int)) (L : List Int) : Bool := match hi with
  | none => true
  | some h => HT.lexLt L h
def pickN (lo hi : Option (List Int)) : List Nat → Option (List Int)
  | [] => none
  | n :: r => match least (lo.getD []) n with
    | some L => if okHi hi L = true then some L else pickN lo hi r
    | none => pickN lo hi r
def btw (lo hi : Option (List Int)) : Option (List Int) := pickN lo hi [1, 2, 3]
theorem pickN_none {lo hi : Option (List Int)} {n : Nat} {r : List Nat} (h : least (lo.getD []) n = none) : pickN lo hi (n :: r) = pickN lo hi r := by
  show (match least (lo.getD []) n with | some L => if okHi hi L = true then some L else pickN lo hi r | none => pickN lo hi r) = _
  rw [h]
theorem pickN_no {lo hi : Option (List Int)} {n : Nat} {r : List Nat} {L : List Int} (h : least (lo.getD []) n = some L) (k : okHi hi L = false) : pickN lo hi (n :: r) = pickN lo hi r := by
  show (match least (lo.getD []) n with | some L => if okHi hi L = true then some L else pickN lo hi r | none => pickN lo hi r) = _
  rw [h]
  simp only [k, Bool.false_eq_true, if_false]
theorem pickN_yes {lo hi : Option (List Int)} {n : Nat} {r : List Nat} {L : List Int} (h : least (lo.getD []) n = some L) (k : okHi hi L = true) : pickN lo hi (n :: r) = some L := by
  show (match least (lo.getD []) n with | some L => if okHi hi L = true then some L else pickN lo hi r | none => pickN lo hi r) = _
  rw [h]
  simp only [k, if_true]
def ok99 (L : List Int) : Prop := ∀ i ∈ L, 0 ≤ i ∧ i ≤ 99
theorem getD_99 {L : List Int} (h : ok99 L) (n : Nat) : 0 ≤ L.getD n 0 ∧ L.getD n 0 ≤ 99 := by
  rw [List.getD_eq_getElem?_getD]
  cases e : L[n]? with
  | none => exact ⟨by decide, by decide⟩
  | some i => exact h i (List.mem_of_getElem? e)
theorem num_bd {L : List Int} (h : ok99 L) : ∀ n, 0 ≤ num L n ∧ num L n + 1 ≤ 100 ^ n
  | 0 => ⟨Int.le_refl 0, Int.le_refl 1⟩
  | n + 1 => by
    have ih := num_bd h n
    have d := getD_99 h n
    have e : (100 : Int) ^ (n + 1) = 100 ^ n * 100 := Int.pow_succ ..
    rw [e]
    show 0 ≤ num L n * 100 + L.getD n 0 ∧ num L n * 100 + L.getD n 0 + 1 ≤ _
    omega
theorem num_small {L : List Int} (h : ok99 L) {n : Nat} (hn : n ≤ 3) : 0 ≤ num L n ∧ num L n + 1 ≤ 1000000 := by
  have := num_bd h n
  have e : (100 : Int) ^ n ≤ 1000000 := by
    have : n = 0 ∨ n = 1 ∨ n = 2 ∨ n = 3 := by omega
    rcases this with rfl | rfl | rfl | rfl <;> decide
  omega
theorem bump_bd {i : Int} (h : 0 ≤ i) : i ≤ bump i ∧ bump i ≤ i + 1 := by
  unfold bump
  split <;> omega
theorem dv_nn {M : Int} (h : 0 ≤ M) : ∀ n, 0 ≤ dv M n
  | 0 => h
  | n + 1 => by
    have := dv_nn h n
    show 0 ≤ dv M n / 100
    omega
theorem dv_le {M : Int} (h : 0 ≤ M) : ∀ n, dv M n ≤ M
  | 0 => Int.le_refl _
  | n + 1 => by
    have := dv_le h n
    have := dv_nn h n
    show dv M n / 100 ≤ M
    omega
theorem lsd_len (M : Int) : ∀ n, (lsd M n).length = n
  | 0 => rfl
  | n + 1 => by
    show (lsd M n ++ [_]).length = _
    rw [List.length_append, lsd_len M n]
    rfl
/-- the law's way to the same number -/
theorem num_end {L : List Int} {n : Nat} (h : L.length ≤ n) : num L (n + 1) % 100 = 0 := by
  show (num L n * 100 + L.getD n 0) % 100 = 0
  rw [List.getD_eq_getElem?_getD, List.getElem?_eq_none h]
  show (num L n * 100 + 0) % 100 = 0
  omega
theorem bump_two {i : Int} (h : i % 100 = 0) : bump i = bump (i + 1) := by
  unfold bump
  rw [if_pos h, if_neg (by omega)]
theorem dv3 {M : Int} {n : Nat} (h : 0 ≤ M) (h1 : 1 ≤ n) (h3 : n ≤ 3) : (dv M n = 0) = ¬ ((if n = 1 then (100 : Int) else if n = 2 then 10000 else 1000000) ≤ M) := by
  apply propext
  have : n = 1 ∨ n = 2 ∨ n = 3 := by omega
  rcases this with rfl | rfl | rfl
  · show M / 100 = 0 ↔ ¬ (100 : Int) ≤ M
    omega
  · show M / 100 / 100 = 0 ↔ ¬ (10000 : Int) ≤ M
    omega
  · show M / 100 / 100 / 100 = 0 ↔ ¬ (1000000 : Int) ≤ M
    omega
theorem dv1000 {M : Int} {n : Nat} (h : 0 ≤ M) : dv M n = 0 ∨ 1 ≤ dv M n := by
  have := dv_nn h n
  omega
/-! ### data that may be a label, an end, a refused thing -/
def items : PyData → Option (List PyData)
  | .list ds => some ds
  | .tuple ds => some ds
  | _ => none
def isI : PyData → Bool
  | .int _ => true
  | _ => false
def toO : PyData → Option Int
  | .int i => if 0 ≤ i ∧ i ≤ 99 then some i else none
  | _ => none
def keptD (d : PyData) : Option (List Int) := match items d with
  | some ds => keep (ds.map toO)
  | none => none
def wI (l m : Int) : PyData → Bool
  | .int i => decide (l ≤ i ∧ i ≤ m)
  | _ => false
theorem toO_some (d : PyData) : (toO d).isSome = wI 0 99 d := by
  cases d with
  | int i =>
    show (if 0 ≤ i ∧ i ≤ 99 then some i else none).isSome = decide (0 ≤ i ∧ i ≤ 99)
    by_cases h : 0 ≤ i ∧ i ≤ 99
    · rw [if_pos h, decide_eq_true h]; rfl
    · rw [if_neg h, decide_eq_false h]; rfl
  | _ => rfl
theorem toO_ints {L : List Int} (h : ok99 L) : (L.map PyData.int).map toO = L.map some := by
  rw [List.map_map]
  exact List.map_congr_left fun i hi => if_pos (h i hi)
/-- a label may be a list too -/
def dLl (L : List Int) : PyData := .list (L.map PyData.int)
def dE (b : Bool) (o : Option (List Int)) : PyData := match o with
  | none => .none
  | some L => if b then dLl L else dL L
def okO (o : Option (List Int)) : Prop := ∀ L, o = some L → okL L
theorem kept_label_of {L : List Int} (h : okL L) (b : Bool) : keptD (dE b (some L)) = some L := by
  have e : keptD (dE b (some L)) = keep ((L.map PyData.int).map toO) := by cases b <;> rfl
  rw [e, toO_ints h.2.2, keep_ok h]
/-- what is refused -/
def Bad (d : PyData) : Prop := d ≠ .none ∧ keptD d = none
/-- what repr serves -/
def Shown (d : PyData) : Prop := d.showable = true ∧ d.hasDict = false ∧ d.depth ≤ 8 ∧ d.shown.length ≤ sizeLine
/-- no lists in it -/
def Nl : Nat → PyData → Prop
  | _, .none => True
  | _, .int _ => True
  | _, .bool _ => True
  | _, .str _ => True
  | n + 1, .tuple ds => ∀ d ∈ ds, Nl n d
  | _, _ => False
mutual
theorem dp_butN {K : PySem.W.Frag} {H H' : Hp} {a : Addr} {xs : List V} (ha : H a = some (.lst xs)) (b : But a H H') : ∀ {v : V} {d : PyData}, Dp K H v d → (∃ n, Nl n d) → Dp K H' v d
  | _, _, .non, _ => .non
  | _, _, .bl b, _ => .bl b
  | _, _, .int i, _ => .int i
  | _, _, .str x, _ => .str x
  | _, _, .lst _ _, ⟨n, h⟩ => by cases n <;> exact h.elim
  | _, _, .tup h k, ⟨0, z⟩ => z.elim
  | _, _, .tup h k, ⟨n + 1, z⟩ => .tup (seqT_but ha b h) (dpAll_butN ha b k fun d hd => ⟨n, z d hd⟩)
theorem dpAll_butN {K : PySem.W.Frag} {H H' : Hp} {a : Addr} {xs : List V} (ha : H a = some (.lst xs)) (b : But a H H') : ∀ {vs : List V} {ds : List PyData}, DpAll K H vs ds → (∀ d ∈ ds, ∃ n, Nl n d) → DpAll K H' vs ds
  | _, _, .nil, _ => .nil
  | _, _, .cons h k, z => .cons (dp_butN ha b h (z _ (List.mem_cons_self ..))) (dpAll_butN ha b k fun d hd => z d (List.mem_cons_of_mem _ hd))
end
theorem kit2_no {K : PySem.W.Frag} {t : String} (h1 : kitB t "tuple" = some false) (h2 : kitB t "list" = some false) : PySem.W.kitAny K (.type t) [.type "tuple", .type "list"] = some false :=
  kitAny_cons (kit_ty h1) (fun _ => kitAny_cons (kit_ty h2) (fun _ => rfl) (fun z => by cases z)) (fun z => by cases z)
theorem allSome_all : ∀ {os : List (Option Int)} {L : List Int}, allSome os = some L → os = L.map some
  | [], L, h => by
    cases h
    rfl
  | none :: r, L, h => by cases h
  | some i :: r, L, h => by
    unfold allSome at h
    split at h
    · rename_i L' e
      cases h
      rw [allSome_all e]
      rfl
    · cases h
theorem map_bl (ds : List PyData) : (ds.map fun d => V.bl (wI 0 99 d)) = (ds.map (wI 0 99)).map V.bl := (List.map_map ..).symm
theorem all_bl (ds : List PyData) : (ds.map (wI 0 99)).all id = ds.all (wI 0 99) := by
  rw [List.all_map]
  rfl
theorem all_ints : ∀ {ds : List PyData}, ds.all (wI 0 99) = true → ∃ L : List Int, ds = L.map PyData.int ∧ ok99 L
  | [], _ => ⟨[], rfl, fun _ h => nomatch h⟩
  | d :: r, h => by
    rw [List.all_cons, Bool.and_eq_true] at h
    obtain ⟨L, e, hL⟩ := all_ints h.2
    cases d with
    | int i =>
      have hi := of_decide_eq_true h.1
      refine ⟨i :: L, by rw [e]; rfl, fun j hj => ?_⟩
      rcases List.mem_cons.mp hj with z | z
      · rw [z]; exact hi
      · exact hL j z
    | _ => cases h.1
theorem not_all {ds : List PyData} (h : ds.all (wI 0 99) = false) : none ∈ ds.map toO := by
  obtain ⟨d, hd, e⟩ := List.all_eq_false.mp h
  refine List.mem_map.mpr ⟨d, hd, ?_⟩
  cases q : toO d with
  | none => rfl
  | some i =>
    have := toO_some d
    rw [q] at this
    exact absurd this.symm e
/-- what stands behind an own error that was made: its dict alone is new -/
theorem same_made {H0 H1 : Hp} {a dx C : Addr} {f : Str} {v : V} (s : Same H0 H1) (na : H1 a = none) (nd : upd H1 a (exo a C none) dx = none) (ne : dx ≠ a) :
    Same H0 (upd (del (upd (upd (upd H1 a (exo a C none)) dx (exd dx [(f, v)])) a (exo a C (some dx))) a) dx (.xd [(f, v)])) := fun b o e => by
  have e1 := s b o e
  have nd1 : H1 dx = none := by rw [upd_ne ne] at nd; exact nd
  have ba : b ≠ a := ne_of_none e1 na
  have bd : b ≠ dx := ne_of_none e1 nd1
  rw [upd_ne bd, del_ne ba, upd_ne ba, upd_ne bd, upd_ne ba]
  exact e1
theorem toO_bd {d : PyData} {i : Int} (h : toO d = some i) : 0 ≤ i ∧ i ≤ 99 := by
  cases d with
  | int j =>
    have h : (if 0 ≤ j ∧ j ≤ 99 then some j else none) = some i := h
    by_cases hj : 0 ≤ j ∧ j ≤ 99
    · rw [if_pos hj] at h
      cases h
      exact hj
    · rw [if_neg hj] at h
      cases h
  | _ => cases h
theorem keep_some {os : List (Option Int)} {L : List Int} (h : keep os = some L) : os = L.map some ∧ L.length ≤ 3 ∧ L.getLastD 0 ≠ 0 := by
  unfold keep at h
  cases e : allSome os with
  | none => rw [e] at h; cases h
  | some M =>
    rw [e] at h
    simp only at h
    split at h
    · rename_i hM
      cases h
      exact ⟨allSome_all e, hM⟩
    · cases h
theorem kept_okL {d : PyData} {L : List Int} (h : keptD d = some L) : okL L := by
  unfold keptD at h
  cases e : items d with
  | none => rw [e] at h; cases h
  | some ds =>
    rw [e] at h
    simp only at h
    obtain ⟨h1, h2, h3⟩ := keep_some h
    refine ⟨h2, h3, fun i hi => ?_⟩
    have : some i ∈ ds.map toO := by rw [h1]; exact List.mem_map_of_mem hi
    obtain ⟨d, _, q⟩ := List.mem_map.mp this
    exact toO_bd q
theorem kept_ok {d : PyData} {L : List Int} (h : keptD d = some L) : ok99 L ∧ L.length ≤ 3 ∧ L ≠ [] := by
  have := kept_okL h
  exact ⟨this.2.2, this.1, okL_ne this⟩
theorem cutV_to (xs : List V) (n : Nat) : cutV xs none (some (n : Int)) = xs.take n := by
  unfold cutV
  rw [HT.sIx_none, HT.sIx_nat, List.drop_zero, Nat.sub_zero]
  by_cases h : n ≤ xs.length
  · rw [Nat.min_eq_left h]
  · rw [Nat.min_eq_right (by omega), List.take_length, List.take_of_length_le (by omega)]
theorem pad_at (L : List Int) (n i : Nat) (h : i < n) : ((L ++ List.replicate n 0).take n)[i]? = some (L.getD i 0) := by
  rw [List.getElem?_take_of_lt h, List.getD_eq_getElem?_getD]
  by_cases hl : i < L.length
  · rw [List.getElem?_append_left hl, List.getElem?_eq_getElem hl]
    rfl
  · have e : L[i]? = none := List.getElem?_eq_none (by omega)
    rw [List.getElem?_append_right (by omega), e, List.getElem?_replicate, if_pos (by omega)]
    rfl
theorem pad_len (L : List Int) (n : Nat) : ((L ++ List.replicate n 0).take n).length = n := by
  rw [List.length_take, List.length_append, List.length_replicate]
  omega
theorem flat_one (n : Nat) : (List.replicate n [V.int 0]).flatten = (List.replicate n (0 : Int)).map V.int := by
  induction n with
  | zero => rfl
  | succ n ih =>
    rw [List.replicate_succ, List.flatten_cons, ih, List.replicate_succ]
    rfl
theorem num_foo (L : List Int) (n : Nat) : num L (n + 1) = num L n * 100 + L.getD n 0 := rfl
theorem dE_end {b : Bool} {o : Option (List Int)} (h : okO o) : ¬ Bad (dE b o) ∧ keptD (dE b o) = o := by
  cases o with
  | none => exact ⟨fun z => z.1 rfl, rfl⟩
  | some L =>
    have k := kept_label_of (h L rfl) b
    exact ⟨(fun z => by have z2 := z.2; rw [k] at z2; cases z2), k⟩
theorem dE_false (o : Option (List Int)) : dE false o = oD dL o := by cases o <;> rfl
theorem relRef {a : Addr} : ∀ u : Value, RelV (.ref a) u → u = .ref a := fun _ h => h
theorem relTy {s : String} : ∀ u : Value, RelV (.ty s) u → u = .type s := fun _ h => h
/-- what isinstance must know of the class -/
theorem excC_of {K : PySem.W.Frag} {D : Addr} (h1 : PySem.W.findIn K (.ref D) "__getattribute__" = some (some (.builtin "BaseException.__getattribute__"))) (h2 : PySem.W.findIn K (.ref D) "__getattr__" = some none) (h3 : PySem.W.subIn K (.ref D) (.type "BaseException") = some true)
    (h4 : PySem.W.hasDictIn K D = true) (h5 : PySem.W.findIn K (.ref D) "__class__" = some (some (.builtin "object.__class__"))) (h6 : PySem.W.specialIn K (.builtin "object.__class__") "__get__" = some (some (.builtin "getset_descriptor.__get__"))) (h7 : PySem.W.takesIn K (.builtin "object.__class__") = some true)
    (h8 : PySem.W.mroIn K D (.type "object") = some true) : ExcC K D := ⟨h1, h2, h3, h4, h5, h6, h7, h8⟩
theorem okL_snoc {R : List Int} {z : Int} (h : ok99 R) (l : R.length ≤ 2) (h1 : 1 ≤ z) (h9 : z ≤ 99) : okL (R ++ [z]) := by
  refine ⟨by rw [List.length_append]; show R.length + 1 ≤ 3; omega, ?_, fun i hi => ?_⟩
  · rw [List.getLastD_eq_getLast?, List.getLast?_append]
    show z ≠ 0
    omega
  · rcases List.mem_append.mp hi with e | e
    · exact h i e
    · rw [List.mem_singleton.mp e]; omega
theorem okL_split {L : List Int} (h : okL L) : ∃ R z, L = R ++ [z] ∧ ok99 R ∧ R.length ≤ 2 ∧ 1 ≤ z ∧ z ≤ 99 := by
  have hne := okL_ne h
  obtain ⟨R, z, rfl⟩ : ∃ R z, L = R ++ [z] := ⟨_, _, (List.dropLast_concat_getLast hne).symm⟩
  have hz := h.2.2 z (by simp)
  have hz0 : z ≠ 0 := by
    have := h.2.1
    rw [List.getLastD_eq_getLast?, List.getLast?_append] at this
    exact this
  have hl := h.1
  rw [List.length_append] at hl
  exact ⟨R, z, rfl, fun i hi => h.2.2 i (List.mem_append_left _ hi), by have : R.length + 1 ≤ 3 := hl; omega, by omega, hz.2⟩
theorem src_lst {H : Hp} {a : Addr} (s : Src H a) : ∃ xs, H a = some (.lst xs) := by
  obtain ⟨g, x, c, e⟩ := s
  exact ⟨_, e⟩
theorem sqT_src {K : PySem.W.Frag} {H H' : Hp} {a p : Addr} {ys : List V} (s : Src H a) (b : But a H H') (h : SqT K H p ys) : SqT K H' p ys := by
  obtain ⟨xs, e⟩ := src_lst s
  exact seqT_but e b h
theorem dpN_src {K : PySem.W.Frag} {H H' : Hp} {a : Addr} {v : V} {d : PyData} (s : Src H a) (b : But a H H') (h : Dp K H v d) (n : ∃ n, Nl n d) : Dp K H' v d := by
  obtain ⟨xs, e⟩ := src_lst s
  exact dp_butN e b h n
theorem nl_L (L : List Int) : ∃ n, Nl n (dL L) := ⟨1, fun d hd => by
  obtain ⟨i, _, rfl⟩ := List.mem_map.mp hd
  trivial⟩
theorem nl_O (o : Option (List Int)) : ∃ n, Nl n (oD dL o) := by
  cases o with
  | none => exact ⟨0, trivial⟩
  | some L => exact nl_L L
theorem srcN {H : Hp} {a p : Addr} (s : Src H a) (n : H p = none) (o : HO) : Src (upd H p o) a := s.put (s.ne n) o
theorem sIx_m1 (n : Nat) : HT.sIx n n (some (-1)) = n - 1 := by
  show ((-1 : Int) + (n : Int)).toNat = n - 1
  omega
theorem cut_last (xs : List V) : cutV xs none (some (-1)) = xs.dropLast := by
  unfold cutV
  rw [sIx_m1, HT.sIx_none, List.drop_zero, Nat.sub_zero, List.dropLast_eq_take]
/-! ### refused things: short, without lists -/
def Sm (B k : Nat) (d : PyData) : Prop := d.showable = true ∧ d.hasDict = false ∧ d.depth ≤ k ∧ d.shown.length ≤ B
theorem sm_all {B k : Nat} : ∀ {ds : List PyData}, (∀ d ∈ ds, Sm B k d) → PyData.showableAll ds = true ∧ PyData.hasDictAll ds = false ∧ PyData.depthAll ds ≤ k ∧ ((PyData.shownAll ds).map (·.length)).sum ≤ ds.length * B ∧ (PyData.shownAll ds).length = ds.length
  | [], _ => ⟨rfl, rfl, Nat.zero_le _, Nat.zero_le _, rfl⟩
  | d :: r, h => by
    obtain ⟨h1, h2, h3, h4⟩ := h d (List.mem_cons_self ..)
    obtain ⟨k1, k2, k3, k4, k5⟩ := sm_all fun e he => h e (List.mem_cons_of_mem _ he)
    refine ⟨?_, ?_, ?_, ?_, ?_⟩
    · show (d.showable && PyData.showableAll r) = true
      rw [h1, k1]
      rfl
    · show (d.hasDict || PyData.hasDictAll r) = false
      rw [h2, k2]
      rfl
    · show max d.depth (PyData.depthAll r) ≤ k
      omega
    · show ((d.shown :: PyData.shownAll r).map (·.length)).sum ≤ (r.length + 1) * B
      rw [List.map_cons, List.sum_cons, Nat.add_mul, Nat.one_mul]
      omega
    · show (d.shown :: PyData.shownAll r).length = r.length + 1
      rw [List.length_cons, k5]
theorem sm_tup {B k : Nat} {ds : List PyData} (hl : ds.length ≤ 5) (h : ∀ d ∈ ds, Sm B k d) : Sm (5 * B + 13) (k + 1) (.tuple ds) := by
  obtain ⟨k1, k2, k3, k4, k5⟩ := sm_all h
  refine ⟨k1, k2, Nat.succ_le_succ k3, ?_⟩
  have := tupleText_len_le (PyData.shownAll ds)
  have hm : ds.length * B ≤ 5 * B := Nat.mul_le_mul_right _ hl
  show (tupleText (PyData.shownAll ds)).length ≤ _
  omega
theorem sm_shown {B k : Nat} {d : PyData} (h : Sm B k d) (hB : B ≤ 20000) (hk : k ≤ 8) : Shown d := by
  obtain ⟨h1, h2, h3, h4⟩ := h
  refine ⟨h1, h2, by omega, ?_⟩
  rw [sizeLine_eq]
  omega
def Atom (d : PyData) : Prop := Sm 300 0 d ∧ Nl 0 d
theorem at_int {i : Int} (h : i.natAbs ≤ 200) : Atom (.int i) := by
  refine ⟨⟨decide_eq_true ?_, rfl, Nat.le_refl 0, ?_⟩, trivial⟩
  · exact Nat.lt_of_le_of_lt (Nat.log2_le_self _) (by omega)
  · have := len_str_of_int i
    show (Str.ofString (toString i)).length ≤ 300
    omega
theorem at_none : Atom .none := ⟨⟨rfl, rfl, Nat.le_refl 0, by decide +kernel⟩, trivial⟩
theorem at_true : Atom (.bool true) := ⟨⟨rfl, rfl, Nat.le_refl 0, by decide +kernel⟩, trivial⟩
theorem at_str {z : Str} (h : z.length ≤ 20) (hc : ∀ c ∈ z.cps.toList, c < 16 ^ 8) : Atom (.str z) := by
  refine ⟨⟨rfl, rfl, Nat.le_refl 0, ?_⟩, trivial⟩
  have := PySem.StrLaws.reprText_len z hc
  show (reprText z).length ≤ 300
  omega
def Od (d : PyData) : Prop := Bad d ∧ Shown d ∧ ∃ n, Nl n d
theorem od_row {ds : List PyData} (hl : ds.length ≤ 5) (ha : ∀ d ∈ ds, Atom d) (hk : keep (ds.map toO) = none) : Od (.tuple ds) :=
  ⟨⟨(fun z => nomatch z), hk⟩, sm_shown (sm_tup hl fun d hd => (ha d hd).1) (by decide) (by decide), 1, fun d hd => (ha d hd).2⟩
theorem at_ints {L : List Int} (h : ok99 L) : ∀ d ∈ L.map PyData.int, Atom d := fun d hd => by
  obtain ⟨i, hi, rfl⟩ := List.mem_map.mp hd
  have := h i hi
  exact at_int (by omega)
theorem od_rep {L : List Int} {k : Nat} {d : PyData} (hL : okL L) (hk : k < L.length) (ha : Atom d) (hn : toO d = none) : Od (.tuple (((L.take k).map PyData.int ++ [d]) ++ (L.drop (k + 1)).map PyData.int)) := by
  refine od_row ?_ (fun e he => ?_) (keep_none ?_)
  · have := hL.1
    simp only [List.length_append, List.length_map, List.length_take, List.length_drop, List.length_cons, List.length_nil]
    omega
  · rcases List.mem_append.mp he with h | h
    · rcases List.mem_append.mp h with h | h
      · exact at_ints (fun i hi => hL.2.2 i (List.mem_of_mem_take hi)) e h
      · rw [List.mem_singleton.mp h]; exact ha
    · exact at_ints (fun i hi => hL.2.2 i (List.mem_of_mem_drop hi)) e h
  · refine List.mem_map.mpr ⟨d, ?_, hn⟩
    exact List.mem_append_left _ (List.mem_append_right _ (List.mem_singleton.mpr rfl))
theorem keep_last0 {R : List Int} (h : ok99 R) : keep (((R ++ [0]).map PyData.int).map toO) = none := by
  have k0 : ok99 (R ++ [0]) := fun i hi => by
    rcases List.mem_append.mp hi with e | e
    · exact h i e
    · rw [List.mem_singleton.mp e]; exact ⟨by decide, by decide⟩
  rw [toO_ints k0, keep_map, if_neg ?_]
  rintro ⟨_, h2⟩
  apply h2
  rw [List.getLastD_eq_getLast?, List.getLast?_append]
  rfl
theorem fL_sign {L : List Int} (h : okL L) : ∀ c ∈ (fL L).cps.toList, c < 16 ^ 8 := by
  intro c hc
  have key : c ≤ 57 := by
    unfold fL at hc
    rw [TL.join_eq] at hc
    rcases (mem_join _ _ _).mp hc with ⟨t, ht, h1⟩ | ⟨_, h1⟩
    · obtain ⟨i, hi, rfl⟩ := List.mem_map.mp ht
      exact ((num_ok (h.2.2 i hi).1 (h.2.2 i hi).2).2.2.1 c h1).2
    · have e : ("." : Str).cps.toList = [46] := by decide +kernel
      rw [e] at h1
      rw [List.mem_singleton.mp h1]
      decide
  exact Nat.lt_of_le_of_lt key (by decide)
/-! ### t + u and t[i:j], told once for all ways -/
theorem cat_go {K : PySem.W.Frag} {H : Hp} {Q : VK} {a b : Addr} {xs ys : List V} (ha : SqT K H a xs) (hb : SqT K H b ys) (hl : xs.length + ys.length ≤ 1000) (h : ∀ c H', Same H H' → SqT K H' c (xs ++ ys) → Q (.ref c) H') : rCatA K (.ref a) (.ref b) H Q :=
  ⟨a, b, xs, ys, rfl, rfl, ha, hb, Nat.le_of_lt (small1000 hl), fun e => h b H (Same.refl H) (by rw [e]; exact hb), fun _ e => h a H (Same.refl H) (by rw [e, List.append_nil]; exact ha), fun _ _ p np => h p _ (same_upd np) (.inl (.inl upd_same))⟩
theorem cut_whole {xs : List V} {lo hi : Option Int} (h : HT.sIx xs.length 0 lo = 0 ∧ HT.sIx xs.length xs.length hi = xs.length) : cutV xs lo hi = xs := by
  unfold cutV
  rw [h.1, h.2, List.drop_zero, Nat.sub_zero, List.take_length]
theorem sl_go {K : PySem.W.Frag} {H : Hp} {Q : VK} {a : Addr} {xs : List V} {lo hi : Option Int} (ha : SqT K H a xs) (h : ∀ c H', Same H H' → SqT K H' c (cutV xs lo hi) → Q (.ref c) H') : rSlA K (.ref a) lo hi H Q :=
  ⟨a, xs, rfl, ha, fun e => h a H (Same.refl H) (by rw [cut_whole e]; exact ha), fun _ p np => h p _ (same_upd np) (.inl (.inl upd_same))⟩
theorem cutV_from (xs : List V) (k : Nat) : cutV xs (some (k : Int)) none = xs.drop k := by
  unfold cutV
  rw [HT.sIx_nat]
  have e : HT.sIx xs.length xs.length none = xs.length := HT.sIx_none ..
  rw [e]
  by_cases h : k ≤ xs.length
  · rw [Nat.min_eq_left h, List.take_of_length_le]
    rw [List.length_drop]
    omega
  · rw [Nat.min_eq_right (by omega), Nat.sub_self, List.take_zero, List.drop_eq_nil_of_le (by omega)]
theorem dpAll_app {K : PySem.W.Frag} {H : Hp} : ∀ {vs ws : List V} {ds es : List PyData}, DpAll K H vs ds → DpAll K H ws es → DpAll K H (vs ++ ws) (ds ++ es)
  | _, _, _, _, .nil, h => h
  | _, _, _, _, .cons k r, h => .cons k (dpAll_app r h)
/-- what the law has seen: two ends and what stands between them -/
def Elem (K : PySem.W.Frag) (H : Hp) (r : Addr) : Prop := ∃ (x y z : V) (lo hi : Option (List Int)), H r = some (.lst [x, y, z]) ∧ Dp K H x (oD dL lo) ∧ Dp K H y (oD dL hi) ∧ okO lo ∧ okO hi ∧ Dp K H z (oD dL (btw lo hi))
theorem Elem.same {K : PySem.W.Frag} {H H' : Hp} {r : Addr} (s : Same H H') (h : Elem K H r) : Elem K H' r := by
  obtain ⟨x, y, z, lo, hi, e, hx, hy, ko, kh, hz⟩ := h
  exact ⟨x, y, z, lo, hi, s _ _ e, dp_same s hx, dp_same s hy, ko, kh, dp_same s hz⟩
theorem Elem.put {K : PySem.W.Frag} {H : Hp} {r S : Addr} {ys : List V} {o : HO} (hS : H S = some (.lst ys)) (n : r ≠ S) (h : Elem K H r) : Elem K (upd H S o) r := by
  obtain ⟨x, y, z, lo, hi, e, hx, hy, ko, kh, hz⟩ := h
  exact ⟨x, y, z, lo, hi, by rw [upd_ne n]; exact e, dp_butN hS (But.upd o) hx (nl_O lo), dp_butN hS (But.upd o) hy (nl_O hi), ko, kh, dp_butN hS (But.upd o) hz (nl_O _)⟩

/-! ### rows of labels -/
def bts (Ls : List (List Int)) : List (Option (List Int)) := (Ls.zip (Ls.drop 1)).map fun p => btw (some p.1) (some p.2)
def Asc (Ls : List (List Int)) : Prop := ∀ k, 1 ≤ k → k < Ls.length → HT.lexLt (Ls.getD (k - 1) []) (Ls.getD k []) = true
theorem lexAt_shift {e r : Nat → Bool} {z : Bool} : ∀ (k i : Nat), Ob.lexAt e r z (i + 1) k = Ob.lexAt (fun j => e (j + 1)) (fun j => r (j + 1)) z i k
  | 0, _ => rfl
  | k + 1, i => by
    rw [Ob.lexAt_succ, Ob.lexAt_succ, lexAt_shift k (i + 1)]
def leI (ns ms : List Int) : Bool := Ob.lexAt (fun j => decide (ns.getD j 0 = ms.getD j 0)) (fun j => decide (ns.getD j 0 ≤ ms.getD j 0)) (decide (ns.length ≤ ms.length)) 0 (min ns.length ms.length)
theorem leI_eq : ∀ ns ms : List Int, leI ns ms = !HT.lexLt ms ns
  | [], [] => rfl
  | [], m :: ms => by
    rw [HT.lexLt_cons_nil]
    unfold leI
    rw [List.length_nil, Nat.zero_min]
    rfl
  | n :: ns, [] => by
    rw [HT.lexLt_nil_cons]
    unfold leI
    rw [List.length_nil, Nat.min_zero]
    rfl
  | n :: ns, m :: ms => by
    have ih := leI_eq ns ms
    unfold leI at ih ⊢
    rw [List.length_cons, List.length_cons, Nat.add_min_add_right, Ob.lexAt_succ, lexAt_shift, HT.lexLt_cons]
    have z : decide (ns.length + 1 ≤ ms.length + 1) = decide (ns.length ≤ ms.length) := by simp
    rw [z]
    show (if decide (n = m) = true then Ob.lexAt (fun j => decide (ns.getD j 0 = ms.getD j 0)) (fun j => decide (ns.getD j 0 ≤ ms.getD j 0)) (decide (ns.length ≤ ms.length)) 0 (min ns.length ms.length) else decide (n ≤ m)) = _
    rw [ih]
    by_cases h : n = m
    · rw [if_pos (decide_eq_true h), if_pos h.symm]
    · rw [if_neg (by simp [h]), if_neg (fun q => h q.symm)]
      by_cases h2 : n ≤ m
      · rw [decide_eq_true h2, decide_eq_false (by omega)]; rfl
      · rw [decide_eq_false h2, decide_eq_true (by omega)]; rfl
/-- over two lists, the second no longer than the first -/
theorem lc_zip2 {K : PySem.W.Frag} {a b : Addr} {xs ys : List V} {g : TG} {tt : TT} {te : TE} {vs : List Nat} {σ : L2.St} {H1 : Hp} {D : Addr} {Qd : Hp → Prop} (hlen : ys.length ≤ xs.length) (Pv : Nat → Hp → Prop) (h0 : Pv 0 (upd H1 D (.lst []))) (hl : ∀ i H, i ≤ ys.length → Pv i H → SqL K H a xs ∧ SqL K H b ys)
    (hs : ∀ i x y T H, xs[i]? = some x → ys[i]? = some y → Pv i H → H T = none → g (.ref T) (wipe σ vs) (upd H T (.tup [x, y])) fun σ2 H2 => wipe σ2 vs = wipe σ vs ∧ tt σ2 H2 fun b H3 =>
      if b = true then te σ2 H3 fun y H4 => ∃ acc, H4 D = some (.lst acc) ∧ acc.length < sizeLine ∧ Pv (i + 1) (upd H4 D (.lst (acc ++ [y]))) else Pv (i + 1) H3) (hd : ∀ H, Pv ys.length H → Qd H) :
    ∃ W : Nat → Nat → Hp → Prop, (∃ m, W 0 m (upd H1 D (.lst []))) ∧ ∀ i m H, W i m H →
      ((Itz K a b).stop i H ∧ Qd H) ∨ ((Itz K a b).go i H ∧ ∃ Nx : Hp → Prop, (∀ H', Nx H' → ∃ m', m' < m ∧ W (i + 1) m' H') ∧ ∀ x H', (Itz K a b).yld i H x H' → g x (wipe σ vs) H' fun σ2 H2 => wipe σ2 vs = wipe σ vs ∧ tt σ2 H2 fun b H3 =>
        if b = true then te σ2 H3 fun y H4 => ∃ acc, H4 D = some (.lst acc) ∧ acc.length < sizeLine ∧ Nx (upd H4 D (.lst (acc ++ [y]))) else Nx H3) := by
  refine ⟨fun i m H => m = ys.length - i ∧ i ≤ ys.length ∧ Pv i H, ⟨ys.length, rfl, Nat.zero_le _, h0⟩, ?_⟩
  rintro i m H ⟨rfl, hi, p⟩
  obtain ⟨qa, qb⟩ := hl i H hi p
  by_cases hlt : i < ys.length
  · have hx : xs[i]? = some (xs[i]'(by omega)) := List.getElem?_eq_getElem (by omega)
    have hy : ys[i]? = some ys[i] := List.getElem?_eq_getElem hlt
    refine .inr ⟨⟨xs, ys, _, _, qa, qb, hx, hy⟩, Pv (i + 1), fun H' p' => ⟨ys.length - (i + 1), by omega, rfl, hlt, p'⟩, ?_⟩
    rintro v H' ⟨T, x, y, rfl, nT, rfl, fx, fy⟩
    exact hs i x y T H (fx xs qa) (fy ys qb) p nT
  · have e : i = ys.length := by omega
    subst e
    exact .inl ⟨⟨xs, ys, qa, qb, .inr (Nat.le_refl _)⟩, hd H p⟩
theorem getD_at {α : Type} (xs : List α) {k : Nat} (h : k < xs.length) (d : α) : xs[k]? = some (xs.getD k d) := by
  rw [List.getD_eq_getElem?_getD, List.getElem?_eq_getElem h]
  rfl
theorem row_at {K : PySem.W.Frag} {H : Hp} {ys : List V} {Ls : List (List Int)} {k : Nat} (hy : DpAll K H ys (Ls.map dL)) (h : k < Ls.length) : ∃ p, ys[k]? = some (.ref p) ∧ SqT K H p ((Ls.getD k []).map V.int) := by
  obtain ⟨v, e, d⟩ := dpAll_get2 hy (i := k) (d := dL (Ls.getD k [])) (by rw [List.getElem?_map, getD_at Ls h []]; rfl)
  obtain ⟨p, rfl, hp⟩ := dL_inv d
  exact ⟨p, e, hp⟩
theorem bts_len (Ls : List (List Int)) : (bts Ls).length = Ls.length - 1 := by
  unfold bts
  rw [List.length_map, List.length_zip, List.length_drop]
  omega
theorem bts_at {Ls : List (List Int)} {i : Nat} (h : i + 1 < Ls.length) : (bts Ls)[i]? = some (btw (some (Ls.getD i [])) (some (Ls.getD (i + 1) []))) := by
  unfold bts
  rw [List.getElem?_map]
  have h1 : (Ls.zip (Ls.drop 1))[i]? = some (Ls.getD i [], Ls.getD (i + 1) []) := List.getElem?_zip_eq_some.mpr ⟨getD_at Ls (by omega) [], by
    rw [List.getElem?_drop, Nat.add_comm 1 i]
    exact getD_at Ls h []⟩
  rw [h1]
  rfl
theorem nl_Ls (Ls : List (List Int)) : ∀ d ∈ Ls.map dL, ∃ n, Nl n d := fun d hd => by
  obtain ⟨L, _, rfl⟩ := List.mem_map.mp hd
  exact nl_L L
theorem kept_dL {L : List Int} (h : okL L) : keptD (dL L) = some L := kept_label_of h false
theorem not_bad {L : List Int} (h : okL L) : ¬ Bad (dL L) := fun z => by
  have := z.2
  rw [kept_dL h] at this
  cases this
theorem okLs_of {ds : List PyData} {Ls : List (List Int)} (h : ds.map keptD = Ls.map some) : ∀ L ∈ Ls, okL L := fun L hL => by
  have : some L ∈ ds.map keptD := by rw [h]; exact List.mem_map.mpr ⟨L, hL, rfl⟩
  obtain ⟨d, _, e⟩ := List.mem_map.mp this
  exact kept_okL e
theorem mem_getD {Ls : List (List Int)} {k : Nat} (h : k < Ls.length) : Ls.getD k [] ∈ Ls := List.mem_of_getElem? (getD_at Ls h [])
theorem num_cons (x : Int) (L : List Int) : ∀ n : Nat, num (x :: L) (n + 1) = x * 100 ^ n + num L n
  | 0 => by
    show 0 * 100 + x = x * 1 + 0
    omega
  | n + 1 => by
    have ih := num_cons x L n
    show num (x :: L) (n + 1) * 100 + L.getD n 0 = x * 100 ^ (n + 1) + (num L n * 100 + L.getD n 0)
    rw [ih, Int.pow_succ, ← Int.mul_assoc, Int.add_mul]
    omega
theorem lex_of_num : ∀ (n : Nat) (L M : List Int), ok99 L → ok99 M → M.length = n → num L n < num M n → HT.lexLt L M = true
  | 0, L, M, _, _, _, h => absurd h (by show ¬ (0 : Int) < 0; omega)
  | n + 1, L, [], _, _, hl, _ => by cases hl
  | n + 1, [], m :: M, _, _, _, _ => HT.lexLt_nil_cons m M
  | n + 1, x :: L, m :: M, hL, hM, hl, h => by
    have hL' : ok99 L := fun i hi => hL i (List.mem_cons_of_mem _ hi)
    have hM' : ok99 M := fun i hi => hM i (List.mem_cons_of_mem _ hi)
    rw [num_cons, num_cons] at h
    have b1 := num_bd hL' n
    have b2 := num_bd hM' n
    rw [HT.lexLt_cons]
    by_cases e : x = m
    · rw [if_pos e]
      subst e
      exact lex_of_num n L M hL' hM' (Nat.succ.inj hl) (by omega)
    · rw [if_neg e]
      refine decide_eq_true ?_
      rcases Int.lt_or_gt_of_ne e with c | c
      · exact c
      · exfalso
        have c2 : (m + 1) * 100 ^ n ≤ x * 100 ^ n := Int.mul_le_mul_of_nonneg_right c (by omega)
        rw [Int.add_mul, Int.one_mul] at c2
        omega
theorem num_lsd (N : Int) : ∀ n : Nat, num (lsd N n).reverse n = N - dv N n * 100 ^ n
  | 0 => by
    show (0 : Int) = N - N * 1
    omega
  | n + 1 => by
    have ih := num_lsd N n
    have e : (lsd N (n + 1)).reverse = (dv N n % 100) :: (lsd N n).reverse := by
      show (lsd N n ++ [dv N n % 100]).reverse = _
      rw [List.reverse_append]
      rfl
    rw [e, num_cons, ih]
    show dv N n % 100 * 100 ^ n + (N - dv N n * 100 ^ n) = N - dv N n / 100 * 100 ^ (n + 1)
    generalize dv N n = d
    rw [show (100 : Int) ^ (n + 1) = 100 ^ n * 100 from Int.pow_succ .., ← Int.mul_assoc]
    have h : d * 100 ^ n = d / 100 * 100 ^ n * 100 + d % 100 * 100 ^ n := by
      have h1 : d = d / 100 * 100 + d % 100 := by omega
      calc d * 100 ^ n = (d / 100 * 100 + d % 100) * 100 ^ n := by rw [← h1]
        _ = d / 100 * 100 ^ n * 100 + d % 100 * 100 ^ n := by rw [Int.add_mul, Int.mul_right_comm]
    omega
theorem lsd_ok (N : Int) : ∀ n : Nat, ok99 (lsd N n)
  | 0 => fun _ h => nomatch h
  | n + 1 => fun i hi => by
    rcases List.mem_append.mp (show i ∈ lsd N n ++ [dv N n % 100] from hi) with h | h
    · exact lsd_ok N n i h
    · rw [List.mem_singleton.mp h]
      omega
theorem lsd_head (N : Int) : ∀ n : Nat, ∃ t, lsd N (n + 1) = (N % 100) :: t
  | 0 => ⟨[], rfl⟩
  | n + 1 => by
    obtain ⟨t, e⟩ := lsd_head N n
    exact ⟨t ++ [dv N (n + 1) % 100], by show lsd N (n + 1) ++ _ = _; rw [e]; rfl⟩
theorem pickN_spec {lo hi : Option (List Int)} {M : List Int} : ∀ {ns : List Nat}, pickN lo hi ns = some M → ∃ n ∈ ns, least (lo.getD []) n = some M ∧ okHi hi M = true
  | [], h => by cases h
  | n :: r, h => by
    cases e : least (lo.getD []) n with
    | none =>
      rw [pickN_none e] at h
      obtain ⟨k, hk, x⟩ := pickN_spec h
      exact ⟨k, List.mem_cons_of_mem _ hk, x⟩
    | some L =>
      cases o : okHi hi L with
      | true =>
        rw [pickN_yes e o] at h
        cases h
        exact ⟨n, List.mem_cons_self .., e, o⟩
      | false =>
        rw [pickN_no e o] at h
        obtain ⟨k, hk, x⟩ := pickN_spec h
        exact ⟨k, List.mem_cons_of_mem _ hk, x⟩
theorem btw_ok {L H M : List Int} (hL : okL L) (h : btw (some L) (some H) = some M) : okL M ∧ HT.lexLt L M = true ∧ HT.lexLt M H = true := by
  obtain ⟨n, hn, hl, ho⟩ := pickN_spec h
  have n13 : 1 ≤ n ∧ n ≤ 3 := by
    simp only [List.mem_cons, List.not_mem_nil, or_false] at hn
    omega
  have hl : least L n = some M := hl
  unfold least at hl
  have bb := num_bd hL.2.2 n
  have b2 := bump_bd (i := num L n + 1) (by omega)
  have b3 : bump (num L n + 1) % 100 ≠ 0 := by
    unfold bump
    split <;> omega
  generalize bump (num L n + 1) = N at hl b2 b3
  by_cases e : dv N n = 0
  · rw [if_pos e] at hl
    cases hl
    have hlen : (lsd N n).reverse.length = n := by rw [List.length_reverse, lsd_len]
    have h9 : ok99 (lsd N n).reverse := fun i hi => lsd_ok N n i (List.mem_reverse.mp hi)
    have hv := num_lsd N n
    rw [e] at hv
    refine ⟨⟨by omega, ?_, h9⟩, lex_of_num n L _ hL.2.2 h9 hlen (by omega), ho⟩
    obtain ⟨k, rfl⟩ : ∃ k, n = k + 1 := ⟨n - 1, by omega⟩
    obtain ⟨t, et⟩ := lsd_head N k
    rw [et, List.reverse_cons, List.getLastD_eq_getLast?, List.getLast?_append]
    exact b3
  · rw [if_neg e] at hl
    cases hl
theorem at_false : Atom (.bool false) := ⟨⟨rfl, rfl, Nat.le_refl 0, by decide +kernel⟩, trivial⟩
theorem no_kept {ds : List PyData} {Ls : List (List Int)} {i : Nat} {d : PyData} (h : ds.map keptD = Ls.map some) (e : ds[i]? = some d) (k : keptD d = none) : False := by
  have h1 : (ds.map keptD)[i]? = some none := by rw [List.getElem?_map, e]; show some (keptD d) = _; rw [k]
  rw [h, List.getElem?_map] at h1
  cases q : Ls[i]? with
  | none => rw [q] at h1; cases h1
  | some L => rw [q] at h1; cases h1
theorem some_inj : ∀ {a b : List (List Int)}, a.map some = b.map some → a = b
  | [], [], _ => rfl
  | [], _ :: _, h => by cases h
  | _ :: _, [], h => by cases h
  | x :: a, y :: b, h => by
    rw [List.map_cons, List.map_cons] at h
    have h1 := List.cons.inj h
    rw [Option.some.inj h1.1, some_inj h1.2]
theorem none_inL (os : List (Option (List Int))) : ((os.map (oD dL)).any fun z => PyData.eqv z .none) = os.any (·.isNone) := by
  induction os with
  | nil => rfl
  | cons o r ih =>
    rw [List.map_cons, List.any_cons, List.any_cons, ih]
    cases o <;> rfl
theorem no_none (Ms : List (List Int)) : (Ms.map some).any (·.isNone) = false := by
  induction Ms with
  | nil => rfl
  | cons M r ih =>
    rw [List.map_cons, List.any_cons, ih]
    rfl
theorem shaped_Os (os : List (Option (List Int))) : SeqAt.shaped (.list (os.map (oD dL))) = true := shaped_pnl (n := 1) (fun d hd => by
  obtain ⟨o, _, rfl⟩ := List.mem_map.mp hd
  exact pn_oL o) (by decide)
theorem nl_Os (os : List (Option (List Int))) : ∀ d ∈ os.map (oD dL), ∃ n, Nl n d := fun d hd => by
  obtain ⟨o, _, rfl⟩ := List.mem_map.mp hd
  exact nl_O o
theorem eqv_dL (L : List Int) : PyData.eqv (dL L) (dL L) = true := by
  show PyData.eqvAll (L.map PyData.int) (L.map PyData.int) = true
  rw [eqv_ints]
  exact decide_eq_true rfl
theorem oD_some (Ms : List (List Int)) : (Ms.map some).map (oD dL) = Ms.map dL := by
  rw [List.map_map]
  rfl

/-! ### the row as it is drawn: tuples that stand in the heap -/
def TAll (H : Hp) (ts : List Addr) (Ls : List (List Int)) : Prop := ts.length = Ls.length ∧ ∀ (i : Nat) (t : Addr), ts[i]? = some t → H t = some (.tup ((Ls.getD i []).map V.int))
theorem TAll.but {a : Addr} {H H' : Hp} {xs : List V} {ts : List Addr} {Ls : List (List Int)} (ha : H a = some (.lst xs)) (b : But a H H') (h : TAll H ts Ls) : TAll H' ts Ls :=
  ⟨h.1, fun i t e => b _ _ (fun z => by have := h.2 i t e; rw [z, ha] at this; cases this) (h.2 i t e)⟩
theorem TAll.snoc {H : Hp} {ts : List Addr} {Ls : List (List Int)} {t : Addr} {L : List Int} (h : TAll H ts Ls) (e : H t = some (.tup (L.map V.int))) : TAll H (ts ++ [t]) (Ls ++ [L]) := by
  refine ⟨by rw [List.length_append, List.length_append, h.1]; rfl, fun i u hi => ?_⟩
  rcases Nat.lt_or_ge i ts.length with c | c
  · rw [List.getElem?_append_left c] at hi
    have := h.2 i u hi
    have e2 : (Ls ++ [L]).getD i [] = Ls.getD i [] := by
      rw [List.getD_eq_getElem?_getD, List.getD_eq_getElem?_getD, List.getElem?_append_left (by rw [← h.1]; exact c)]
    rw [e2]
    exact this
  · have hl : i < (ts ++ [t]).length := (List.getElem?_eq_some_iff.mp hi).1
    rw [List.length_append] at hl
    have ei : i = ts.length := by
      have : [t].length = 1 := rfl
      omega
    subst ei
    rw [List.getElem?_append_right (Nat.le_refl _), Nat.sub_self] at hi
    cases hi
    have e2 : (Ls ++ [L]).getD ts.length [] = L := by
      rw [h.1, List.getD_eq_getElem?_getD, List.getElem?_append_right (Nat.le_refl _), Nat.sub_self]
      rfl
    rw [e2]
    exact e
def unI : V → Int
  | .int i => i
  | _ => 0
def lab (H : Hp) : V → List Int
  | .ref t => match H t with
    | some (.tup xs) => xs.map unI
    | _ => []
  | _ => []
theorem unI_map (L : List Int) : (L.map V.int).map unI = L := by
  rw [List.map_map]
  exact List.map_id L
theorem lab_of {H : Hp} {t : Addr} {L : List Int} (e : H t = some (.tup (L.map V.int))) : lab H (.ref t) = L := by
  show (match H t with | some (.tup xs) => xs.map unI | _ => []) = L
  rw [e]
  exact unI_map L
theorem TAll.labs {H : Hp} {ts : List Addr} {Ls : List (List Int)} (h : TAll H ts Ls) : (ts.map V.ref).map (lab H) = Ls := by
  apply List.ext_getElem?
  intro i
  rw [List.getElem?_map, List.getElem?_map]
  cases e : ts[i]? with
  | none =>
    have : Ls.length ≤ i := by rw [← h.1]; exact List.getElem?_eq_none_iff.mp e
    rw [List.getElem?_eq_none this]
    rfl
  | some t =>
    have hi : i < Ls.length := by rw [← h.1]; exact (List.getElem?_eq_some_iff.mp e).1
    show some (lab H (.ref t)) = _
    rw [lab_of (h.2 i t e)]
    exact (getD_at Ls hi []).symm
theorem TAll.dp {K : PySem.W.Frag} {H : Hp} : ∀ {zs : List V}, (∀ z ∈ zs, ∃ t, z = .ref t ∧ H t = some (.tup ((lab H z).map V.int))) → DpAll K H zs ((zs.map (lab H)).map dL)
  | [], _ => .nil
  | z :: r, h => by
    obtain ⟨t, rfl, e⟩ := h z (List.mem_cons_self ..)
    exact .cons (dpL (.inl (.inl e))) (TAll.dp fun y hy => h y (List.mem_cons_of_mem _ hy))
theorem TAll.mem {H : Hp} {ts : List Addr} {Ls : List (List Int)} (h : TAll H ts Ls) : ∀ z ∈ ts.map V.ref, ∃ t, z = .ref t ∧ H t = some (.tup ((lab H z).map V.int)) ∧ lab H z ∈ Ls := fun z hz => by
  obtain ⟨t, ht, rfl⟩ := List.mem_map.mp hz
  obtain ⟨i, hi, e⟩ := List.getElem_of_mem ht
  have e2 : ts[i]? = some t := by rw [← e]; exact List.getElem?_eq_getElem hi
  have e3 := h.2 i t e2
  rw [lab_of e3]
  exact ⟨t, rfl, e3, mem_getD (by rw [← h.1]; exact hi)⟩
theorem lex_tri : ∀ a b : List Int, HT.lexLt a b = false → HT.lexLt b a = false → a = b
  | [], [], _, _ => rfl
  | [], y :: ys, h, _ => by rw [HT.lexLt_nil_cons] at h; cases h
  | x :: xs, [], _, h => by rw [HT.lexLt_nil_cons] at h; cases h
  | x :: xs, y :: ys, h1, h2 => by
    rw [HT.lexLt_cons] at h1 h2
    by_cases e : x = y
    · rw [if_pos e] at h1
      rw [if_pos e.symm] at h2
      rw [e, lex_tri xs ys h1 h2]
    · rw [if_neg e] at h1
      rw [if_neg (fun z => e z.symm)] at h2
      have := of_decide_eq_false h1
      have := of_decide_eq_false h2
      omega
theorem asc_sorted {k : V → List Int} {zs : List V} (h : zs.Pairwise fun x y => HT.lexLt (k y) (k x) = false) (nd : (zs.map k).Nodup) : Asc (zs.map k) := by
  intro i h1 h2
  rw [List.length_map] at h2
  have g : ∀ j (hj : j < zs.length), (zs.map k).getD j [] = k zs[j] := fun j hj => by
    rw [List.getD_eq_getElem?_getD, List.getElem?_map, List.getElem?_eq_getElem hj]
    rfl
  rw [g i h2, g (i - 1) (by omega)]
  have p := List.pairwise_iff_getElem.mp h (i - 1) i (by omega) h2 (by omega)
  cases q : HT.lexLt (k zs[i - 1]) (k zs[i]) with
  | true => rfl
  | false =>
    have e := lex_tri _ _ q p
    have n := List.pairwise_iff_getElem.mp nd (i - 1) i (by rw [List.length_map]; omega) (by rw [List.length_map]; omega) (by omega)
    rw [List.getElem_map, List.getElem_map] at n
    exact absurd e n
theorem any_dL (L : List Int) : ∀ Ls : List (List Int), ((Ls.map dL).any fun z => PyData.eqv z (dL L)) = decide (L ∈ Ls)
  | [] => rfl
  | M :: r => by
    rw [List.map_cons, List.any_cons, any_dL L r]
    have e : PyData.eqv (dL M) (dL L) = decide (M = L) := by
      show PyData.eqvAll (M.map PyData.int) (L.map PyData.int) = _
      rw [eqv_ints]
    rw [e]
    by_cases h : M = L
    · simp [h]
    · have h2 : ¬ L = M := fun z => h z.symm
      simp [h, h2]
theorem shaped_Ls (Ls : List (List Int)) : SeqAt.shaped (.list (Ls.map dL)) = true := shaped_pnl (n := 1) (fun d hd => by
  obtain ⟨o, _, rfl⟩ := List.mem_map.mp hd
  exact pn_L o) (by decide)
theorem last_at {K : PySem.W.Frag} {H : Hp} {ys : List V} {Ls : List (List Int)} (hy : DpAll K H ys (Ls.map dL)) (h : 0 < Ls.length) : ∃ p, atI ys (-1) = some (.ref p) ∧ SqT K H p ((Ls.getD (Ls.length - 1) []).map V.int) := by
  obtain ⟨p, e, g⟩ := row_at hy (k := Ls.length - 1) (by omega)
  have yl := dpAll_len hy
  rw [List.length_map] at yl
  rcases List.eq_nil_or_concat ys with q | ⟨r, v, q⟩
  · rw [q] at yl
    have : ([] : List V).length = 0 := rfl
    omega
  · rw [List.concat_eq_append] at q
    subst q
    rw [List.length_append] at yl
    have : [v].length = 1 := rfl
    rw [List.getElem?_append_right (by omega), show Ls.length - 1 - r.length = 0 by omega] at e
    cases e
    exact ⟨p, atI_last _ _, g⟩
theorem TAll.all {K : PySem.W.Frag} {H : Hp} {ts : List Addr} {Ls : List (List Int)} (h : TAll H ts Ls) : DpAll K H (ts.map V.ref) (Ls.map dL) := by
  have := TAll.dp (K := K) (zs := ts.map V.ref) fun z hz => by
    obtain ⟨t, e, g, _⟩ := h.mem z hz
    exact ⟨t, e, g⟩
  rw [h.labs] at this
  exact this
def LAll (H : Hp) (D : Addr) : List Addr → List (List Int) → Prop
  | [], [] => True
  | l :: ls, L :: Ls => (l ≠ D ∧ H l = some (.lst (L.map V.int))) ∧ LAll H D ls Ls
  | _, _ => False
theorem LAll.len {H : Hp} {D : Addr} : ∀ {ls : List Addr} {Ls : List (List Int)}, LAll H D ls Ls → ls.length = Ls.length
  | [], [], _ => rfl
  | _ :: _, _ :: _, h => congrArg (· + 1) (LAll.len h.2)
  | [], _ :: _, h => h.elim
  | _ :: _, [], h => h.elim
theorem LAll.mono {H H' : Hp} {D : Addr} (k : ∀ b o, b ≠ D → H b = some o → H' b = some o) : ∀ {ls : List Addr} {Ls : List (List Int)}, LAll H D ls Ls → LAll H' D ls Ls
  | [], [], _ => trivial
  | _ :: _, _ :: _, h => ⟨⟨h.1.1, k _ _ h.1.1 h.1.2⟩, LAll.mono k h.2⟩
  | [], _ :: _, h => h.elim
  | _ :: _, [], h => h.elim
theorem LAll.same {H H' : Hp} {D : Addr} {ls : List Addr} {Ls : List (List Int)} (h : LAll H D ls Ls) (s : Same H H') : LAll H' D ls Ls := h.mono fun b o _ e => s b o e
theorem LAll.put {H : Hp} {D : Addr} {o : HO} {ls : List Addr} {Ls : List (List Int)} (h : LAll H D ls Ls) : LAll (upd H D o) D ls Ls := h.mono fun b u n e => by
  rw [upd_ne n]
  exact e
theorem LAll.snoc {H : Hp} {D l : Addr} {L : List Int} (n : l ≠ D) (e : H l = some (.lst (L.map V.int))) : ∀ {ls : List Addr} {Ls : List (List Int)}, LAll H D ls Ls → LAll H D (ls ++ [l]) (Ls ++ [L])
  | [], [], _ => ⟨⟨n, e⟩, trivial⟩
  | _ :: _, _ :: _, h => ⟨h.1, LAll.snoc n e h.2⟩
  | [], _ :: _, h => h.elim
  | _ :: _, [], h => h.elim
theorem LAll.dp {K : PySem.W.Frag} {H : Hp} {D : Addr} : ∀ {ls : List Addr} {Ls : List (List Int)}, LAll H D ls Ls → DpAll K H (ls.map V.ref) (Ls.map dLl)
  | [], [], _ => .nil
  | _ :: _, L :: _, h => .cons (.lst (.inl (.inl h.1.2)) (dp_ints L)) (LAll.dp h.2)
  | [], _ :: _, h => h.elim
  | _ :: _, [], h => h.elim
theorem keptDs {Ls : List (List Int)} (h : ∀ L ∈ Ls, okL L) : (Ls.map dL).map keptD = Ls.map some := by
  rw [List.map_map]
  exact List.map_congr_left fun L hL => kept_dL (h L hL)
theorem keptLs {Ls : List (List Int)} (h : ∀ L ∈ Ls, okL L) : (Ls.map dLl).map keptD = Ls.map some := by
  rw [List.map_map]
  exact List.map_congr_left fun L hL => kept_label_of (h L hL) true
theorem can_Lls : ∀ Ls : List (List Int), PyData.canLayAll0 (Ls.map dLl) = true ∧ PyData.depthAll (Ls.map dLl) ≤ 1
  | [] => ⟨rfl, Nat.zero_le _⟩
  | L :: r => by
    have ih := can_Lls r
    refine ⟨?_, ?_⟩
    · show (PyData.canLayAll0 (L.map PyData.int) && PyData.canLayAll0 (r.map dLl)) = true
      rw [can_ints, ih.1]
      rfl
    · show max (PyData.depthAll (L.map PyData.int) + 1) (PyData.depthAll (r.map dLl)) ≤ 1
      rw [depth_ints]
      have := ih.2
      omega
theorem shaped_Lls (Ls : List (List Int)) : SeqAt.shaped (.list (Ls.map dLl)) = true := by
  unfold SeqAt.shaped
  rw [Bool.and_eq_true]
  refine ⟨(can_Lls Ls).1, decide_eq_true ?_⟩
  show PyData.depthAll (Ls.map dLl) + 1 ≤ 64
  have := (can_Lls Ls).2
  omega
theorem eqv_Lls : ∀ Ls : List (List Int), PyData.eqv (.list (Ls.map dLl)) (.list (Ls.map dLl)) = true
  | [] => rfl
  | L :: r => by
    have ih : PyData.eqvAll (r.map dLl) (r.map dLl) = true := eqv_Lls r
    show (PyData.eqvAll (L.map PyData.int) (L.map PyData.int) && PyData.eqvAll (r.map dLl) (r.map dLl)) = true
    rw [eqv_ints, ih]
    simp
theorem all_somes : ∀ {os : List (Option (List Int))}, none ∉ os → ∃ Ms : List (List Int), os = Ms.map some
  | [], _ => ⟨[], rfl⟩
  | none :: r, h => absurd (List.mem_cons_self ..) h
  | some M :: r, h => by
    obtain ⟨Ms, e⟩ := all_somes (os := r) fun z => h (List.mem_cons_of_mem _ z)
    exact ⟨M :: Ms, by rw [e]; rfl⟩
theorem asc_snoc {Ns : List (List Int)} {x : List Int} {n : Nat} (h : Asc Ns) (hl : Ns.length = n + 1) (hx : HT.lexLt (Ns.getD n []) x = true) : Asc (Ns ++ [x]) := by
  intro k k1 k2
  rw [List.length_append, show [x].length = 1 from rfl] at k2
  have g : ∀ j, j < Ns.length → (Ns ++ [x]).getD j [] = Ns.getD j [] := fun j hj => by
    rw [List.getD_eq_getElem?_getD, List.getD_eq_getElem?_getD, List.getElem?_append_left hj]
  by_cases hk : k < Ns.length
  · rw [g k hk, g (k - 1) (by omega)]
    exact h k k1 hk
  · have ek : k = Ns.length := by omega
    have e2 : (Ns ++ [x]).getD Ns.length [] = x := by
      rw [List.getD_eq_getElem?_getD, List.getElem?_append_right (Nat.le_refl _), Nat.sub_self]
      rfl
    rw [g (k - 1) (by omega), ek, e2, hl]
    exact hx
theorem getD_end {Ns : List (List Int)} {x y : List Int} {n : Nat} (hl : Ns.length = n + 1) : (Ns ++ [x, y]).getD (n + 2) [] = y := by
  rw [List.getD_eq_getElem?_getD, List.getElem?_append_right (by omega), show n + 2 - Ns.length = 1 by omega]
  rfl
theorem getD_end1 {Ns : List (List Int)} {x : List Int} {n : Nat} (hl : Ns.length = n + 1) : (Ns ++ [x]).getD (n + 1) [] = x := by
  rw [List.getD_eq_getElem?_getD, List.getElem?_append_right (by omega), show n + 1 - Ns.length = 0 by omega]
  rfl
/-! ### one thing put into a row -/
theorem dpAll_take {K : PySem.W.Frag} {H : Hp} : ∀ {vs : List V} {ds : List PyData} (n : Nat), DpAll K H vs ds → DpAll K H (vs.take n) (ds.take n)
  | _, _, 0, _ => by rw [List.take_zero, List.take_zero]; exact .nil
  | _, _, _ + 1, .nil => .nil
  | _, _, n + 1, .cons h k => .cons h (dpAll_take n k)
theorem dpAll_drop {K : PySem.W.Frag} {H : Hp} : ∀ {vs : List V} {ds : List PyData} (n : Nat), DpAll K H vs ds → DpAll K H (vs.drop n) (ds.drop n)
  | _, _, 0, h => h
  | _, _, _ + 1, .nil => .nil
  | _, _, n + 1, .cons _ k => dpAll_drop n k
abbrev put1 (ys : List V) (z : Int) (o : V) : List V := (cutV ys none (some z) ++ [o]) ++ cutV ys (some z) none
theorem put1_eq {ys : List V} {z : Int} {n : Nat} {o : V} (hz : z = (n : Int)) : put1 ys z o = (ys.take n ++ [o]) ++ ys.drop n := by
  subst hz
  show (cutV ys none (some (n : Int)) ++ [o]) ++ cutV ys (some (n : Int)) none = _
  rw [cutV_to, cutV_from]
theorem put1_dp {K : PySem.W.Frag} {H : Hp} {ys : List V} {ds : List PyData} {z : Int} {n : Nat} {o : V} {d : PyData} (hz : z = (n : Int)) (h : DpAll K H ys ds) (ho : Dp K H o d) : DpAll K H (put1 ys z o) ((ds.take n ++ [d]) ++ ds.drop n) := by
  rw [put1_eq hz]
  exact dpAll_app (dpAll_app (dpAll_take n h) (.cons ho .nil)) (dpAll_drop n h)
theorem put1_len {ys : List V} {z : Int} {n : Nat} {o : V} (hz : z = (n : Int)) : (put1 ys z o).length = ys.length + 1 := by
  rw [put1_eq hz, List.length_append, List.length_append, List.length_take, List.length_drop]
  show min n ys.length + 1 + (ys.length - n) = _
  omega
theorem mid_at {α : Type} {xs : List α} {n : Nat} {o : α} (h : n ≤ xs.length) : ((xs.take n ++ [o]) ++ xs.drop n)[n]? = some o := by
  have hl : (xs.take n).length = n := by rw [List.length_take]; omega
  rw [List.getElem?_append_left (by rw [List.length_append, hl]; show n < n + 1; omega), List.getElem?_append_right (by omega), hl, Nat.sub_self]
  rfl
theorem mid_left {α : Type} {xs : List α} {n j : Nat} {o : α} (h : n ≤ xs.length) (hj : j < n) : ((xs.take n ++ [o]) ++ xs.drop n)[j]? = xs[j]? := by
  have hl : (xs.take n).length = n := by rw [List.length_take]; omega
  rw [List.getElem?_append_left (by rw [List.length_append, hl]; show j < n + 1; omega), List.getElem?_append_left (by omega), List.getElem?_take_of_lt hj]
theorem put1_at {ys : List V} {z : Int} {n : Nat} {o : V} (hz : z = (n : Int)) (h : n ≤ ys.length) : (put1 ys z o)[n]? = some o := by
  rw [put1_eq hz]
  exact mid_at h
theorem first_ok {ds : List PyData} {Ls : List (List Int)} {n : Nat} {d : PyData} (h : ds.map keptD = Ls.map some) (hn : n ≤ ds.length) : ∀ (j : Nat) e, j < n → ((ds.take n ++ [d]) ++ ds.drop n)[j]? = some e → keptD e ≠ none := fun j e hj he k => by
  rw [mid_left hn hj] at he
  exact no_kept h he k
theorem lex_irr : ∀ a : List Int, HT.lexLt a a = false
  | [] => rfl
  | x :: r => by
    rw [HT.lexLt_cons, if_pos rfl]
    exact lex_irr r
theorem lex_trans {x y z : List Int} (h1 : HT.lexLt x y = true) (h2 : HT.lexLt y z = true) : HT.lexLt x z = true := by
  cases q : HT.lexLt x z with
  | true => rfl
  | false =>
    have h3 := NtL.lex_tr y z x (NtL.lex_asym _ _ h2) q
    rw [h1] at h3
    cases h3
theorem asc_lt {Ls : List (List Int)} (h : Asc Ls) : ∀ {i j : Nat}, i < j → j < Ls.length → HT.lexLt (Ls.getD i []) (Ls.getD j []) = true
  | i, 0, h1, _ => absurd h1 (Nat.not_lt_zero _)
  | i, j + 1, h1, h2 => by
    have st := h (j + 1) (by omega) h2
    rw [Nat.add_sub_cancel] at st
    by_cases e : i = j
    · subst e
      exact st
    · exact lex_trans (asc_lt h (i := i) (j := j) (by omega) (by omega)) st
theorem getD_of {α : Type} {xs ys : List α} {i j : Nat} {d : α} (h : xs[i]? = ys[j]?) : xs.getD i d = ys.getD j d := by
  rw [List.getD_eq_getElem?_getD, List.getD_eq_getElem?_getD, h]
theorem map_mid (Ls : List (List Int)) (n : Nat) (L : List Int) : ((Ls.map dL).take n ++ [dL L]) ++ (Ls.map dL).drop n = ((Ls.take n ++ [L]) ++ Ls.drop n).map dL := by
  rw [List.map_append, List.map_append, List.map_take, List.map_drop]
  rfl
section
variable {P : Program} {w : World} {K : PySem.W.Frag} {mg : Str → Option Value} {base : Heap}
/-! ### the promises -/
def sp_BadLabel_init (K : PySem.W.Frag) (C : Addr) : Sp := fun vs H Q _ => ∃ (a : Addr) (v : V), vs = [.ref a, v] ∧ OexC K C ∧ PySem.W.findIn K (.ref C) "label" = some none ∧ H a = some (exo a C none) ∧ ∀ dx, H dx = none → dx ≠ a → Q .non (upd (upd H dx (exd dx [("label", v)])) a (exo a C (some dx)))
def sp_is_integer (K : PySem.W.Frag) : Sp := fun vs H Q _ => ∃ (v : V) (d : PyData), vs = [v] ∧ Dp K H v d ∧ Q (.bl (isI d)) H
def sp_is_within (K : PySem.W.Frag) : Sp := fun vs H Q _ => ∃ (v : V) (d : PyData) (l m : Int), vs = [v, .int l, .int m] ∧ Dp K H v d ∧ Q (.bl (wI l m d)) H
def sp_is_tuple (K : PySem.W.Frag) : Sp := fun vs H Q _ => ∃ (v : V) (d : PyData), vs = [v] ∧ Dp K H v d ∧ ∀ H', Same H H' → Q (.bl (items d).isSome) H'
def sz (l m : Int) (d : PyData) : Bool := match items d with
  | some ds => decide (l ≤ (ds.length : Int) ∧ (ds.length : Int) ≤ m)
  | none => false
def sp_is_sized (K : PySem.W.Frag) : Sp := fun vs H Q _ => ∃ (v : V) (d : PyData) (l m : Int), vs = [v, .int l, .int m] ∧ Dp K H v d ∧ ∀ H', Same H H' → Q (.bl (sz l m d)) H'
def sp_kept_label (K : PySem.W.Frag) : Sp := fun vs H Q _ => ∃ (v : V) (d : PyData), vs = [v] ∧ Dp K H v d ∧ ∀ y H', Same H H' → Dp K H' y (oD dL (keptD d)) → Q y H'
def sp_judged_label (K : PySem.W.Frag) (C : Addr) : Sp := fun vs H Q E => ∃ (v : V) (d : PyData), vs = [v] ∧ Dp K H v d ∧
  (keptD d = none → ∀ H' dd, Same H H' → H' dd = some (.xd [("label", v)]) → E (.ref C) (some dd) H') ∧ (∀ L, keptD d = some L → ∀ y H', Same H H' → Dp K H' y (dL L) → Q y H')
/-- the first of the two that is bad; else what stands between them -/
def sp_between (K : PySem.W.Frag) (CB CN : Addr) : Sp := fun vs H Q E => ∃ (x y : V) (dx dy : PyData), vs = [x, y] ∧ Dp K H x dx ∧ Dp K H y dy ∧
  (Bad dx → ∀ H' dd, Same H H' → H' dd = some (.xd [("label", x)]) → E (.ref CB) (some dd) H') ∧
  (¬ Bad dx → Bad dy → ∀ H' dd, Same H H' → H' dd = some (.xd [("label", y)]) → E (.ref CB) (some dd) H') ∧
  (¬ Bad dx → ¬ Bad dy → btw (keptD dx) (keptD dy) = none → ∀ H', Same H H' → E (.ref CN) none H') ∧
  (¬ Bad dx → ¬ Bad dy → ∀ L, btw (keptD dx) (keptD dy) = some L → ∀ v H', Same H H' → Dp K H' v (dL L) → Q v H')
def sp_least_above (K : PySem.W.Frag) : Sp := fun vs H Q _ => ∃ (v : V) (o : Option (List Int)) (n : Nat), vs = [v, .int n] ∧ Dp K H v (oD dL o) ∧ (∀ L, o = some L → ok99 L ∧ L.length ≤ 3 ∧ L ≠ []) ∧ 1 ≤ n ∧ n ≤ 3 ∧ ∀ y H', Same H H' → Dp K H' y (oD dL (least (o.getD []) n)) → Q y H'
def sp_source (K : PySem.W.Frag) : Sp := fun vs H Q _ => ∃ (a : Addr) (ns : List Int) (k : Nat), vs = [.ref a, .int k] ∧ SqL K H a (ns.map V.int) ∧ ∀ p H', Same H H' → H p = none → Src H' p → Q (.ref p) H'
def sp_pick (K : PySem.W.Frag) : Sp := fun vs H Q _ => ∃ (a : Addr) (m : Int), vs = [.ref a, .int m] ∧ Src H a ∧ 1 ≤ m ∧ m ≤ 1000000 ∧ ∀ r H', Src H' a → But a H H' → 0 ≤ r → r < m → Q (.int r) H'
def sp_law_is_integer (K : PySem.W.Frag) : Sp := fun vs H Q _ => ∃ i : Int, vs = [.int i] ∧ Q (.bl true) H
def sp_figure (K : PySem.W.Frag) : Sp := fun vs H Q _ => ∃ (a : Addr) (l : Int), vs = [.ref a, .int l] ∧ Src H a ∧ 0 ≤ l ∧ l ≤ 1 ∧ ∀ r H', Src H' a → But a H H' → l ≤ r → r ≤ 99 → Q (.int r) H'
def sp_label (K : PySem.W.Frag) : Sp := fun vs H Q _ => ∃ a : Addr, vs = [.ref a] ∧ Src H a ∧ ∀ (t : Addr) (L : List Int) H', Src H' a → But a H H' → H' t = some (.tup (L.map V.int)) → okL L → Q (.ref t) H'
def sp_BadOrder_init (K : PySem.W.Frag) (C : Addr) : Sp := fun vs H Q _ => ∃ (a : Addr) (v : V), vs = [.ref a, v] ∧ OexC K C ∧ PySem.W.findIn K (.ref C) "place" = some none ∧ H a = some (exo a C none) ∧ ∀ dx, H dx = none → dx ≠ a → Q .non (upd (upd H dx (exd dx [("place", v)])) a (exo a C (some dx)))
/-- the first that is no label; the first that does not come behind the one ahead of it; a pair that nothing stands between; else what stands between -/
def sp_neighbours (K : PySem.W.Frag) (CB CO CN : Addr) : Sp := fun vs H Q E => ∃ (a : Addr) (xs : List V) (ds : List PyData), vs = [.ref a] ∧ (SqL K H a xs ∨ SqT K H a xs) ∧ DpAll K H xs ds ∧ xs.length ≤ 100 ∧
  (∀ (i : Nat) v d, xs[i]? = some v → ds[i]? = some d → keptD d = none → (∀ (j : Nat) e, j < i → ds[j]? = some e → keptD e ≠ none) → ∀ H' dd, Same H H' → H' dd = some (.xd [("label", v)]) → E (.ref CB) (some dd) H') ∧
  (∀ Ls : List (List Int), ds.map keptD = Ls.map some →
    (∀ k : Nat, 1 ≤ k → k < Ls.length → HT.lexLt (Ls.getD (k - 1) []) (Ls.getD k []) = false → (∀ j : Nat, 1 ≤ j → j < k → HT.lexLt (Ls.getD (j - 1) []) (Ls.getD j []) = true) → ∀ H' dd, Same H H' → H' dd = some (.xd [("place", .int k)]) → E (.ref CO) (some dd) H') ∧
    (Asc Ls → (none ∈ bts Ls → ∀ H', Same H H' → E (.ref CN) none H') ∧ (∀ Ms : List (List Int), bts Ls = Ms.map some → ∀ p ys H', Same H H' → SqT K H' p ys → DpAll K H' ys (Ms.map dL) → Q (.ref p) H')))
def sp_behind (K : PySem.W.Frag) : Sp := fun vs H Q _ => ∃ (a : Addr) (v : V) (L : List Int), vs = [.ref a, v] ∧ Src H a ∧ Dp K H v (dL L) ∧ okL L ∧ ∀ (t : Addr) (M : List Int) H', Src H' a → But a H H' → H' t = some (.tup (M.map V.int)) → okL M → Q (.ref t) H'
def sp_odd (K : PySem.W.Frag) : Sp := fun vs H Q _ => ∃ (a : Addr) (v : V) (L : List Int), vs = [.ref a, v] ∧ Src H a ∧ Dp K H v (dL L) ∧ okL L ∧ ∀ y (d : PyData) H', Src H' a → But a H H' → Dp K H' y d → keptD d = none → Shown d → (∃ n, Nl n d) → Q y H'
def sp_least (K : PySem.W.Frag) : Sp := fun vs H Q _ => ∃ (v : V) (L : List Int) (n : Nat), vs = [v, .int n] ∧ Dp K H v (dL L) ∧ ok99 L ∧ L.length ≤ 3 ∧ 1 ≤ n ∧ n ≤ 3 ∧ ∀ y H', Same H H' → Dp K H' y (oD dL (least L n)) → Q y H'
def sp_law (K : PySem.W.Frag) : Sp := fun vs H Q _ => ∃ (a : Addr) (ns : List Int), vs = [.ref a] ∧ SqL K H a (ns.map V.int) ∧ ns.length ≤ 63 ∧ ∀ H', Q (.bl true) H'
def sp_row (K : PySem.W.Frag) : Sp := fun vs H Q _ => ∃ a : Addr, vs = [.ref a] ∧ Src H a ∧ ∀ (p : Addr) (ys : List V) (Ls : List (List Int)) H', Src H' a → But a H H' → H p = none → H' p = some (.lst ys) → DpAll K H' ys (Ls.map dL) → (∀ L ∈ Ls, okL L) → Asc Ls → Ls.length ≤ 7 → Q (.ref p) H'
def sp_middle (K : PySem.W.Frag) : Sp := fun vs H Q _ => ∃ (x y : V) (L M : List Int), vs = [x, y] ∧ Dp K H x (dL L) ∧ Dp K H y (dL M) ∧ okL L ∧ ∀ v H', Same H H' → Dp K H' v (oD dL (btw (some L) (some M))) → Q v H'
def sp_dues (K : PySem.W.Frag) : Sp := fun vs H Q _ => ∃ (p : Addr) (ys : List V) (Ls : List (List Int)), vs = [.ref p] ∧ H p = some (.lst ys) ∧ DpAll K H ys (Ls.map dL) ∧ (∀ L ∈ Ls, okL L) ∧ Ls.length ≤ 60 ∧ ∀ (q : Addr) (zs : List V) H', Same H H' → H q = none → H' q = some (.lst zs) → DpAll K H' zs ((bts Ls).map (oD dL)) → Q (.ref q) H'
def sp_same (K : PySem.W.Frag) : Sp := fun vs H Q _ => ∃ (t q : Addr) (zs ws : List V) (Ms : List (List Int)), vs = [.ref t, .ref q] ∧ SqT K H t zs ∧ DpAll K H zs (Ms.map dL) ∧ H q = some (.lst ws) ∧ DpAll K H ws (Ms.map dL) ∧ Ms.length ≤ 60 ∧ Q (.bl true) H
def sp_asked (K : PySem.W.Frag) : Sp := fun vs H Q _ => ∃ (a q : Addr) (xs zs : List V) (ds : List PyData) (Ls : List (List Int)), vs = [.ref a, .ref q] ∧ (SqL K H a xs ∨ SqT K H a xs) ∧ DpAll K H xs ds ∧ ds.map keptD = Ls.map some ∧ Ls.length ≤ 60 ∧ Asc Ls ∧ H q = some (.lst zs) ∧ DpAll K H zs ((bts Ls).map (oD dL)) ∧ ∀ H', Same H H' → Q (.bl true) H'
def sp_bad_label (K : PySem.W.Frag) : Sp := fun vs H Q _ => ∃ (a : Addr) (xs : List V) (ds : List PyData) (v : V) (d : PyData) (i : Nat), vs = [.ref a, v] ∧ (SqL K H a xs ∨ SqT K H a xs) ∧ DpAll K H xs ds ∧ xs.length ≤ 100 ∧ xs[i]? = some v ∧ ds[i]? = some d ∧ keptD d = none ∧ (∀ (j : Nat) e, j < i → ds[j]? = some e → keptD e ≠ none) ∧ Shown d ∧ ∀ H', Same H H' → Q (.bl true) H'
def sp_bad_order (K : PySem.W.Frag) : Sp := fun vs H Q _ => ∃ (a : Addr) (xs : List V) (ds : List PyData) (Ls : List (List Int)) (k : Nat), vs = [.ref a, .int k] ∧ (SqL K H a xs ∨ SqT K H a xs) ∧ DpAll K H xs ds ∧ ds.map keptD = Ls.map some ∧ Ls.length ≤ 100 ∧ 1 ≤ k ∧ k < Ls.length ∧ HT.lexLt (Ls.getD (k - 1) []) (Ls.getD k []) = false ∧ (∀ j : Nat, 1 ≤ j → j < k → HT.lexLt (Ls.getD (j - 1) []) (Ls.getD j []) = true) ∧ ∀ H', Same H H' → Q (.bl true) H'
def sp_rounds (K : PySem.W.Frag) : Sp := fun vs H Q _ => ∃ (p : Addr) (ys : List V) (Ls : List (List Int)), vs = [.ref p] ∧ H p = some (.lst ys) ∧ DpAll K H ys (Ls.map dL) ∧ (∀ L ∈ Ls, okL L) ∧ Asc Ls ∧ Ls.length ≤ 7 ∧ ∀ H', Same H H' → Q (.bl true) H'
def sp_refusals (K : PySem.W.Frag) : Sp := fun vs H Q _ => ∃ (a p : Addr) (ys : List V) (Ls : List (List Int)), vs = [.ref a, .ref p] ∧ Src H a ∧ p ≠ a ∧ H p = some (.lst ys) ∧ DpAll K H ys (Ls.map dL) ∧ (∀ L ∈ Ls, okL L) ∧ Asc Ls ∧ Ls.length ≤ 7 ∧ ∀ H', Src H' a → But a H H' → Q (.bl true) H'
theorem srcS {H H' : Hp} {a : Addr} (s : Src H a) (m : Same H H') : Src H' a := by
  obtain ⟨g1, g2, g3, e⟩ := s
  exact ⟨g1, g2, g3, m _ _ e⟩
theorem hot_law_is_integer (T : Tab K mg) : FnS P w K mg base 1 T.f_law_is_integer T.d_law_is_integer ["_law_actual"] (sp_law_is_integer K) := by
  refine fun_okS T.F_law_is_integer sc_law_is_integer (fun vs H Q E h => ?_) (fun cdv A outer s H vs Q E p hr h => ?_)
  · obtain ⟨i, rfl, _⟩ := h
    rfl
  · obtain ⟨i, rfl, q⟩ := h
    refine ⟨_, (pss_one (ps_ret (pe_and (pe_callB call_isi (by rfl) T.m_isinstance (by decide +kernel) (pa_cons (pv 0) (pa_cons (pe_bltn (v := .ty "int") (u := .type "int") (by rfl) T.m_int (by decide +kernel) rfl) pa_nil))) (pe_one (pe_not (pe_callB call_isi (by rfl) T.m_isinstance (by decide +kernel) (pa_cons (pv 0) (pa_cons (pe_bltn (v := .ty "bool") (u := .type "bool") (by rfl) T.m_bool (by decide +kernel) rfl) pa_nil)))))))), ?_⟩
    refine ⟨_, rfl, _, _, _, _, _, rfl, .ty "int", .base (.int i), kit_ty (by decide +kernel), true, rfl, iteT ?_⟩
    exact ⟨_, rfl, _, _, _, _, _, rfl, .ty "bool", .base (.int i), kit_ty (r := false) (by decide +kernel), false, rfl, q⟩
def Row (K : PySem.W.Frag) (H : Hp) (r : Addr) : Prop := ∃ (ys : List V) (Ls : List (List Int)), H r = some (.lst ys) ∧ DpAll K H ys (Ls.map dL) ∧ (∀ L ∈ Ls, okL L) ∧ Asc Ls ∧ Ls.length ≤ 7
theorem Row.same {K : PySem.W.Frag} {H H' : Hp} {r : Addr} (m : Same H H') (h : Row K H r) : Row K H' r := by
  obtain ⟨ys, Ls, e, hy, k⟩ := h
  exact ⟨ys, Ls, m _ _ e, dpAll_same m hy, k⟩
theorem Row.put {K : PySem.W.Frag} {H : Hp} {r D : Addr} {xs : List V} {o : HO} (h : Row K H r) (hD : H D = some (.lst xs)) (n : r ≠ D) : Row K (upd H D o) r := by
  obtain ⟨ys, Ls, e, hy, k⟩ := h
  exact ⟨ys, Ls, by rw [upd_ne n]; exact e, dpAll_butN hD (But.upd _) hy (nl_Ls Ls), k⟩
theorem ok_BadLabel_init (T : Tab K mg) : FnOk P w K mg base CX0 1 T.f_BadLabel_init T.d_BadLabel_init ["self", "label"] (sp_BadLabel_init K T.C_BadLabel) := by
  refine T.F_BadLabel_init.ok sc_BadLabel_init (fun vs H Q E h => ?_) (fun cdv A outer s H vs Q E hr h => ?_)
  · obtain ⟨a, v, rfl, _⟩ := h
    rfl
  · obtain ⟨a, v, rfl, hO, hN, ha, q⟩ := h
    refine ⟨_, (pss_one (ps_ost (pv 0) (pv 1))), ?_⟩
    exact ⟨_, rfl, _, rfl, a, _, rfl, hO, hN, .inl ⟨ha, fun dx h1 h2 => q dx h1 h2⟩⟩
theorem ok_BadOrder_init (T : Tab K mg) : FnOk P w K mg base CX0 1 T.f_BadOrder_init T.d_BadOrder_init ["self", "place"] (sp_BadOrder_init K T.C_BadOrder) := by
  refine T.F_BadOrder_init.ok sc_BadOrder_init (fun vs H Q E h => ?_) (fun cdv A outer s H vs Q E hr h => ?_)
  · obtain ⟨a, v, rfl, _⟩ := h
    rfl
  · obtain ⟨a, v, rfl, hO, hN, ha, q⟩ := h
    refine ⟨_, (pss_one (ps_ost (pv 0) (pv 1))), ?_⟩
    exact ⟨_, rfl, _, rfl, a, _, rfl, hO, hN, .inl ⟨ha, fun dx h1 h2 => q dx h1 h2⟩⟩
theorem ok_is_integer (T : Tab K mg) : FnOk P w K mg base CX0 1 T.f_is_integer T.d_is_integer ["thing"] (sp_is_integer K) := by
  refine T.F_is_integer.ok sc_is_integer (fun vs H Q E h => ?_) (fun cdv A outer s H vs Q E hr h => ?_)
  · obtain ⟨v, d, rfl, _⟩ := h
    rfl
  · obtain ⟨v, d, rfl, hd, q⟩ := h
    refine ⟨_, (pss_one (ps_ret (pe_and (pe_callB call_isi (by rfl) T.m_isinstance (by decide +kernel) (pa_cons (pv 0) (pa_cons (pe_bltn (v := .ty "int") (u := .type "int") (by rfl) T.m_int (by decide +kernel) rfl) pa_nil))) (pe_one (pe_not (pe_callB call_isi (by rfl) T.m_isinstance (by decide +kernel) (pa_cons (pv 0) (pa_cons (pe_bltn (v := .ty "bool") (u := .type "bool") (by rfl) T.m_bool (by decide +kernel) rfl) pa_nil)))))))), ?_⟩
    cases hd with
    | non => exact ⟨_, rfl, _, _, _, _, _, rfl, .ty "int", .base .non, kit_ty (r := false) (by decide +kernel), false, rfl, q⟩
    | bl b =>
      refine ⟨_, rfl, _, _, _, _, _, rfl, .ty "int", .base (.bl b), kit_ty (by decide +kernel), true, rfl, iteT ?_⟩
      exact ⟨_, rfl, _, _, _, _, _, rfl, .ty "bool", .base (.bl b), kit_ty (r := true) (by decide +kernel), true, rfl, q⟩
    | int i =>
      refine ⟨_, rfl, _, _, _, _, _, rfl, .ty "int", .base (.int i), kit_ty (by decide +kernel), true, rfl, iteT ?_⟩
      exact ⟨_, rfl, _, _, _, _, _, rfl, .ty "bool", .base (.int i), kit_ty (r := false) (by decide +kernel), false, rfl, q⟩
    | str z => exact ⟨_, rfl, _, _, _, _, _, rfl, .ty "int", .base (.str z), kit_ty (r := false) (by decide +kernel), false, rfl, q⟩
    | lst h _ => exact ⟨_, rfl, _, _, _, _, _, rfl, .ty "int", ty_L h, kit_ty (r := false) (by decide +kernel), false, rfl, q⟩
    | tup h _ => exact ⟨_, rfl, _, _, _, _, _, rfl, .ty "int", ty_T h, kit_ty (r := false) (by decide +kernel), false, rfl, q⟩
theorem ok_is_tuple (T : Tab K mg) : FnOk P w K mg base CX0 1 T.f_is_tuple T.d_is_tuple ["thing"] (sp_is_tuple K) := by
  refine T.F_is_tuple.ok sc_is_tuple (fun vs H Q E h => ?_) (fun cdv A outer s H vs Q E hr h => ?_)
  · obtain ⟨v, d, rfl, _⟩ := h
    rfl
  · obtain ⟨v, d, rfl, hd, q⟩ := h
    refine ⟨_, (pss_one (ps_ret (pe_callB call_isiT (by rfl) T.m_isinstance (by decide +kernel) (pa_cons (pv 0) (pa_cons (pe_tup (pa_cons (pe_bltn (v := .ty "tuple") (u := .type "tuple") (by rfl) T.m_tuple (by decide +kernel) rfl) (pa_cons (pe_bltn (v := .ty "list") (u := .type "list") (by rfl) T.m_list (by decide +kernel) rfl) pa_nil))) pa_nil))))), ?_⟩
    refine ⟨_, rfl, (by show 2 ≤ sizeLine; decide), fun tp ntp => ?_⟩
    have s1 := same_upd (o := .tup [.ty "tuple", .ty "list"]) ntp
    have q1 := q _ s1
    cases hd with
    | lst h _ => exact ⟨_, tp, _, _, _, true, rfl, upd_same, .cons (.ty "tuple") (.cons (.ty "list") .nil), ty_L (s1.seq h), kit2_L, q1⟩
    | tup h _ => exact ⟨_, tp, _, _, _, true, rfl, upd_same, .cons (.ty "tuple") (.cons (.ty "list") .nil), ty_T (same_seqT s1 h), kit2_T, q1⟩
    | non => exact ⟨_, tp, _, _, _, false, rfl, upd_same, .cons (.ty "tuple") (.cons (.ty "list") .nil), .base .non, kit2_no (by decide +kernel) (by decide +kernel), q1⟩
    | bl b => exact ⟨_, tp, _, _, _, false, rfl, upd_same, .cons (.ty "tuple") (.cons (.ty "list") .nil), .base (.bl b), kit2_no (by decide +kernel) (by decide +kernel), q1⟩
    | int i => exact ⟨_, tp, _, _, _, false, rfl, upd_same, .cons (.ty "tuple") (.cons (.ty "list") .nil), .base (.int i), kit2_no (by decide +kernel) (by decide +kernel), q1⟩
    | str z => exact ⟨_, tp, _, _, _, false, rfl, upd_same, .cons (.ty "tuple") (.cons (.ty "list") .nil), .base (.str z), kit2_no (by decide +kernel) (by decide +kernel), q1⟩
theorem ok_least_above (T : Tab K mg) : FnOk P w K mg base CX0 1 T.f_least_above T.d_least_above ["low", "count"] (sp_least_above K) := by
  refine T.F_least_above.ok sc_least_above (fun vs H Q E h => ?_) (fun cdv A outer s H vs Q E hr h => ?_)
  · obtain ⟨v, o, n, rfl, _⟩ := h
    rfl
  · obtain ⟨v, o, n, rfl, hv, ho, h1, h3, q⟩ := h
    refine ⟨_, (C8.pss_cut (ps_set (i := 2) sc_least_above.nd rfl (.inl rfl) (pe_op op_cat (pe_callTy call_list_of (by rfl) T.m_list (by decide +kernel) (pa_cons (pe_orT (pv 0) (pe_one (pe_tup pa_nil))) pa_nil)) (pe_op op_rep (pe_lst (pa_cons pe_int pa_nil)) (pv 1))))
      (pss_cons (ps_set (i := 3) sc_least_above.nd rfl (.inl rfl) pe_int)
      (pss_cons (ps_for PassesOwn.never rfl (pi_list (pe_slice sl_list (pv 2) po_none (po_some (pv 1)))) (pg_name (i := 4) sc_least_above.nd rfl (.inl rfl))
      (pss_one (ps_set (i := 3) sc_least_above.nd rfl (.inl rfl) (pe_op op_add (pe_op op_mul (pv 3) pe_int) (pv 4)))))
      (pss_cons (ps_set (i := 3) sc_least_above.nd rfl (.inl rfl) (pe_op op_add (pv 3) pe_int))
      (C8.pss_cut (ps_if (pt_cmpR op_eq (pe_op op_mod (pv 3) pe_int) pe_int (nomark _))
      (pss_one (ps_set (i := 3) sc_least_above.nd rfl (.inl rfl) (pe_op op_add (pv 3) pe_int)))
      pss_nil)
      (pss_cons (ps_set (i := 5) sc_least_above.nd rfl (.inl rfl) (pe_lst pa_nil))
      (pss_cons (ps_for PassesOwn.never rfl (pi_range1 (by rfl) T.m_range (pa_cons (pv 1) pa_nil)) (pg_name (i := 6) sc_least_above.nd rfl (.inl rfl))
      (pss_cons (ps_expr (pe_bm PySem.F.plainAttrs_list PySem.F.slot_list_append PySem.F.type_list_append mt_append (pv 5) (pa_cons (pe_op op_mod (pv 3) pe_int) pa_nil)))
        (pss_one (ps_set (i := 3) sc_least_above.nd rfl (.inl rfl) (pe_op op_fdiv (pv 3) pe_int)))))
      (pss_one (ps_ret (pe_ifExp (pt_truth (pv 3) (fun _ => rfl)) pe_non (pe_callTy call_tuple_of (by rfl) T.m_tuple (by decide +kernel) (pa_cons (pe_revL (pv 5) (po_some (pe_un un_neg pe_int))) pa_nil)))))))))))), ?_⟩
    have n1 : (1 : Int) ≤ (n : Int) ∧ (n : Int) ≤ 3 := by omega
    have h99 : ok99 (o.getD []) ∧ (o.getD []).length ≤ 3 := by
      cases o with
      | none => exact ⟨(fun _ h => nomatch h), by decide⟩
      | some L => exact ⟨(ho L rfl).1, (ho L rfl).2.1⟩
    have tl : ∀ (H0 : Hp) (l : Addr), Same H H0 → H0 l = some (.lst ((o.getD []).map V.int)) → ∀ l2, H0 l2 = Option.none → ∀ p3, upd H0 l2 (.lst [V.int 0]) p3 = Option.none →
        Same H (upd (upd H0 l2 (.lst [V.int 0])) p3 (.lst (List.replicate n [V.int 0]).flatten)) ∧ upd (upd H0 l2 (.lst [V.int 0])) p3 (.lst (List.replicate n [V.int 0]).flatten) l = some (.lst ((o.getD []).map V.int)) := fun H0 l s0 e0 l2 m2 p3 m3 => by
      have s1 := same_upd (o := .lst [V.int 0]) m2
      have s2 := same_upd (o := .lst (List.replicate n [V.int 0]).flatten) m3
      exact ⟨(s0.trans s1).trans s2, s2 _ _ (s1 _ _ e0)⟩
    refine ⟨fun σ' H' => ∃ p : Addr, σ' = [some v, some (.int (n : Int)), some (.ref p), none, none, none, none] ∧ Same H H' ∧ H' p = some (.lst ((o.getD [] ++ List.replicate n 0).map V.int)), ?_, ?_⟩
    · have fin : ∀ (H0 : Hp) (l : Addr), Same H H0 → H0 l = some (.lst ((o.getD []).map V.int)) → ∀ l2, H0 l2 = Option.none → ∀ p3, upd H0 l2 (.lst [V.int 0]) p3 = Option.none → _ := fun H0 l s0 e0 l2 m2 p3 m3 => (tl H0 l s0 e0 l2 m2 p3 m3)
      cases o with
      | none =>
        cases hv
        refine ⟨_, rfl, false, rfl, iteF ?_⟩
        refine ⟨Nat.zero_le _, fun t nt => ?_⟩
        refine ⟨t, [], rfl, .inr (.inl (.inl upd_same)), fun l nl => ?_⟩
        have s0 : Same H (upd (upd H t (.tup [])) l (.lst [])) := (same_upd nt).trans (same_upd nl)
        refine ⟨(by show 1 ≤ sizeLine; decide), fun l2 m2 => ?_⟩
        refine ⟨_, rfl, l2, _, [V.int 0], rfl, rfl, upd_same, by omega, by omega, (by show 1 * n ≤ sizeLine; exact Nat.le_of_lt (small1000 (by omega))), fun p3 m3 => ?_⟩
        rw [Int.toNat_natCast]
        obtain ⟨s3, e3⟩ := fin _ l s0 upd_same l2 m2 p3 m3
        refine ⟨l, p3, _, _, rfl, rfl, e3, upd_same, ?_, fun p4 m4 => ?_⟩
        · rw [flat_one, List.length_map, List.length_map, List.length_replicate]; exact Nat.le_of_lt (small1000 (by show 0 + n ≤ 1000; omega))
        · refine ⟨p4, rfl, s3.trans (same_upd m4), ?_⟩
          rw [upd_same, flat_one, List.map_append]
      | some L =>
        obtain ⟨p, rfl, hp⟩ := dL_inv hv
        have hne := (ho L rfl).2.2
        refine ⟨_, rfl, true, .inr (.inl ⟨_, hp, ?_⟩), iteT ?_⟩
        · cases L with
          | nil => exact absurd rfl hne
          | cons x r => rfl
        refine ⟨p, _, rfl, .inr hp, fun l nl => ?_⟩
        have s0 : Same H (upd H l (.lst (L.map V.int))) := same_upd nl
        refine ⟨(by show 1 ≤ sizeLine; decide), fun l2 m2 => ?_⟩
        refine ⟨_, rfl, l2, _, [V.int 0], rfl, rfl, upd_same, by omega, by omega, (by show 1 * n ≤ sizeLine; exact Nat.le_of_lt (small1000 (by omega))), fun p3 m3 => ?_⟩
        rw [Int.toNat_natCast]
        obtain ⟨s3, e3⟩ := fin _ l s0 upd_same l2 m2 p3 m3
        refine ⟨l, p3, _, _, rfl, rfl, e3, upd_same, ?_, fun p4 m4 => ?_⟩
        · rw [flat_one, List.length_map, List.length_map, List.length_replicate]; exact Nat.le_of_lt (small1000 (by have := h99.2; show L.length + n ≤ 1000; have e : (some L).getD [] = L := rfl; rw [e] at this; omega))
        · refine ⟨p4, rfl, s3.trans (same_upd m4), ?_⟩
          rw [upd_same, flat_one, List.map_append]
    generalize o.getD [] = L at h99 q
    rintro σ' H1 ⟨p, rfl, s1, eP⟩
    refine ⟨_, rfl, _, rfl, (n : Int), rfl, _, _, rfl, .inl (.inl eP), fun p2 m2 => ?_⟩
    rw [cutV_to, ← List.map_take] at *
    have s2 : Same H1 (upd H1 p2 (.lst (((L ++ List.replicate n 0).take n).map V.int))) := same_upd m2
    refine ⟨_, rfl, ⟨_, .inl (.inl upd_same)⟩, for_list (xs := ((L ++ List.replicate n 0).take n).map V.int) (fun i σ' H' => ∃ y4 : Option V, σ' = [some v, some (.int (n : Int)), some (.ref p), some (.int (num L i)), y4, none, none] ∧ Same (upd H1 p2 (.lst (((L ++ List.replicate n 0).take n).map V.int))) H' ∧ i ≤ n) ⟨none, rfl, Same.refl _, Nat.zero_le _⟩ (fun i σ' H' _ ⟨_, _, s, _⟩ => .inl (.inl (s _ _ upd_same))) ?_ ?_⟩
    · rintro i x σ' H3 hx ⟨y4, rfl, s3, hin⟩
      have hi : i < n := by
        have := (List.getElem?_eq_some_iff.mp hx).1
        rw [List.length_map, pad_len] at this
        exact this
      rw [List.getElem?_map, pad_at L n i hi] at hx
      cases hx
      have hb := num_small h99.1 (Nat.le_of_lt (Nat.lt_of_lt_of_le hi h3))
      refine ⟨_, rfl, _, _, rfl, rfl, .inl ⟨by omega, by omega⟩, _, rfl, _, _, rfl, rfl, ?_⟩
      exact ⟨_, rfl, s3, hi⟩
    · rintro σ' H3 ⟨y4, rfl, s3, _⟩
      rw [List.length_map, pad_len]
      have hb := num_small h99.1 h3
      have sH := (s1.trans s2).trans s3
      refine ⟨_, rfl, _, _, rfl, rfl, ?_⟩
      refine ⟨fun σ' H' => σ' = [some v, some (.int (n : Int)), some (.ref p), some (.int (bump (num L n + 1))), y4, none, none] ∧ H3 = H', ?_, ?_⟩
      · refine ⟨_, rfl, _, _, rfl, rfl, (by show (0 : Int) < 100; decide), rfl, _, rfl, ite2 (fun e => ?_) (fun e => ?_)⟩
        · have e0 : (num L n + 1) % 100 = 0 := V.int.inj (of_decide_eq_true e)
          refine ⟨_, rfl, _, _, rfl, rfl, ?_, rfl⟩
          unfold bump
          rw [if_pos e0]
          rfl
        · have e0 : ¬ (num L n + 1) % 100 = 0 := fun z => e (decide_eq_true (congrArg V.int z))
          refine ⟨?_, rfl⟩
          unfold bump
          rw [if_neg e0]
          rfl
      rintro σ' H' ⟨rfl, rfl⟩
      have bb := bump_bd (i := num L n + 1) (by omega)
      have el : least L n = if dv (bump (num L n + 1)) n = 0 then some (lsd (bump (num L n + 1)) n).reverse else none := rfl
      generalize bump (num L n + 1) = M at bb el
      refine ⟨Nat.zero_le _, fun D nD => ?_⟩
      refine ⟨_, rfl, _, rfl, by omega, by omega, for_range (lo := 0) (n := n) (fun i σ' H' => ∃ y6 : Option V, σ' = [some v, some (.int (n : Int)), some (.ref p), some (.int (dv M i)), y4, some (.ref D), y6] ∧ Same H3 H' ∧ H' D = some (.lst ((lsd M i).map V.int))) ⟨none, rfl, same_upd nD, upd_same⟩ ?_ ?_⟩
      · rintro i σ' H4 hi ⟨y6, rfl, s4, eD⟩
        have d0 := dv_nn (M := M) (by omega) i
        have dl := dv_le (M := M) (by omega) i
        refine ⟨_, rfl, .inl ⟨rfl, _, .inl (.inl eD)⟩, _, rfl, _, _, rfl, rfl, (by show (0 : Int) < 100; decide), D, _, _, rfl, rfl, eD, ?_, ?_⟩
        · rw [List.length_map, lsd_len]; exact small1000 (by omega)
        refine ⟨_, rfl, _, _, rfl, rfl, ⟨by decide, by decide⟩, _, rfl, same_put s4 nD _, ?_⟩
        rw [upd_same]
        show _ = some (HO.lst ((lsd M i ++ [_]).map V.int))
        rw [List.map_append]
        rfl
      · rintro σ' H4 ⟨y6, rfl, s4, eD⟩
        have sH4 := sH.trans s4
        refine ⟨_, rfl, (dv M n != 0), rfl, ?_⟩
        by_cases hz : dv M n = 0
        · rw [hz]
          refine iteF ?_
          refine ⟨_, rfl, 1, rfl, _, rfl, D, _, rfl, rfl, .inl (.inl eD), fun l nl => ?_⟩
          refine ⟨_, _, rfl, .inl ⟨.inl (.inl upd_same), fun t nt => ?_⟩⟩
          refine q (.ref t) _ ((sH4.trans (same_upd nl)).trans (same_upd nt)) ?_
          rw [el, if_pos hz]
          refine dpL (.inl (.inl ?_))
          rw [upd_same, ← List.map_reverse]
        · have hb2 : (dv M n != 0) = true := by simp [hz]
          rw [hb2]
          refine iteT ?_
          exact q .non _ sH4 (by rw [el, if_neg hz]; exact .non)
theorem ok_source (T : Tab K mg) : FnOk P w K mg base CX0 1 T.f_source T.d_source ["_law_script", "_law_k"] (sp_source K) := by
  refine T.F_source.ok sc_source (fun vs H Q E h => ?_) (fun cdv A outer s H vs Q E hr h => ?_)
  · obtain ⟨a, ns, k, rfl, _⟩ := h
    rfl
  · obtain ⟨a, ns, k, rfl, hS, q⟩ := h
    refine ⟨_, (C8.pss_cut (ps_set (i := 2) sc_source.nd rfl (.inl rfl) (pe_ifExp (pt_cmpR op_lt (pv 1) (pe_callB call_len_seq (by rfl) T.m_len PySem.boot_len (pa_cons (pv 0) pa_nil)) (nomark _)) (pe_ix ix_list (pv 0) (pv 1) (fun _ _ => rfl)) (pe_op op_add (pe_op op_mod (pe_callTy call_int1 (by rfl) T.m_int (by decide +kernel) (pa_cons (pe_op op_add (pe_callB (cr_sum rfl) (by rfl) T.m_sum (by decide +kernel) (pa_cons (pe_slice sl_list (pv 0) po_none (po_some pe_int)) pa_nil)) (pe_op op_mul pe_int (pe_callB (cr_sum rfl) (by rfl) T.m_sum (by decide +kernel) (pa_cons (pe_slice sl_list (pv 0) (po_some pe_int) (po_some pe_int)) pa_nil)))) pa_nil)) pe_int) (pe_op op_mul pe_int (pv 1)))))
      (pss_cons (ps_set (i := 3) sc_source.nd rfl (.inl rfl) (pe_callB call_abs (by rfl) T.m_abs (by decide +kernel) (pa_cons (pv 2) pa_nil)))
      (C8.pss_cut (ps_set (i := 4) sc_source.nd rfl (.inl rfl) (pe_ifExp (pt_cmpR op_ge (pv 3) pe_int (nomark _)) (pv 3) pe_int))
      (pss_one (ps_ret (pe_lst (pa_cons (pv 4) (pa_cons (pe_op op_mod (pe_callTy call_int1 (by rfl) T.m_int (by decide +kernel) (pa_cons (pe_op op_add (pe_op op_add (pe_op op_add (pe_op op_mul (pv 3) pe_int) (pe_callTy call_int1 (by rfl) T.m_int (by decide +kernel) (pa_cons (pe_cmpR op_lt (pv 2) pe_int (nomark _)) pa_nil))) (pe_op op_mul pe_int (pv 1))) pe_int) pa_nil)) pe_int) (pa_cons pe_int pa_nil))))))))), ?_⟩
    refine ⟨fun σ' H' => ∃ c : Int, σ' = [some (.ref a), some (.int k), some (.int c), none, none] ∧ Same H H', ?_, ?_⟩
    · refine ⟨_, rfl, _, rfl, _, _, rfl, .inl hS, _, _, rfl, rfl, _, rfl, ite2 (fun e => ?_) (fun e => ?_)⟩
      · have e1 : (k : Int) < ((ns.map V.int).length : Int) := of_decide_eq_true e
        rw [List.length_map] at e1
        have hk : k < ns.length := by omega
        have g : (ns.map V.int)[k]? = some (.int ns[k]) := by
          rw [List.getElem?_map, List.getElem?_eq_getElem hk]
          rfl
        exact ⟨_, rfl, _, rfl, _, _, _, _, rfl, rfl, hS, atI_nat g, _, rfl, Same.refl H⟩
      · refine ⟨_, rfl, 1, rfl, _, _, rfl, hS, fun p1 n1 => ?_⟩
        obtain ⟨m1, c1⟩ := cut_map ns none (some 1)
        rw [c1]
        have s1 : Same H (upd H p1 (.lst (m1.map V.int))) := same_upd n1
        refine ⟨_, m1, rfl, .inl (.inl upd_same), _, rfl, 1, rfl, 2, rfl, _, _, rfl, s1.seq hS, fun p2 n2 => ?_⟩
        obtain ⟨m2, c2⟩ := cut_map ns (some 1) (some 2)
        rw [c2]
        refine ⟨_, m2, rfl, .inl (.inl upd_same), _, _, rfl, rfl, .inl ⟨by decide, by decide⟩, _, _, rfl, rfl, .inl ⟨_, rfl, _, _, rfl, rfl, (by show (0 : Int) < 1000003; decide), _, rfl, _, _, rfl, rfl, .inl ⟨by decide, by decide⟩, _, _, rfl, rfl, _, rfl, s1.trans (same_upd n2)⟩⟩
    · rintro σ' H1 ⟨c, rfl, s1⟩
      refine ⟨_, rfl, _, rfl, ?_⟩
      refine ⟨fun σ' H' => ∃ n g : Int, σ' = [some (.ref a), some (.int k), some (.int c), some (.int n), some (.int g)] ∧ H' = H1, ?_, ?_⟩
      · refine ⟨_, rfl, _, _, rfl, rfl, _, rfl, ite2 (fun e => ?_) (fun e => ?_)⟩
        · exact ⟨_, rfl, _, _, rfl, rfl⟩
        · exact ⟨_, _, rfl, rfl⟩
      · rintro σ' H' ⟨n, g, rfl, rfl⟩
        refine ⟨_, rfl, _, rfl, _, _, rfl, rfl, .inr ⟨by decide, by decide⟩, _, rfl, _, _, rfl, rfl, .inr ⟨_, rfl, _, _, rfl, rfl, _, rfl, _, _, rfl, rfl, .inl ⟨by decide, by decide⟩, _, _, rfl, rfl, _, _, rfl, rfl, .inl ⟨_, rfl, _, _, rfl, rfl, (by show (0 : Int) < 2147483647; decide), ?_⟩⟩⟩
        refine ⟨(by show 3 ≤ sizeLine; decide), fun p np => ?_⟩
        exact q p _ (s1.trans (same_upd np)) (s1.free np) ⟨_, _, _, upd_same⟩
theorem ok_pick (T : Tab K mg) : FnOk P w K mg base CX0 1 T.f_pick T.d_pick ["_law_source_here", "_law_many"] (sp_pick K) := by
  refine T.F_pick.ok sc_pick (fun vs H Q E h => ?_) (fun cdv A outer s H vs Q E hr h => ?_)
  · obtain ⟨a, m, rfl, _⟩ := h
    rfl
  · obtain ⟨a, m, rfl, ⟨g, x, c, hs⟩, h1, h2, q⟩ := h
    refine ⟨_, (pss_cons (ps_if (pt_cmpR op_lt (pv 1) pe_int (nomark _))
      (pss_one (ps_ret pe_int))
      pss_nil)
      (pss_cons (ps_if (pt_cmpR op_gt (pe_ix ix_list (pv 0) pe_int (fun _ _ => rfl)) pe_int (nomark _))
      (pss_cons (ps_set (i := 2) sc_pick.nd rfl (.inl rfl) (pe_op op_mod (pe_callTy call_int1 (by rfl) T.m_int (by decide +kernel) (pa_cons (pe_ix ix_list (pv 0) pe_int (fun _ _ => rfl)) pa_nil)) (pv 1)))
        (pss_cons (ps_asg (pe_op op_fdiv (pe_ix ix_list (pv 0) pe_int (fun _ _ => rfl)) (pv 1)) (pg_sub (pv 0) pe_int set_list))
        (pss_one (ps_ret (pv 2)))))
      pss_nil)
      (pss_cons (ps_asg (pe_op op_add (pe_ix ix_list (pv 0) pe_int (fun _ _ => rfl)) pe_int) (pg_sub (pv 0) pe_int set_list))
      (pss_cons (ps_asg (pe_op op_mod (pe_callTy call_int1 (by rfl) T.m_int (by decide +kernel) (pa_cons (pe_op op_add (pe_op op_add (pe_op op_mul (pe_ix ix_list (pv 0) pe_int (fun _ _ => rfl)) pe_int) (pe_op op_mul (pe_ix ix_list (pv 0) pe_int (fun _ _ => rfl)) pe_int)) pe_int) pa_nil)) pe_int) (pg_sub (pv 0) pe_int set_list))
      (pss_one (ps_ret (pe_op op_mod (pe_callTy call_int1 (by rfl) T.m_int (by decide +kernel) (pa_cons (pe_op op_fdiv (pe_op op_mod (pe_callTy call_int1 (by rfl) T.m_int (by decide +kernel) (pa_cons (pe_op op_add (pe_op op_add (pe_op op_mul (pe_ix ix_list (pv 0) pe_int (fun _ _ => rfl)) pe_int) (pe_op op_mul (pe_ix ix_list (pv 0) pe_int (fun _ _ => rfl)) pe_int)) pe_int) pa_nil)) pe_int) pe_int) pa_nil)) (pv 1)))))))), ?_⟩
    refine ⟨_, rfl, _, _, rfl, rfl, _, rfl, ite2 (fun e => ?_) (fun e => ?_)⟩
    · exact q 0 H ⟨g, x, c, hs⟩ (But.refl a H) (by decide) (by omega)
    · have hm : ¬ m < 2 := fun z => e (decide_eq_true z)
      refine ⟨_, rfl, _, _, _, _, rfl, rfl, .inl (.inl hs), rfl, _, _, rfl, rfl, _, rfl, ite2 (fun e => ?_) (fun e => ?_)⟩
      · refine ⟨_, rfl, _, _, _, _, rfl, rfl, .inl (.inl hs), rfl, .inl ⟨_, rfl, _, rfl, _, _, rfl, rfl, (by omega), ?_⟩⟩
        refine ⟨_, rfl, _, _, _, _, rfl, rfl, .inl (.inl hs), rfl, _, rfl, _, _, rfl, rfl, ⟨by omega, by omega⟩, ?_⟩
        refine ⟨_, rfl, _, _, _, _, rfl, rfl, hs, rfl, ?_⟩
        refine ⟨_, rfl, ?_⟩
        exact q _ _ ⟨_, _, _, upd_same⟩ (But.upd _) (Int.emod_nonneg _ (by omega)) (Int.emod_lt_of_pos _ (by omega))
      · refine ⟨_, rfl, _, _, _, _, rfl, rfl, .inl (.inl hs), rfl, _, _, rfl, rfl, _, rfl, _, _, _, _, rfl, rfl, hs, rfl, ?_⟩
        refine ⟨_, rfl, _, _, _, _, rfl, rfl, .inl (.inl upd_same), rfl, _, _, rfl, rfl, .inr ⟨by decide, by decide⟩, _, rfl, _, _, _, _, rfl, rfl, .inl (.inl upd_same), rfl, _, _, rfl, rfl, .inr ⟨by decide, by decide⟩, _, _, rfl, rfl, _, _, rfl, rfl, .inl ⟨_, rfl, _, _, rfl, rfl, (by show (0 : Int) < 2147483647; decide), ?_⟩⟩
        refine ⟨_, rfl, _, _, _, _, rfl, rfl, upd_same, rfl, ?_⟩
        refine ⟨_, rfl, _, _, _, _, rfl, rfl, .inl (.inl upd_same), rfl, _, _, rfl, rfl, .inr ⟨by decide, by decide⟩, _, rfl, _, _, _, _, rfl, rfl, .inl (.inl upd_same), rfl, _, _, rfl, rfl, .inr ⟨by decide, by decide⟩, _, _, rfl, rfl, _, _, rfl, rfl, .inl ⟨_, rfl, _, _, rfl, rfl, (by show (0 : Int) < 2147483629; decide), _, _, rfl, rfl, ⟨by decide, by decide⟩, .inl ⟨_, rfl, _, rfl, _, _, rfl, rfl, (by omega), ?_⟩⟩⟩
        exact q _ _ ⟨_, _, _, upd_same⟩ (((But.upd _).trans (But.upd _))) (Int.emod_nonneg _ (by omega)) (Int.emod_lt_of_pos _ (by omega))
theorem ok_law_is_integer (T : Tab K mg) : FnOk P w K mg base CX0 1 T.f_law_is_integer T.d_law_is_integer ["_law_actual"] (sp_law_is_integer K) := by
  refine T.F_law_is_integer.ok sc_law_is_integer (fun vs H Q E h => ?_) (fun cdv A outer s H vs Q E hr h => ?_)
  · obtain ⟨i, rfl, _⟩ := h
    rfl
  · obtain ⟨i, rfl, q⟩ := h
    refine ⟨_, (pss_one (ps_ret (pe_and (pe_callB call_isi (by rfl) T.m_isinstance (by decide +kernel) (pa_cons (pv 0) (pa_cons (pe_bltn (v := .ty "int") (u := .type "int") (by rfl) T.m_int (by decide +kernel) rfl) pa_nil))) (pe_one (pe_not (pe_callB call_isi (by rfl) T.m_isinstance (by decide +kernel) (pa_cons (pv 0) (pa_cons (pe_bltn (v := .ty "bool") (u := .type "bool") (by rfl) T.m_bool (by decide +kernel) rfl) pa_nil)))))))), ?_⟩
    refine ⟨_, rfl, _, _, _, _, _, rfl, .ty "int", .base (.int i), kit_ty (by decide +kernel), true, rfl, iteT ?_⟩
    exact ⟨_, rfl, _, _, _, _, _, rfl, .ty "bool", .base (.int i), kit_ty (r := false) (by decide +kernel), false, rfl, q⟩
theorem ok_least (T : Tab K mg) : FnOk P w K mg base CX0 1 T.f_least T.d_least ["_law_low", "_law_size"] (sp_least K) := by
  refine T.F_least.ok sc_least (fun vs H Q E h => ?_) (fun cdv A outer s H vs Q E hr h => ?_)
  · obtain ⟨v, L, n, rfl, _⟩ := h
    rfl
  · obtain ⟨v, L, n, rfl, hv, h99, hl, h1, h3, q⟩ := h
    refine ⟨_, (pss_cons (ps_set (i := 2) sc_least.nd rfl (.inl rfl) pe_int)
      (pss_cons (ps_for PassesOwn.never rfl (pi_range1 (by rfl) T.m_range (pa_cons (pv 1) pa_nil)) (pg_name (i := 3) sc_least.nd rfl (.inl rfl))
      (pss_cons (ps_set (i := 2) sc_least.nd rfl (.inl rfl) (pe_op op_mul (pv 2) pe_int))
        (pss_one (ps_if (pt_cmpR op_lt (pv 3) (pe_callB call_len_seq (by rfl) T.m_len PySem.boot_len (pa_cons (pv 0) pa_nil)) (nomark _))
        (pss_one (ps_set (i := 2) sc_least.nd rfl (.inl rfl) (pe_op op_add (pv 2) (pe_ix (ix_tupK (K := K) rfl) (pv 0) (pv 3) (fun _ _ => rfl)))))
        pss_nil))))
      (C8.pss_cut (ps_if (pt_cmpR op_ge (pe_callB call_len_seq (by rfl) T.m_len PySem.boot_len (pa_cons (pv 0) pa_nil)) (pv 1) (nomark _))
      (pss_one (ps_set (i := 2) sc_least.nd rfl (.inl rfl) (pe_op op_add (pv 2) pe_int)))
      pss_nil)
      (C8.pss_cut (ps_if (pt_cmpR op_eq (pe_op op_mod (pe_callTy call_int1 (by rfl) T.m_int (by decide +kernel) (pa_cons (pv 2) pa_nil)) pe_int) pe_int (nomark _))
      (pss_one (ps_set (i := 2) sc_least.nd rfl (.inl rfl) (pe_op op_add (pv 2) pe_int)))
      pss_nil)
      (pss_cons (ps_if (pt_cmpR op_ge (pv 2) (pe_ix (ix_listK (K := K) rfl) (pe_lst (pa_cons pe_int (pa_cons pe_int (pa_cons pe_int pa_nil)))) (pe_op op_sub (pv 1) pe_int) (fun _ _ => rfl)) (nomark _))
      (pss_one (ps_ret pe_non))
      pss_nil)
      (pss_cons (ps_set (i := 4) sc_least.nd rfl (.inr rfl) (pe_lst pa_nil))
      (pss_cons (ps_for PassesOwn.never rfl (pi_range1 (by rfl) T.m_range (pa_cons (pv 1) pa_nil)) (pg_name (i := 3) sc_least.nd rfl (.inl rfl))
      (pss_cons (ps_expr (pe_bm PySem.F.plainAttrs_list PySem.F.slot_list_append PySem.F.type_list_append mt_append (pv 4) (pa_cons (pe_op op_mod (pe_callTy call_int1 (by rfl) T.m_int (by decide +kernel) (pa_cons (pv 2) pa_nil)) pe_int) pa_nil)))
        (pss_one (ps_set (i := 2) sc_least.nd rfl (.inl rfl) (pe_op op_fdiv (pv 2) pe_int)))))
      (pss_one (ps_ret (pe_callTy call_tuple_of (by rfl) T.m_tuple (by decide +kernel) (pa_cons (pe_lc (own := [("_law_step", 3)]) (g := gName 3) (by rfl) sc_least.nd (pi_range1 (by rfl) T.m_range (pa_cons (pv 1) pa_nil)) (blkOk_by (own := [("_law_step", 3)]) (N := N_least) (sc := defScope s_least) (by decide +kernel)) (fun _ _ _ _ _ => pg_name (i := 3) sc_least.nd rfl (.inl rfl)) (fun _ _ _ _ _ => pts_nil) (fun _ _ _ _ _ => (pe_ix (ix_listK (K := K) rfl) (pv 4) (pe_op op_sub (pe_op op_sub (pv 1) pe_int) (pv 3)) (fun _ _ => rfl)))) pa_nil))))))))))), ?_⟩
    obtain ⟨p, rfl, hp⟩ := dL_inv hv
    have hlen : (L.map V.int).length = L.length := List.length_map ..
    refine ⟨_, rfl, _, rfl, by omega, by omega, for_range (lo := 0) (n := n) (fun i σ' H' => ∃ y3 : Option V, σ' = [some (.ref p), some (.int (n : Int)), some (.int (num L i)), y3, none] ∧ H = H') ⟨none, rfl, rfl⟩ ?_ ?_⟩
    · rintro i σ' H' hi ⟨y3, rfl, rfl⟩
      have hb := num_small h99 (Nat.le_of_lt (Nat.lt_of_lt_of_le hi h3))
      refine ⟨_, rfl, _, _, rfl, rfl, .inl ⟨by omega, by omega⟩, ?_⟩
      refine ⟨_, rfl, _, rfl, _, _, rfl, .inr hp, _, _, rfl, rfl, _, rfl, ite2 (fun e => ?_) (fun e => ?_)⟩
      · have e1 : (0 : Int) + (i : Int) < ((L.map V.int).length : Int) := of_decide_eq_true e
        rw [hlen] at e1
        have hk : i < L.length := by omega
        have g : (L.map V.int)[i]? = some (.int (L.getD i 0)) := by
          rw [List.getElem?_map, List.getElem?_eq_getElem hk, List.getD_eq_getElem?_getD, List.getElem?_eq_getElem hk]
          rfl
        refine ⟨_, rfl, _, rfl, _, rfl, _, _, _, _, rfl, rfl, hp, at_of' (by omega) g, _, _, rfl, rfl, ?_⟩
        exact ⟨_, rfl, rfl⟩
      · have e1 : ¬ ((0 : Int) + (i : Int) < ((L.map V.int).length : Int)) := fun z => e (decide_eq_true z)
        rw [hlen] at e1
        have e0 : L.getD i 0 = 0 := by rw [List.getD_eq_getElem?_getD, List.getElem?_eq_none (by omega)]; rfl
        refine ⟨some (.int (0 + (i : Int))), ?_, rfl⟩
        rw [num_foo, e0, Int.add_zero]
        rfl
    · rintro σ' H' ⟨y3, rfl, rfl⟩
      have hb := num_small h99 h3
      refine ⟨fun σ' H' => ∃ N : Int, σ' = [some (.ref p), some (.int (n : Int)), some (.int N), y3, none] ∧ H = H' ∧ bump N = bump (num L n + 1) ∧ 0 ≤ N ∧ N ≤ num L n + 1, ?_, ?_⟩
      · refine ⟨_, rfl, _, _, rfl, .inr hp, _, rfl, _, _, rfl, rfl, _, rfl, ite2 (fun e => ?_) (fun e => ?_)⟩
        · refine ⟨_, rfl, _, _, rfl, rfl, ?_⟩
          exact ⟨_, rfl, rfl, rfl, by omega, by omega⟩
        · have e1 : ¬ ((n : Int) ≤ ((L.map V.int).length : Int)) := fun z => e (decide_eq_true z)
          rw [hlen] at e1
          obtain ⟨m, rfl⟩ : ∃ m, n = m + 1 := ⟨n - 1, by omega⟩
          exact ⟨_, rfl, rfl, bump_two (num_end (by omega)), by omega, by omega⟩
      rintro σ' H' ⟨N, rfl, rfl, eN, N0, N1⟩
      refine ⟨fun σ' H' => σ' = [some (.ref p), some (.int (n : Int)), some (.int (bump N)), y3, none] ∧ H = H', ?_, ?_⟩
      · refine ⟨_, rfl, .inl ⟨N, rfl, _, _, rfl, rfl, (by show (0 : Int) < 100; decide), rfl, _, rfl, ite2 (fun e => ?_) (fun e => ?_)⟩⟩
        · have e0 : N % 100 = 0 := V.int.inj (of_decide_eq_true e)
          refine ⟨_, rfl, _, _, rfl, rfl, ?_, rfl⟩
          unfold bump
          rw [if_pos e0]
          rfl
        · have e0 : ¬ N % 100 = 0 := fun z => e (decide_eq_true (congrArg V.int z))
          refine ⟨?_, rfl⟩
          unfold bump
          rw [if_neg e0]
      rintro σ' H' ⟨rfl, rfl⟩
      have bb := bump_bd (i := N) N0
      have el : least L n = if dv (bump N) n = 0 then some (lsd (bump N) n).reverse else none := by unfold least; rw [eN]
      generalize bump N = M at bb el
      have M0 : 0 ≤ M := by omega
      obtain ⟨G, eG⟩ : ∃ G : Int, G = if n = 1 then (100 : Int) else if n = 2 then 10000 else 1000000 := ⟨_, rfl⟩
      have hat : atI [V.int 100, .int 10000, .int 1000000] ((n : Int) - 1) = some (.int G) := by
        rw [eG]
        have : n = 1 ∨ n = 2 ∨ n = 3 := by omega
        rcases this with rfl | rfl | rfl <;> rfl
      have d3 := dv3 M0 h1 h3
      rw [← eG] at d3
      refine ⟨_, rfl, (by show 3 ≤ sizeLine; decide), fun l nl => ?_⟩
      have sl := same_upd (o := .lst [V.int 100, .int 10000, .int 1000000]) nl
      refine ⟨_, rfl, _, _, rfl, rfl, l, _, _, _, rfl, rfl, .inl (.inl upd_same), hat, _, _, rfl, rfl, _, rfl, ite2 (fun e => ?_) (fun e => ?_)⟩
      · have e1 : G ≤ M := of_decide_eq_true e
        refine q .non _ sl ?_
        rw [el, if_neg (by rw [d3]; exact fun z => z e1)]
        exact .non
      have e1 : dv M n = 0 := by rw [d3]; exact fun z => e (decide_eq_true z)
      rw [if_pos e1] at el
      refine ⟨Nat.zero_le _, fun D nD => ?_⟩
      refine ⟨_, rfl, _, rfl, by omega, by omega, for_range (lo := 0) (n := n) (fun i σ' H' => ∃ y3 : Option V, σ' = [some (.ref p), some (.int (n : Int)), some (.int (dv M i)), y3, some (.ref D)] ∧ Same H H' ∧ H' D = some (.lst ((lsd M i).map V.int))) ⟨_, rfl, sl.trans (same_upd nD), upd_same⟩ ?_ ?_⟩
      · rintro i σ' H4 hi ⟨y6, rfl, s4, eD⟩
        have d0 := dv_nn M0 i
        have dl := dv_le M0 i
        refine ⟨_, rfl, .inl ⟨rfl, _, .inl (.inl eD)⟩, _, rfl, .inl ⟨_, rfl, _, _, rfl, rfl, (by show (0 : Int) < 100; decide), D, _, _, rfl, rfl, eD, ?_, ?_⟩⟩
        · rw [List.length_map, lsd_len]; exact small1000 (by omega)
        have nDH : H D = none := sl.free nD
        refine ⟨_, rfl, _, _, rfl, rfl, ⟨by decide, by decide⟩, _, rfl, same_put s4 nDH _, ?_⟩
        rw [upd_same]
        show _ = some (HO.lst ((lsd M i ++ [_]).map V.int))
        rw [List.map_append]
        rfl
      · rintro σ' H4 ⟨y6, rfl, s4, eD⟩
        refine ⟨_, rfl, _, rfl, by omega, by omega, fun D2 nD2 => ?_⟩
        refine lc_range (lo := 0) (n := n) (fun i H' => Same H4 H' ∧ H' D2 = some (.lst (((lsd M n).reverse.take i).map V.int))) ⟨same_upd nD2, upd_same⟩ ?_ ?_
        · rintro i H5 hi ⟨s5, eD2⟩
          have ll := lsd_len M n
          obtain ⟨z, gi⟩ : ∃ z, (lsd M n)[n - 1 - i]? = some z := ⟨_, List.getElem?_eq_getElem (by omega)⟩
          have gr : (lsd M n).reverse[i]? = some z := by
            rw [List.getElem?_reverse (by omega), ll]
            exact gi
          refine ⟨rfl, ?_⟩
          refine ⟨_, rfl, _, rfl, _, _, rfl, rfl, _, rfl, _, _, rfl, rfl, D, _, _, .int z, rfl, rfl, .inl (.inl (s5 _ _ eD)), at_of' (j := n - 1 - i) (by omega) (by rw [List.getElem?_map, gi]; rfl), _, eD2, ?_, same_put s5 nD2 _, ?_⟩
          · rw [List.length_map, List.length_take]; exact small1000 (by omega)
          · rw [upd_same, List.take_add_one, gr, List.map_append]; rfl
        · rintro H5 ⟨s5, eD2⟩
          have ll : (lsd M n).reverse.length = n := by rw [List.length_reverse, lsd_len]
          rw [List.take_of_length_le (by omega)] at eD2
          refine ⟨D2, _, rfl, .inl ⟨.inl (.inl eD2), fun t nt => ?_⟩⟩
          refine q (.ref t) _ ((s4.trans s5).trans (same_upd nt)) ?_
          rw [el]
          exact dpL (.inl (.inl upd_same))
theorem ok_is_within (T : Tab K mg) : FnOk P w K mg base CX0 2 T.f_is_within T.d_is_within ["thing", "least", "most"] (sp_is_within K) := by
  refine T.F_is_within.ok sc_is_within (fun vs H Q E h => ?_) (fun cdv A outer s H vs Q E hr h => ?_)
  · obtain ⟨v, d, l, m, rfl, _⟩ := h
    rfl
  · obtain ⟨v, d, l, m, rfl, hd, q⟩ := h
    refine ⟨_, (pss_one (ps_ret (pe_and (pe_call (ok_is_integer T) (hr.mono (by decide)) (by rfl) T.g_is_integer T.F_is_integer.kp T.b_is_integer .nil pass0 (pa_cons (pv 0) pa_nil)) (pe_one (pe_chain op_le op_le (pv 1) (pv 0) (pv 2)))))), ?_⟩
    refine ⟨_, rfl, _, d, rfl, hd, ?_⟩
    cases hd with
    | int i =>
      refine ⟨true, rfl, iteT ?_⟩
      refine ⟨_, rfl, _, rfl, _, _, rfl, rfl, _, rfl, ite2 (fun e => ?_) (fun e => ?_)⟩
      · have h1 : l ≤ i := of_decide_eq_true e
        refine ⟨_, rfl, _, _, rfl, rfl, ?_⟩
        have : wI l m (.int i) = decide (i ≤ m) := by
          show decide (l ≤ i ∧ i ≤ m) = _
          simp [h1]
        rw [this] at q
        exact q
      · have h1 : ¬ l ≤ i := fun h => e (decide_eq_true h)
        have : wI l m (.int i) = false := by
          show decide (l ≤ i ∧ i ≤ m) = _
          simp [h1]
        rw [this] at q
        exact q
    | non => exact ⟨false, rfl, q⟩
    | bl b => exact ⟨false, rfl, q⟩
    | str z => exact ⟨false, rfl, q⟩
    | lst h _ => exact ⟨false, rfl, q⟩
    | tup h _ => exact ⟨false, rfl, q⟩
theorem ok_is_sized (T : Tab K mg) : FnOk P w K mg base CX0 2 T.f_is_sized T.d_is_sized ["thing", "least", "most"] (sp_is_sized K) := by
  refine T.F_is_sized.ok sc_is_sized (fun vs H Q E h => ?_) (fun cdv A outer s H vs Q E hr h => ?_)
  · obtain ⟨v, d, l, m, rfl, _⟩ := h
    rfl
  · obtain ⟨v, d, l, m, rfl, hd, q⟩ := h
    refine ⟨_, (pss_one (ps_ret (pe_and (pe_call (ok_is_tuple T) (hr.mono (by decide)) (by rfl) T.g_is_tuple T.F_is_tuple.kp T.b_is_tuple .nil pass0 (pa_cons (pv 0) pa_nil)) (pe_one (pe_chain op_le op_le (pv 1) (pe_callB call_len_seq (by rfl) T.m_len PySem.boot_len (pa_cons (pv 0) pa_nil)) (pv 2)))))), ?_⟩
    refine ⟨_, rfl, _, d, rfl, hd, fun H1 s1 => ?_⟩
    have q1 := q H1 s1
    have cut : ∀ ds : List PyData, items d = some ds → ∀ e : Bool, (l ≤ (ds.length : Int)) → (decide ((ds.length : Int) ≤ m) = e) → sz l m d = e := fun ds hi e h1 h2 => by
      unfold sz
      rw [hi]
      simp only
      rw [← h2]
      simp [h1]
    have cut0 : ∀ ds : List PyData, items d = some ds → ¬ (l ≤ (ds.length : Int)) → sz l m d = false := fun ds hi h1 => by
      unfold sz
      rw [hi]
      simp [h1]
    cases hd with
    | lst h k =>
      rename_i a xs ds
      have el := dpAll_len k
      refine ⟨true, rfl, iteT ?_⟩
      refine ⟨_, rfl, _, rfl, _, _, rfl, .inl (s1.seq h), _, _, rfl, rfl, _, rfl, ite2 (fun e => ?_) (fun e => ?_)⟩
      · have h1 := of_decide_eq_true e
        rw [el] at h1 ⊢
        refine ⟨_, rfl, _, _, rfl, rfl, ?_⟩
        rw [cut ds rfl _ h1 rfl] at q1
        exact q1
      · have h1 : ¬ (l ≤ (ds.length : Int)) := fun z => e (by rw [el]; exact decide_eq_true z)
        rw [cut0 ds rfl h1] at q1
        exact q1
    | tup h k =>
      rename_i a xs ds
      have el := dpAll_len k
      refine ⟨true, rfl, iteT ?_⟩
      refine ⟨_, rfl, _, rfl, _, _, rfl, .inr (same_seqT s1 h), _, _, rfl, rfl, _, rfl, ite2 (fun e => ?_) (fun e => ?_)⟩
      · have h1 := of_decide_eq_true e
        rw [el] at h1 ⊢
        refine ⟨_, rfl, _, _, rfl, rfl, ?_⟩
        rw [cut ds rfl _ h1 rfl] at q1
        exact q1
      · have h1 : ¬ (l ≤ (ds.length : Int)) := fun z => e (by rw [el]; exact decide_eq_true z)
        rw [cut0 ds rfl h1] at q1
        exact q1
    | non => exact ⟨false, rfl, q1⟩
    | bl b => exact ⟨false, rfl, q1⟩
    | int i => exact ⟨false, rfl, q1⟩
    | str z => exact ⟨false, rfl, q1⟩
theorem ok_figure (T : Tab K mg) : FnOk P w K mg base CX0 2 T.f_figure T.d_figure ["_law_source_here", "_law_least_here"] (sp_figure K) := by
  refine T.F_figure.ok sc_figure (fun vs H Q E h => ?_) (fun cdv A outer s H vs Q E hr h => ?_)
  · obtain ⟨a, l, rfl, _⟩ := h
    rfl
  · obtain ⟨a, l, rfl, src, l0, l1, q⟩ := h
    refine ⟨_, (pss_cons (ps_set (i := 2) sc_figure.nd rfl (.inl rfl) (pe_call (ok_pick T) (hr.mono (by decide)) (by rfl) T.g_pick T.F_pick.kp T.b_pick .nil pass0 (pa_cons (pv 0) (pa_cons pe_int pa_nil))))
      (pss_cons (ps_if (pt_cmpR op_eq (pv 2) pe_int (nomark _))
      (pss_one (ps_ret (pe_op op_add (pv 1) (pe_call (ok_pick T) (hr.mono (by decide)) (by rfl) T.g_pick T.F_pick.kp T.b_pick .nil pass0 (pa_cons (pv 0) (pa_cons pe_int pa_nil))))))
      pss_nil)
      (pss_cons (ps_if (pt_cmpR op_eq (pv 2) pe_int (nomark _))
      (pss_one (ps_ret (pe_op op_add pe_int (pe_call (ok_pick T) (hr.mono (by decide)) (by rfl) T.g_pick T.F_pick.kp T.b_pick .nil pass0 (pa_cons (pv 0) (pa_cons pe_int pa_nil))))))
      pss_nil)
      (pss_one (ps_ret (pe_op op_add (pv 1) (pe_call (ok_pick T) (hr.mono (by decide)) (by rfl) T.g_pick T.F_pick.kp T.b_pick .nil pass0 (pa_cons (pv 0) (pa_cons (pe_op op_sub pe_int (pv 1)) pa_nil))))))))), ?_⟩
    refine ⟨_, rfl, _, _, rfl, src, by decide, by decide, fun w1 H1 s1 b1 p1 p2 => ?_⟩
    refine ⟨_, rfl, rfl, _, rfl, ite2 (fun e => ?_) (fun e => ?_)⟩
    · refine ⟨_, rfl, _, rfl, _, _, rfl, s1, by decide, by decide, fun r H2 s2 b2 p3 p4 => ?_⟩
      refine ⟨_, _, rfl, rfl, ?_⟩
      exact q _ H2 s2 (b1.trans b2) (by omega) (by omega)
    refine ⟨_, rfl, rfl, _, rfl, ite2 (fun e => ?_) (fun e => ?_)⟩
    · refine ⟨_, rfl, _, _, rfl, s1, by decide, by decide, fun r H2 s2 b2 p3 p4 => ?_⟩
      refine ⟨_, _, rfl, rfl, ?_⟩
      exact q _ H2 s2 (b1.trans b2) (by omega) (by omega)
    refine ⟨_, rfl, _, rfl, _, rfl, _, _, rfl, rfl, _, _, rfl, s1, by omega, by omega, fun r H2 s2 b2 p3 p4 => ?_⟩
    refine ⟨_, _, rfl, rfl, ?_⟩
    exact q _ H2 s2 (b1.trans b2) (by omega) (by omega)
theorem ok_middle (T : Tab K mg) : FnOk P w K mg base CX0 2 T.f_middle T.d_middle ["_law_low", "_law_high"] (sp_middle K) := by
  refine T.F_middle.ok sc_middle (fun vs H Q E h => ?_) (fun cdv A outer s H vs Q E hr h => ?_)
  · obtain ⟨x, y, L, M, rfl, _⟩ := h
    rfl
  · obtain ⟨x, y, L, M, rfl, hx, hy, hL, q⟩ := h
    refine ⟨_, (pss_cons (ps_for PassesOwn.never rfl (pi_list (pe_lst (pa_cons pe_int (pa_cons pe_int (pa_cons pe_int pa_nil))))) (pg_name (i := 2) sc_middle.nd rfl (.inl rfl))
      (pss_cons (ps_set (i := 3) sc_middle.nd rfl (.inl rfl) (pe_call (ok_least T) (hr.mono (by decide)) (by rfl) T.g_least T.F_least.kp T.b_least .nil pass0 (pa_cons (pv 0) (pa_cons (pv 2) pa_nil))))
        (pss_one (ps_if (PW.pt (pw_and (pt_cmpR op_notN (pv 3) pe_non (nomark _)) (pw_and1 (pt_cmpR (op_ltT hr.units0) (pv 3) (pv 1) (nomark _)))))
        (pss_one (ps_ret (pv 3)))
        pss_nil))))
      (pss_one (ps_ret pe_non))), ?_⟩
    refine ⟨(by show 3 ≤ sizeLine; decide), fun l nl => ?_⟩
    have sl := same_upd (o := .lst [V.int 1, .int 2, .int 3]) nl
    refine ⟨l, rfl, ⟨_, .inl (.inl upd_same)⟩, for_list (xs := [V.int 1, .int 2, .int 3]) (fun i σ' H' => ∃ (n2 n3 : Option V), σ' = [some x, some y, n2, n3] ∧ Same (upd H l (.lst [V.int 1, .int 2, .int 3])) H' ∧ pickN (some L) (some M) ([1, 2, 3].drop i) = btw (some L) (some M)) ⟨none, none, rfl, Same.refl _, rfl⟩ (fun i σ' H' _ ⟨_, _, _, s, _⟩ => .inl (.inl (s _ _ upd_same))) ?_ ?_⟩
    · rintro i z σ' H3 hz ⟨n2, n3, rfl, s3, ep⟩
      have ei : ∃ n : Nat, z = .int (n : Int) ∧ [1, 2, 3].drop i = n :: [1, 2, 3].drop (i + 1) ∧ 1 ≤ n ∧ n ≤ 3 := by
        have : i < 3 := (List.getElem?_eq_some_iff.mp hz).1
        have : i = 0 ∨ i = 1 ∨ i = 2 := by omega
        rcases this with rfl | rfl | rfl
        · exact ⟨1, (Option.some.inj hz).symm, rfl, by decide, by decide⟩
        · exact ⟨2, (Option.some.inj hz).symm, rfl, by decide, by decide⟩
        · exact ⟨3, (Option.some.inj hz).symm, rfl, by decide, by decide⟩
      obtain ⟨n, rfl, ei, n1, n3'⟩ := ei
      rw [ei] at ep
      have s13 := sl.trans s3
      have hx3 := dp_same s13 hx
      have hy3 := dp_same s13 hy
      refine ⟨_, rfl, _, rfl, x, L, n, rfl, hx3, hL.2.2, hL.1, n1, n3', fun v H4 s4 hv => ?_⟩
      have go : ∀ {n3 : Option V}, pickN (some L) (some M) ([1, 2, 3].drop (i + 1)) = btw (some L) (some M) → ∃ (n2 n3' : Option V), [some x, some y, some (V.int (n : Int)), n3] = [some x, some y, n2, n3'] ∧ Same (upd H l (.lst [V.int 1, .int 2, .int 3])) H4 ∧ pickN (some L) (some M) ([1, 2, 3].drop (i + 1)) = btw (some L) (some M) := fun {n3} b => ⟨_, n3, rfl, s3.trans s4, b⟩
      have s14 := s13.trans s4
      cases el : least L n with
      | none =>
        rw [el] at hv
        cases hv
        refine ⟨_, rfl, rfl, _, rfl, ite2 (fun e => by simp at e) (fun _ => ?_)⟩
        exact go ((pickN_none (lo := some L) el).symm.trans ep)
      | some N =>
        rw [el] at hv
        obtain ⟨p, rfl, hp⟩ := dL_inv hv
        have hy4 := dp_same s4 hy3
        obtain ⟨r, rfl, hr4⟩ := dL_inv hy4
        refine ⟨_, rfl, rfl, _, rfl, ite2 (fun _ => ?_) (fun e => absurd (show (!decide (V.ref p = V.non)) = true by simp) e)⟩
        refine ⟨_, rfl, _, rfl, p, r, N, M, rfl, rfl, hp, hr4, _, rfl, ?_⟩
        by_cases hlt : HT.lexLt N M = true
        · rw [hlt]
          refine iteT ⟨_, rfl, q _ _ s14 ?_⟩
          rw [ep.symm.trans (pickN_yes (lo := some L) (hi := some M) el hlt)]
          exact hv
        · rw [Bool.not_eq_true] at hlt
          rw [hlt]
          exact iteF (go ((pickN_no (lo := some L) (hi := some M) el hlt).symm.trans ep))
    · rintro σ' H3 ⟨n2, n3, rfl, s3, ep⟩
      refine q .non _ (sl.trans s3) ?_
      rw [← ep]
      exact .non
theorem ok_same (T : Tab K mg) : FnOk P w K mg base CX0 2 T.f_same T.d_same ["_law_actual", "_law_dues_here"] (sp_same K) := by
  refine T.F_same.ok sc_same (fun vs H Q E h => ?_) (fun cdv A outer s H vs Q E hr h => ?_)
  · obtain ⟨t, p, zs, ws, Ms, rfl, _⟩ := h
    rfl
  · obtain ⟨t, p, zs, ws, Ms, rfl, ht, hz, ep, hw, hl, q⟩ := h
    refine ⟨_, (pss_cons (ps_if (PW.pt (pw_or (pt_not (pt_val (pe_callB call_isi (by rfl) T.m_isinstance (by decide +kernel) (pa_cons (pv 0) (pa_cons (pe_bltn (v := .ty "tuple") (u := .type "tuple") (by rfl) T.m_tuple (by decide +kernel) rfl) pa_nil))))) (pw_or1 (pt_cmpR op_ne (pe_callB call_len_seq (by rfl) T.m_len PySem.boot_len (pa_cons (pv 0) pa_nil)) (pe_callB call_len_seq (by rfl) T.m_len PySem.boot_len (pa_cons (pv 1) pa_nil)) (nomark _)))))
      (pss_one (ps_ret pe_bl))
      pss_nil)
      (pss_cons (ps_for PassesOwn.never rfl (pi_range1 (by rfl) T.m_range (pa_cons (pe_callB call_len_seq (by rfl) T.m_len PySem.boot_len (pa_cons (pv 1) pa_nil)) pa_nil)) (pg_name (i := 2) sc_same.nd rfl (.inl rfl))
      (pss_cons (ps_if (PW.pt (pw_or (pt_not (pt_val (pe_callB call_isi (by rfl) T.m_isinstance (by decide +kernel) (pa_cons (pe_ix ix_tup (pv 0) (pv 2) (fun _ _ => rfl)) (pa_cons (pe_bltn (v := .ty "tuple") (u := .type "tuple") (by rfl) T.m_tuple (by decide +kernel) rfl) pa_nil))))) (pw_or1 (pt_cmpR (op_neD hr.units) (pe_ix ix_tup (pv 0) (pv 2) (fun _ _ => rfl)) (pe_ix ix_list (pv 1) (pv 2) (fun _ _ => rfl)) (nomark _)))))
        (pss_one (ps_ret pe_bl))
        pss_nil)
        (pss_one (ps_for PassesOwn.never rfl (pi_tup (pe_ix ix_tup (pv 0) (pv 2) (fun _ _ => rfl))) (pg_name (i := 3) sc_same.nd rfl (.inl rfl))
        (pss_one (ps_if (pt_not (pt_val (pe_call (ok_law_is_integer T) (hr.mono (by decide)) (by rfl) T.g_law_is_integer T.F_law_is_integer.kp T.b_law_is_integer .nil pass0 (pa_cons (pv 3) pa_nil))))
          (pss_one (ps_ret pe_bl))
          pss_nil))))))
      (pss_one (ps_ret pe_bl)))), ?_⟩
    have zl := dpAll_len hz
    have wl := dpAll_len hw
    rw [List.length_map] at zl wl
    refine ⟨_, rfl, _, _, _, _, _, rfl, .ty "tuple", ty_T ht, kit_ty (by decide +kernel), true, rfl, iteF ?_⟩
    refine ⟨_, rfl, _, _, rfl, .inr ht, _, rfl, _, _, rfl, .inl (.inl (.inl ep)), rfl, _, rfl, ite2 (fun e => absurd e (by rw [zl, wl]; simp)) (fun _ => ?_)⟩
    refine ⟨_, rfl, _, _, rfl, .inl (.inl (.inl ep)), _, rfl, by omega, by omega, for_range (lo := 0) (n := (ws.length : Int).toNat) (fun i σ' H' => ∃ y2 y3 : Option V, σ' = [some (.ref t), some (.ref p), y2, y3] ∧ H' = H) ⟨none, none, rfl, rfl⟩ ?_ ?_⟩
    · rintro i σ' H' hi ⟨y2, y3, rfl, rfl⟩
      have hiM : i < Ms.length := by omega
      obtain ⟨p1, e1, h1⟩ := row_at hz hiM
      obtain ⟨p2, e2, h2⟩ := row_at hw hiM
      refine ⟨_, rfl, _, rfl, t, _, _, _, rfl, rfl, ht, at_of' (j := i) (by omega) e1, _, _, _, _, _, rfl, .ty "tuple", ty_T h1, kit_ty (by decide +kernel), true, rfl, iteF ?_⟩
      refine ⟨_, rfl, _, rfl, t, _, _, _, rfl, rfl, ht, at_of' (j := i) (by omega) e1, _, rfl, _, rfl, p, _, _, _, rfl, rfl, .inl (.inl ep), at_of' (j := i) (by omega) e2, dL _, dL _, dpL h1, dpL h2, shaped_it _, shaped_it _, _, rfl, ite2 (fun e => absurd e (by rw [eqv_dL]; decide)) (fun _ => ?_)⟩
      refine ⟨_, rfl, _, rfl, t, _, _, _, rfl, rfl, ht, at_of' (j := i) (by omega) e1, p1, rfl, ⟨_, h1⟩, for_tup (xs := (Ms.getD i []).map V.int) (fun j σ' H'' => ∃ y3 : Option V, σ' = [some (.ref t), some (.ref p), some (.int (0 + (i : Int))), y3] ∧ H'' = H') ⟨y3, rfl, rfl⟩ (fun j σ' H'' _ ⟨_, _, e⟩ => by rw [e]; exact h1) ?_ ?_⟩
      · rintro j x σ' H'' hx ⟨y3, rfl, rfl⟩
        rw [List.getElem?_map] at hx
        cases e : (Ms.getD i [])[j]? with
        | none => rw [e] at hx; cases hx
        | some z =>
          rw [e] at hx
          cases hx
          refine ⟨_, rfl, z, rfl, true, rfl, iteF ?_⟩
          exact ⟨_, rfl, rfl⟩
      · rintro σ' H'' ⟨y3, rfl, rfl⟩
        exact ⟨_, _, rfl, rfl⟩
    · rintro σ' H' ⟨y2, y3, rfl, rfl⟩
      exact q
theorem ok_odd (T : Tab K mg) : FnOk P w K mg base CX0 2 T.f_odd T.d_odd ["_law_source_here", "_law_label_here"] (sp_odd K) := by
  refine T.F_odd.ok sc_odd (fun vs H Q E h => ?_) (fun cdv A outer s H vs Q E hr h => ?_)
  · obtain ⟨a, v, L, rfl, _⟩ := h
    rfl
  · obtain ⟨a, v, L, rfl, src, hv, hL, q0⟩ := h
    refine ⟨_, (pss_cons (ps_set (i := 2) sc_odd.nd rfl (.inl rfl) (pe_call (ok_pick T) (hr.mono (by decide)) (by rfl) T.g_pick T.F_pick.kp T.b_pick .nil pass0 (pa_cons (pv 0) (pa_cons (pe_callB call_len_seq (by rfl) T.m_len PySem.boot_len (pa_cons (pv 1) pa_nil)) pa_nil))))
      (pss_cons (ps_set (i := 3) sc_odd.nd rfl (.inl rfl) (pe_call (ok_pick T) (hr.mono (by decide)) (by rfl) T.g_pick T.F_pick.kp T.b_pick .nil pass0 (pa_cons (pv 0) (pa_cons pe_int pa_nil))))
      (pss_cons (ps_if (pt_cmpR op_eq (pv 3) pe_int (nomark _))
      (pss_one (ps_ret pe_non))
      pss_nil)
      (pss_cons (ps_if (pt_cmpR op_eq (pv 3) pe_int (nomark _))
      (pss_one (ps_ret (pe_op op_catA (pe_op op_catA (pe_slice sl_tupA (pv 1) po_none (po_some (pv 2))) (pe_tup (pa_cons pe_int pa_nil))) (pe_slice sl_tupA (pv 1) (po_some (pe_op op_add (pv 2) pe_int)) po_none))))
      pss_nil)
      (pss_cons (ps_if (pt_cmpR op_eq (pv 3) pe_int (nomark _))
      (pss_one (ps_ret (pe_op op_catA (pv 1) (pe_tup (pa_cons pe_int pa_nil)))))
      pss_nil)
      (pss_cons (ps_if (pt_cmpR op_eq (pv 3) pe_int (nomark _))
      (pss_one (ps_ret (pe_op op_catA (pe_op op_catA (pe_slice sl_tupA (pv 1) po_none (po_some (pv 2))) (pe_tup (pa_cons (pe_un un_neg pe_int) pa_nil))) (pe_slice sl_tupA (pv 1) (po_some (pe_op op_add (pv 2) pe_int)) po_none))))
      pss_nil)
      (pss_cons (ps_if (pt_cmpR op_eq (pv 3) pe_int (nomark _))
      (pss_one (ps_ret (pe_op op_catA (pe_op op_catA (pe_tup (pa_cons pe_int (pa_cons pe_int pa_nil))) (pe_slice sl_tupA (pv 1) po_none (po_some pe_int))) (pe_tup (pa_cons pe_int pa_nil)))))
      pss_nil)
      (pss_cons (ps_if (pt_cmpR op_eq (pv 3) pe_int (nomark _))
      (pss_one (ps_ret (pe_op op_catA (pe_op op_catA (pe_slice sl_tupA (pv 1) po_none (po_some (pv 2))) (pe_tup (pa_cons pe_bl pa_nil))) (pe_slice sl_tupA (pv 1) (po_some (pe_op op_add (pv 2) pe_int)) po_none))))
      pss_nil)
      (pss_cons (ps_if (pt_cmpR op_eq (pv 3) pe_int (nomark _))
      (pss_one (ps_ret (pe_ix (ix_tupK (K := K) rfl) (pv 1) (pe_un un_neg pe_int) (fun _ _ => rfl))))
      pss_nil)
      (pss_one (ps_ret (pe_tup pa_nil)))))))))))), ?_⟩
    obtain ⟨p, rfl, hp0⟩ := dL_inv hv
    have q : ∀ y (d : PyData) H', Src H' a → But a H H' → Dp K H' y d → Od d → Q y H' := fun y d H' h1 h2 h3 h4 => q0 y d H' h1 h2 h3 h4.1.2 h4.2.1 h4.2.2
    have hl1 : 1 ≤ L.length := by
      have := okL_ne hL
      cases L with
      | nil => exact absurd rfl this
      | cons x r => exact Nat.succ_le_succ (Nat.zero_le _)
    have hl3 := hL.1
    have hlen : (L.map V.int).length = L.length := List.length_map ..
    refine ⟨_, rfl, _, rfl, _, _, rfl, .inr hp0, _, _, rfl, src, by omega, by omega, fun k H1 s1 b1 k0 k1 => ?_⟩
    have hp1 := sqT_src src b1 hp0
    refine ⟨_, rfl, _, _, rfl, s1, by decide, by decide, fun w H2 s2 b2 w0 w1 => ?_⟩
    rw [hlen] at k1
    have hp := sqT_src s1 b2 hp1
    have b12 := b1.trans b2
    obtain ⟨n, rfl⟩ := Int.eq_ofNat_of_zero_le k0
    have hn : n < L.length := by omega
    have tk : ∀ {Hx : Hp} {c : Addr}, SqT K Hx c (cutV (L.map V.int) none (some (n : Int))) → SqT K Hx c ((L.take n).map V.int) := fun h => by rw [cutV_to, ← List.map_take] at h; exact h
    have dr : ∀ {Hx : Hp} {c : Addr}, SqT K Hx c (cutV (L.map V.int) (some ((n : Int) + 1)) none) → SqT K Hx c ((L.drop (n + 1)).map V.int) := fun h => by
      rw [show ((n : Int) + 1) = ((n + 1 : Nat) : Int) by omega, cutV_from, ← List.map_drop] at h
      exact h
    have lt : ((L.take n).map V.int).length ≤ 3 := by rw [List.length_map, List.length_take]; omega
    have ld : ((L.drop (n + 1)).map V.int).length ≤ 3 := by rw [List.length_map, List.length_drop]; omega
    -- one integer exchanged: from the first part and the row of one on
    have rep : ∀ (H5 : Hp) (c t : Addr) (x : V) (d : PyData), Src H5 a → But a H H5 → SqT K H5 p (L.map V.int) → SqT K H5 c ((L.take n).map V.int) → SqT K H5 t [x] → (∀ Hx, Dp K Hx x d) → Atom d → toO d = none →
        ∀ M : VK, (∀ y H6, rSlA K (.ref p) (some ((n : Int) + 1)) none H6 (fun z H7 => rCatA K y z H7 Q) → M y H6) → rCatA K (.ref c) (.ref t) H5 M := fun H5 c t x d s5 b5 hp5 hc ht hx ha hnn M hM => by
      refine cat_go hc ht (by show _ + 1 ≤ 1000; omega) fun c2 H6 s6 h6 => hM _ _ ?_
      refine sl_go (same_seqT s6 hp5) fun c3 H7 s7 h7 => ?_
      refine cat_go (same_seqT s7 h6) (dr h7) (by rw [List.length_append]; show _ + 1 + _ ≤ 1000; omega) fun c4 H8 s8 h8 => ?_
      have s58 := (s6.trans s7).trans s8
      refine q (.ref c4) _ H8 ?_ (b5.trans (But.of s58)) (.tup h8 (dpAll_app (dpAll_app (dp_ints _) (.cons (hx _) .nil)) (dp_ints _))) (od_rep hL hn ha hnn)
      obtain ⟨g, y, z, e⟩ := s5
      exact ⟨g, y, z, s58 _ _ e⟩
    have srcS : ∀ {Hx Hy : Hp}, Src Hx a → Same Hx Hy → Src Hy a := fun s m => by
      obtain ⟨g, y, z, e⟩ := s
      exact ⟨g, y, z, m _ _ e⟩
    refine ⟨_, rfl, rfl, _, rfl, ite2 (fun e => ?_) (fun e => ?_)⟩
    · exact q0 .non .none H2 s2 b12 .non rfl (sm_shown at_none.1 (by decide) (by decide)) ⟨0, trivial⟩
    refine ⟨_, rfl, rfl, _, rfl, ite2 (fun e => ?_) (fun e => ?_)⟩
    · refine ⟨_, rfl, _, rfl, _, rfl, sl_go hp fun c H3 s3 h3 => ?_⟩
      refine ⟨(by show 1 ≤ sizeLine; decide), fun t nt => ?_⟩
      have st := same_upd (o := .tup [V.int (100)]) nt
      exact rep _ c t (.int (100)) (.int (100)) (srcS s2 (s3.trans st)) (b12.trans (But.of (s3.trans st))) (same_seqT (s3.trans st) hp) (same_seqT st (tk h3)) (.inl (.inl upd_same)) (fun _ => .int _) (at_int (by decide)) (by rfl) _ (fun y H6 h => ⟨_, rfl, _, rfl, _, _, rfl, rfl, _, rfl, h⟩)
    refine ⟨_, rfl, rfl, _, rfl, ite2 (fun e => ?_) (fun e => ?_)⟩
    · refine ⟨_, rfl, (by show 1 ≤ sizeLine; decide), fun t nt => ?_⟩
      have st := same_upd (o := .tup [V.int 0]) nt
      refine cat_go (same_seqT st hp) (.inl (.inl upd_same)) (by rw [hlen]; show _ + 1 ≤ 1000; omega) fun c H3 s3 h3 => ?_
      have s23 := st.trans s3
      refine q (.ref c) (.tuple ((L ++ [0]).map PyData.int)) H3 (srcS s2 s23) (b12.trans (But.of s23)) (.tup (by rw [List.map_append]; exact h3) (dp_ints _)) (od_row (by rw [List.length_map, List.length_append]; show L.length + 1 ≤ 5; omega) (at_ints fun i hi => ?_) (keep_last0 hL.2.2))
      rcases List.mem_append.mp hi with h | h
      · exact hL.2.2 i h
      · rw [List.mem_singleton.mp h]; exact ⟨by decide, by decide⟩
    refine ⟨_, rfl, rfl, _, rfl, ite2 (fun e => ?_) (fun e => ?_)⟩
    · refine ⟨_, rfl, _, rfl, _, rfl, sl_go hp fun c H3 s3 h3 => ?_⟩
      refine ⟨1, rfl, (by show 1 ≤ sizeLine; decide), fun t nt => ?_⟩
      have st := same_upd (o := .tup [V.int (-1)]) nt
      exact rep _ c t (.int (-1)) (.int (-1)) (srcS s2 (s3.trans st)) (b12.trans (But.of (s3.trans st))) (same_seqT (s3.trans st) hp) (same_seqT st (tk h3)) (.inl (.inl upd_same)) (fun _ => .int _) (at_int (by decide)) (by rfl) _ (fun y H6 h => ⟨_, rfl, _, rfl, _, _, rfl, rfl, _, rfl, h⟩)
    refine ⟨_, rfl, rfl, _, rfl, ite2 (fun e => ?_) (fun e => ?_)⟩
    · refine ⟨(by show 2 ≤ sizeLine; decide), fun t nt => ?_⟩
      have st := same_upd (o := .tup [V.int 1, V.int 0]) nt
      refine ⟨_, rfl, 1, rfl, sl_go (same_seqT st hp) fun c H3 s3 h3 => ?_⟩
      have h3 : SqT K H3 c ((L.take 1).map V.int) := by
        have e := cutV_to (L.map V.int) 1
        rw [← List.map_take] at e
        rw [show cutV (L.map V.int) none (some (1 : Int)) = (L.take 1).map V.int from e] at h3
        exact h3
      refine cat_go (same_seqT s3 (.inl (.inl upd_same))) h3 (by rw [List.length_map, List.length_take]; show 2 + _ ≤ 1000; omega) fun c2 H4 s4 h4 => ?_
      refine ⟨(by show 1 ≤ sizeLine; decide), fun t2 nt2 => ?_⟩
      have st2 := same_upd (o := .tup [V.int 1]) nt2
      refine cat_go (same_seqT st2 h4) (.inl (.inl upd_same)) (by rw [List.length_append, List.length_map, List.length_take]; show 2 + _ + 1 ≤ 1000; omega) fun c3 H5 s5 h5 => ?_
      have s25 := (((st.trans s3).trans s4).trans st2).trans s5
      obtain ⟨x, r, rfl⟩ : ∃ x r, L = x :: r := by
        cases L with
        | nil => exact absurd rfl (okL_ne hL)
        | cons x r => exact ⟨x, r, rfl⟩
      have hx := hL.2.2 x (List.mem_cons_self ..)
      have k4 : ok99 [1, 0, x, 1] := fun i hi => by
        simp only [List.mem_cons, List.not_mem_nil, or_false] at hi
        omega
      refine q (.ref c3) (.tuple ([1, 0, x, 1].map PyData.int)) H5 (srcS s2 s25) (b12.trans (But.of s25)) (.tup h5 (dp_ints [1, 0, x, 1])) (od_row (by show 4 ≤ 5; decide) (at_ints k4) ?_)
      rw [toO_ints k4, keep_map, if_neg (fun h => absurd h.1 (by show ¬ 4 ≤ 3; decide))]
    refine ⟨_, rfl, rfl, _, rfl, ite2 (fun e => ?_) (fun e => ?_)⟩
    · refine ⟨_, rfl, _, rfl, _, rfl, sl_go hp fun c H3 s3 h3 => ?_⟩
      refine ⟨(by show 1 ≤ sizeLine; decide), fun t nt => ?_⟩
      have st := same_upd (o := .tup [V.bl false]) nt
      exact rep _ c t (.bl false) (.bool false) (srcS s2 (s3.trans st)) (b12.trans (But.of (s3.trans st))) (same_seqT (s3.trans st) hp) (same_seqT st (tk h3)) (.inl (.inl upd_same)) (fun _ => .bl _) at_false rfl _ (fun y H6 h => ⟨_, rfl, _, rfl, _, _, rfl, rfl, _, rfl, h⟩)
    refine ⟨_, rfl, rfl, _, rfl, ite2 (fun e => ?_) (fun e => ?_)⟩
    · obtain ⟨R, z, rfl, r9, r2, z1, z9⟩ := okL_split hL
      refine ⟨_, rfl, 1, rfl, p, _, _, _, rfl, rfl, hp, at_end R z, ?_⟩
      exact q (.int z) (.int z) H2 s2 b12 (.int z) ⟨⟨(fun h => nomatch h), rfl⟩, sm_shown (at_int (by omega)).1 (by decide) (by decide), 0, trivial⟩
    exact ⟨Nat.zero_le _, fun t nt => q (.ref t) (.tuple []) _ (srcN s2 nt _) (b12.trans (But.of (same_upd nt))) (.tup (.inl (.inl upd_same)) .nil) (od_row (by decide) (fun _ h => nomatch h) rfl)⟩
theorem ok_kept_label (T : Tab K mg) : FnOk P w K mg base CX0 3 T.f_kept_label T.d_kept_label ["thing"] (sp_kept_label K) := by
  refine T.F_kept_label.ok sc_kept_label (fun vs H Q E h => ?_) (fun cdv A outer s H vs Q E hr h => ?_)
  · obtain ⟨v, d, rfl, _⟩ := h
    rfl
  · obtain ⟨v, d, rfl, hd, q⟩ := h
    refine ⟨_, (pss_cons (ps_if (pt_not (pt_val (pe_call (ok_is_sized T) (hr.mono (by decide)) (by rfl) T.g_is_sized T.F_is_sized.kp T.b_is_sized .nil pass0 (pa_cons (pv 0) (pa_cons pe_int (pa_cons (pe_glob (v := .int 3) (by rfl) T.c_MOST_PARTS ⟨_, rfl⟩) pa_nil))))))
      (pss_one (ps_ret pe_non))
      pss_nil)
      (pss_cons (ps_if (PW.pt (pw_or (pt_not (pt_val (pe_callB (cr_all rfl) (by rfl) T.m_all (by decide +kernel) (pa_cons (pe_lc (own := [("part", 1)]) (g := gName 1) (by rfl) sc_kept_label.nd (pi_or (pi_list (pv 0)) (pi_tup (pv 0))) (blkOk_by (own := [("part", 1)]) (N := N_kept_label) (sc := defScope s_kept_label) (by decide +kernel)) (fun _ _ _ _ _ => pg_name (i := 1) sc_kept_label.nd rfl (.inl rfl)) (fun _ _ _ _ _ => pts_nil) (fun _ _ _ _ _ => (pe_call (ok_is_within T) (hr.mono (by decide)) (by rfl) T.g_is_within T.F_is_within.kp T.b_is_within .nil pass0 (pa_cons (pv 1) (pa_cons pe_int (pa_cons pe_int pa_nil)))))) pa_nil)))) (pw_or1 (pt_cmpR op_eq (pe_ix (IxR.or ix_list ix_tup) (pv 0) (pe_un un_neg pe_int) (fun _ _ => rfl)) pe_int (nomark _)))))
      (pss_one (ps_ret pe_non))
      pss_nil)
      (pss_one (ps_ret (pe_callTy call_tuple_of (by rfl) T.m_tuple (by decide +kernel) (pa_cons (pv 0) pa_nil)))))), ?_⟩
    refine ⟨_, rfl, _, d, 1, 3, rfl, hd, fun H1 s1 => ⟨_, rfl, ?_⟩⟩
    have no : keptD d = none → Q .non H1 := fun e => q .non H1 s1 (by rw [e]; exact .non)
    -- of a row: all of it is looked at
    have row : ∀ (ds : List PyData), items d = some ds → sz 1 3 d = decide ((1 : Int) ≤ (ds.length : Int) ∧ (ds.length : Int) ≤ 3) := fun ds hi => by unfold sz; rw [hi]
    have kd : ∀ (ds : List PyData), items d = some ds → keptD d = keep (ds.map toO) := fun ds hi => by unfold keptD; rw [hi]
    have kb : ∀ (ds : List PyData), items d = some ds → ¬ ((1 : Int) ≤ (ds.length : Int) ∧ (ds.length : Int) ≤ 3) → keptD d = none := fun ds hi h => by
      rw [kd ds hi]
      unfold keep
      cases e : allSome (ds.map toO) with
      | none => rfl
      | some L =>
        have eo := allSome_all e
        have el : ds.length = L.length := by have := congrArg List.length eo; rw [List.length_map, List.length_map] at this; exact this
        simp only
        rw [if_neg ?_]
        rintro ⟨h1, h2⟩
        apply h
        rw [el]
        refine ⟨?_, by omega⟩
        cases L with
        | nil => exact absurd rfl h2
        | cons x r => simp only [List.length_cons]; omega
    cases hd with
    | non => exact no rfl
    | bl b => exact no rfl
    | int i => exact no rfl
    | str z => exact no rfl
    | lst h k => 
      rename_i a xs ds
      have hl := dpAll_len k
      by_cases hsz : (1 : Int) ≤ (ds.length : Int) ∧ (ds.length : Int) ≤ 3
      · rw [row ds rfl, decide_eq_true hsz]
        have hS := s1.seq h
        have k1 := dpAll_same s1 k
        refine .inl ⟨_, rfl, a, rfl, ⟨_, hS⟩, fun D nD => ?_⟩
        refine lc_list (xs := xs) (fun i H' => Same H1 H' ∧ H' D = some (.lst ((ds.take i).map fun d => V.bl (wI 0 99 d)))) ⟨same_upd nD, upd_same⟩ (fun i H' _ hh => Same.seq hh.1 hS) ?_ ?_
        · rintro i x H' hx ⟨sm, eD⟩
          obtain ⟨e, he, hde⟩ := dpAll_get k1 hx
          refine ⟨rfl, ?_⟩
          refine ⟨_, rfl, _, e, 0, 99, rfl, dp_same sm hde, _, eD, ?_, same_put sm nD _, ?_⟩
          · rw [List.length_map, List.length_take]; exact small1000 (by omega)
          · rw [upd_same, List.take_add_one, he, List.map_append]; rfl
        · rintro H' ⟨sm, eD⟩
          rw [hl, List.take_length, map_bl] at eD
          have s2 := s1.trans sm
          refine ⟨D, _, rfl, .inl (.inl eD), _, rfl, ?_⟩
          rw [all_bl]
          by_cases hA : ds.all (wI 0 99) = true
          · obtain ⟨L, rfl, hL9⟩ := all_ints hA
            obtain ⟨R, z, rfl⟩ : ∃ R z, L = R ++ [z] := by
              have hne : L ≠ [] := fun e => by rw [e] at hsz; simp at hsz
              exact ⟨_, _, (List.dropLast_concat_getLast hne).symm⟩
            rw [hA]
            have ex : xs = (R ++ [z]).map V.int := dp_ints_inv k
            rw [ex] at h hS
            have ekd := kd _ rfl
            rw [toO_ints hL9, keep_map] at ekd
            have egl : (R ++ [z]).getLastD 0 = z := by rw [List.getLastD_eq_getLast?, List.getLast?_append]; rfl
            rw [egl] at ekd
            have l3 : (R ++ [z]).length ≤ 3 := by rw [List.length_map] at hsz; omega
            refine ⟨_, rfl, 1, rfl, .inl ⟨_, _, _, _, rfl, rfl, Same.seq sm hS, at_end R z, rfl, _, rfl, ?_⟩⟩
            by_cases h0 : z = 0
            · rw [decide_eq_true (congrArg V.int h0)]
              exact q .non H' s2 (by rw [ekd, if_neg (fun h => h.2 h0)]; exact .non)
            · rw [decide_eq_false (fun h => h0 (V.int.inj h))]
              refine ⟨_, rfl, _, _, rfl, .inl ⟨Same.seq sm hS, fun l nl => ?_⟩⟩
              exact q (.ref l) _ (s2.trans (same_upd nl)) (by rw [ekd, if_pos ⟨l3, h0⟩]; exact dpL (.inl (.inl upd_same)))
          · rw [Bool.not_eq_true] at hA
            rw [hA]
            exact q .non H' s2 (by rw [kd ds rfl, keep_none (not_all hA)]; exact .non)
      · rw [row ds rfl, decide_eq_false hsz]
        exact no (kb ds rfl hsz)
    | tup h k =>
      rename_i a xs ds
      have hl := dpAll_len k
      by_cases hsz : (1 : Int) ≤ (ds.length : Int) ∧ (ds.length : Int) ≤ 3
      · rw [row ds rfl, decide_eq_true hsz]
        have hS := same_seqT s1 h
        have k1 := dpAll_same s1 k
        refine .inr ⟨_, rfl, a, rfl, ⟨_, hS⟩, fun D nD => ?_⟩
        refine lc_tup (xs := xs) (fun i H' => Same H1 H' ∧ H' D = some (.lst ((ds.take i).map fun d => V.bl (wI 0 99 d)))) ⟨same_upd nD, upd_same⟩ (fun i H' _ hh => same_seqT hh.1 hS) ?_ ?_
        · rintro i x H' hx ⟨sm, eD⟩
          obtain ⟨e, he, hde⟩ := dpAll_get k1 hx
          refine ⟨rfl, ?_⟩
          refine ⟨_, rfl, _, e, 0, 99, rfl, dp_same sm hde, _, eD, ?_, same_put sm nD _, ?_⟩
          · rw [List.length_map, List.length_take]; exact small1000 (by omega)
          · rw [upd_same, List.take_add_one, he, List.map_append]; rfl
        · rintro H' ⟨sm, eD⟩
          rw [hl, List.take_length, map_bl] at eD
          have s2 := s1.trans sm
          refine ⟨D, _, rfl, .inl (.inl eD), _, rfl, ?_⟩
          rw [all_bl]
          by_cases hA : ds.all (wI 0 99) = true
          · obtain ⟨L, rfl, hL9⟩ := all_ints hA
            obtain ⟨R, z, rfl⟩ : ∃ R z, L = R ++ [z] := by
              have hne : L ≠ [] := fun e => by rw [e] at hsz; simp at hsz
              exact ⟨_, _, (List.dropLast_concat_getLast hne).symm⟩
            rw [hA]
            have ex : xs = (R ++ [z]).map V.int := dp_ints_inv k
            rw [ex] at h hS
            have ekd := kd _ rfl
            rw [toO_ints hL9, keep_map] at ekd
            have egl : (R ++ [z]).getLastD 0 = z := by rw [List.getLastD_eq_getLast?, List.getLast?_append]; rfl
            rw [egl] at ekd
            have l3 : (R ++ [z]).length ≤ 3 := by rw [List.length_map] at hsz; omega
            refine ⟨_, rfl, 1, rfl, .inr ⟨_, _, _, _, rfl, rfl, same_seqT sm hS, at_end R z, rfl, _, rfl, ?_⟩⟩
            by_cases h0 : z = 0
            · rw [decide_eq_true (congrArg V.int h0)]
              exact q .non H' s2 (by rw [ekd, if_neg (fun h => h.2 h0)]; exact .non)
            · rw [decide_eq_false (fun h => h0 (V.int.inj h))]
              refine ⟨_, rfl, _, _, rfl, .inr ⟨same_seqT sm hS, ?_⟩⟩
              exact q (.ref a) _ s2 (by rw [ekd, if_pos ⟨l3, h0⟩]; exact dpL (same_seqT sm hS))
          · rw [Bool.not_eq_true] at hA
            rw [hA]
            exact q .non H' s2 (by rw [kd ds rfl, keep_none (not_all hA)]; exact .non)
      · rw [row ds rfl, decide_eq_false hsz]
        exact no (kb ds rfl hsz)
theorem ok_label (T : Tab K mg) : FnOk P w K mg base CX0 3 T.f_label T.d_label ["_law_source_here"] (sp_label K) := by
  refine T.F_label.ok sc_label (fun vs H Q E h => ?_) (fun cdv A outer s H vs Q E hr h => ?_)
  · obtain ⟨a, rfl, _⟩ := h
    rfl
  · obtain ⟨a, rfl, src, q⟩ := h
    refine ⟨_, (pss_cons (ps_set (i := 1) sc_label.nd rfl (.inl rfl) (pe_op op_add pe_int (pe_call (ok_pick T) (hr.mono (by decide)) (by rfl) T.g_pick T.F_pick.kp T.b_pick .nil pass0 (pa_cons (pv 0) (pa_cons pe_int pa_nil)))))
      (pss_cons (ps_set (i := 2) sc_label.nd rfl (.inl rfl) (pe_lst pa_nil))
      (pss_cons (ps_for PassesOwn.never rfl (pi_range1 (by rfl) T.m_range (pa_cons (pe_op op_sub (pv 1) pe_int) pa_nil)) (pg_name (i := 3) sc_label.nd rfl (.inl rfl))
      (pss_one (ps_expr (pe_bm PySem.F.plainAttrs_list PySem.F.slot_list_append PySem.F.type_list_append mt_append (pv 2) (pa_cons (pe_call (ok_figure T) (hr.mono (by decide)) (by rfl) T.g_figure T.F_figure.kp T.b_figure .nil pass0 (pa_cons (pv 0) (pa_cons pe_int pa_nil))) pa_nil)))))
      (pss_cons (ps_expr (pe_bm PySem.F.plainAttrs_list PySem.F.slot_list_append PySem.F.type_list_append mt_append (pv 2) (pa_cons (pe_call (ok_figure T) (hr.mono (by decide)) (by rfl) T.g_figure T.F_figure.kp T.b_figure .nil pass0 (pa_cons (pv 0) (pa_cons pe_int pa_nil))) pa_nil)))
      (pss_one (ps_ret (pe_callTy call_tuple_of (by rfl) T.m_tuple (by decide +kernel) (pa_cons (pv 2) pa_nil)))))))), ?_⟩
    refine ⟨_, rfl, _, _, rfl, src, by decide, by decide, fun n1 H1 s1 b1 p1 p2 => ?_⟩
    refine ⟨_, _, rfl, rfl, ?_⟩
    refine ⟨Nat.zero_le _, fun D nD => ?_⟩
    have nDa : D ≠ a := (s1.ne nD).symm
    have fD : H D = none := b1.none nD nDa
    have grow : ∀ {L : List Int} {v : Int}, ok99 L → 0 ≤ v → v ≤ 99 → ok99 (L ++ [v]) := fun {L v} hL h0 h9 i hi => by
      rcases List.mem_append.mp hi with h | h
      · exact hL _ h
      · rw [List.mem_singleton.mp h]; exact ⟨h0, h9⟩
    refine ⟨_, rfl, _, _, rfl, rfl, _, rfl, by omega, by omega, for_range (lo := 0) (n := (1 + n1 - 1).toNat) (fun j σ' H' => ∃ (L : List Int) (y : Option V), σ' = [some (.ref a), some (.int (1 + n1)), some (.ref D), y] ∧ Src H' a ∧ But a H H' ∧ H' D = some (.lst (L.map V.int)) ∧ L.length = j ∧ ok99 L) ⟨[], none, rfl, s1.put nDa.symm _, b1.put fD _, upd_same, rfl, (fun _ h => nomatch h)⟩ ?_ ?_⟩
    · rintro j σ' H2 hj ⟨L, y, rfl, s2, b2, eD, lL, bL⟩
      refine ⟨_, rfl, .inl ⟨rfl, _, .inl (.inl eD)⟩, _, rfl, a, 0, rfl, s2, by decide, by decide, fun v H3 s3 b3 p3 p4 => ?_⟩
      have eD3 := b3 _ _ nDa eD
      refine ⟨D, _, _, rfl, rfl, eD3, ?_, L ++ [v], _, rfl, s3.put nDa.symm _, (b2.trans b3).put fD _, ?_, ?_, grow bL (by omega) p4⟩
      · rw [List.length_map]; exact small1000 (by omega)
      · rw [upd_same, List.map_append]; rfl
      · rw [List.length_append, lL]; rfl
    · rintro σ' H2 ⟨L, y, rfl, s2, b2, eD, lL, bL⟩
      refine ⟨_, rfl, .inl ⟨rfl, _, .inl (.inl eD)⟩, _, rfl, a, 1, rfl, s2, by decide, by decide, fun v H3 s3 b3 p3 p4 => ?_⟩
      have eD3 := b3 _ _ nDa eD
      refine ⟨D, _, _, rfl, rfl, eD3, ?_, ?_⟩
      · rw [List.length_map]; exact small1000 (by omega)
      have e4 : upd H3 D (.lst (L.map V.int ++ [V.int v])) D = some (.lst ((L ++ [v]).map V.int)) := by rw [upd_same, List.map_append]; rfl
      refine ⟨_, rfl, D, _, rfl, .inl ⟨.inl (.inl e4), fun t nt => ?_⟩⟩
      have s4 := s3.put nDa.symm (.lst (L.map V.int ++ [V.int v]))
      have b4 := (b2.trans b3).put fD (.lst (L.map V.int ++ [V.int v]))
      refine q t (L ++ [v]) _ (s4.put (s4.ne nt) _) (b4.trans (But.of (same_upd nt))) upd_same ⟨?_, ?_, grow bL (by omega) p4⟩
      · rw [List.length_append, lL]; show _ + 1 ≤ 3; omega
      · rw [List.getLastD_eq_getLast?, List.getLast?_append]
        show v ≠ 0
        omega
theorem ok_dues (T : Tab K mg) : FnOk P w K mg base CX0 3 T.f_dues T.d_dues ["_law_row_here"] (sp_dues K) := by
  refine T.F_dues.ok sc_dues (fun vs H Q E h => ?_) (fun cdv A outer s H vs Q E hr h => ?_)
  · obtain ⟨p, ys, Ls, rfl, _⟩ := h
    rfl
  · obtain ⟨p, ys, Ls, rfl, ep, hy, ok, hl, q⟩ := h
    refine ⟨_, (pss_one (ps_ret (pe_lc (own := [("_law_at", 1)]) (g := gName 1) (by rfl) sc_dues.nd (pi_range1 (by rfl) T.m_range (pa_cons (pe_op op_sub (pe_callB call_len_seq (by rfl) T.m_len PySem.boot_len (pa_cons (pv 0) pa_nil)) pe_int) pa_nil)) (blkOk_by (own := [("_law_at", 1)]) (N := N_dues) (sc := defScope s_dues) (by decide +kernel)) (fun _ _ _ _ _ => pg_name (i := 1) sc_dues.nd rfl (.inl rfl)) (fun _ _ _ _ _ => pts_nil) (fun _ _ _ _ _ => (pe_call (ok_middle T) (hr.mono (by decide)) (by rfl) T.g_middle T.F_middle.kp T.b_middle .nil pass0 (pa_cons (pe_ix (ix_listK (K := K) rfl) (pv 0) (pv 1) (fun _ _ => rfl)) (pa_cons (pe_ix (ix_listK (K := K) rfl) (pv 0) (pe_op op_add (pv 1) pe_int) (fun _ _ => rfl)) pa_nil))))))), ?_⟩
    have yl := dpAll_len hy
    rw [List.length_map] at yl
    have bl := bts_len Ls
    refine ⟨_, rfl, _, _, rfl, .inl (.inl (.inl ep)), _, _, rfl, rfl, _, rfl, by omega, by omega, fun D nD => ?_⟩
    refine lc_range (lo := 0) (n := ((ys.length : Int) - 1).toNat) (fun i H' => Same H H' ∧ ∃ zs : List V, H' D = some (.lst zs) ∧ DpAll K H' zs (((bts Ls).take i).map (oD dL))) ⟨same_upd nD, [], upd_same, .nil⟩ ?_ ?_
    · rintro i H' hi ⟨sm, zs, eD, hz⟩
      have h1 : i + 1 < Ls.length := by omega
      obtain ⟨p1, e1, g1⟩ := row_at hy (k := i) (by omega)
      obtain ⟨p2, e2, g2⟩ := row_at hy h1
      have ep1 := sm _ _ ep
      have zl := dpAll_len hz
      rw [List.length_map, List.length_take] at zl
      refine ⟨rfl, ?_⟩
      refine ⟨_, rfl, _, rfl, p, _, _, _, rfl, rfl, .inl (.inl ep1), at_of' (j := i) (by omega) e1, ?_⟩
      refine ⟨_, rfl, _, rfl, _, _, rfl, rfl, p, _, _, _, rfl, rfl, .inl (.inl ep1), at_of' (j := i + 1) (by omega) e2, ?_⟩
      refine ⟨.ref p1, .ref p2, _, _, rfl, dpL (same_seqT sm g1), dpL (same_seqT sm g2), ok _ (mem_getD (by omega)), fun v H2 s2 hv => ⟨_, s2 _ _ eD, small1000 (by omega), same_put (sm.trans s2) nD _, zs ++ [v], upd_same, ?_⟩⟩
      rw [List.take_add_one, bts_at h1, List.map_append]
      exact dpAll_app (dpAll_butN (s2 _ _ eD) (But.upd _) (dpAll_same s2 hz) (nl_Os _)) (.cons (dp_butN (s2 _ _ eD) (But.upd _) hv (nl_O _)) .nil)
    · rintro H1 ⟨sm, zs, eD, hz⟩
      rw [List.take_of_length_le (by omega)] at hz
      exact q D zs H1 sm nD eD hz
theorem ok_judged_label (T : Tab K mg) : FnOk P w K mg base (L2.CX P w) 4 T.f_judged_label T.d_judged_label ["thing"] (sp_judged_label K T.C_BadLabel) := by
  refine T.F_judged_label.okX sc_judged_label (fun vs H Q E h => ?_) (fun cdv A outer s H vs Q E hr h => ?_)
  · obtain ⟨v, d, rfl, _⟩ := h
    rfl
  · obtain ⟨v, d, rfl, hd, kE, kQ⟩ := h
    refine ⟨_, (pss_cons (ps_set (i := 1) sc_judged_label.nd rfl (.inl rfl) (pe_call (ok_kept_label T) (hr.mono (by decide)) (by rfl) T.g_kept_label T.F_kept_label.kp T.b_kept_label .nil pass0 (pa_cons (pv 0) pa_nil)))
      (pss_cons (ps_if (pt_cmpR op_isN (pv 1) pe_non (nomark _))
      (pss_one (ps_raise rfl (takes_of rfl rfl rfl rfl) (pmk_oex T.o_BadLabel T.g_BadLabel_init T.i_BadLabel (ok_BadLabel_init T) (hr.mono (by decide)) T.b_BadLabel_init .nil (fun _ _ _ _ _ _ _ h => h.elim) (by rfl) T.cg_BadLabel (pa_cons (pv 0) pa_nil))))
      pss_nil)
      (pss_one (ps_ret (pv 1))))), ?_⟩
    refine ⟨_, rfl, _, d, rfl, hd, fun y H1 s1 dp => ?_⟩
    refine ⟨_, rfl, rfl, _, rfl, ite2 (fun e => ?_) (fun e => ?_)⟩
    · have ek : keptD d = none := by
        cases q : keptD d with
        | none => rfl
        | some L =>
          rw [q] at dp
          obtain ⟨a, rfl, _⟩ := dL_inv dp
          exact absurd (of_decide_eq_true e) (by intro z; cases z)
      refine ⟨_, rfl, (by show 1 ≤ 1000; decide), fun a na => ?_⟩
      refine ⟨a, v, rfl, T.o_BadLabel, T.n_BadLabel_label, upd_same, fun dx n1 n2 => ⟨rfl, dx, [("label", v)], upd_same, ?_, ?_, ?_⟩⟩
      · rw [upd_ne n2, upd_same]
      · rw [upd_ne n2] at n1
        exact n1
      · exact kE ek _ dx (same_made s1 na n1 n2) upd_same
    · cases q : keptD d with
      | none =>
        rw [q] at dp
        cases dp
        exact absurd (decide_eq_true rfl) e
      | some L =>
        rw [q] at dp
        exact ⟨_, rfl, kQ L q y H1 s1 dp⟩
theorem ok_behind (T : Tab K mg) : FnOk P w K mg base CX0 4 T.f_behind T.d_behind ["_law_source_here", "_law_low"] (sp_behind K) := by
  refine T.F_behind.ok sc_behind (fun vs H Q E h => ?_) (fun cdv A outer s H vs Q E hr h => ?_)
  · obtain ⟨a, v, L, rfl, _⟩ := h
    rfl
  · obtain ⟨a, v, L, rfl, src, hv, hL, q⟩ := h
    refine ⟨_, (pss_cons (ps_set (i := 2) sc_behind.nd rfl (.inl rfl) (pe_call (ok_pick T) (hr.mono (by decide)) (by rfl) T.g_pick T.F_pick.kp T.b_pick .nil pass0 (pa_cons (pv 0) (pa_cons pe_int pa_nil))))
      (C8.pss_cut (ps_if (PW.pt (pw_and (pt_cmpR op_eq (pv 2) pe_int (nomark _)) (pw_and1 (pt_cmpR op_lt (pe_callB call_len_seq (by rfl) T.m_len PySem.boot_len (pa_cons (pv 1) pa_nil)) pe_int (nomark _)))))
      (pss_one (ps_ret (pe_op op_catA (pv 1) (pe_tup (pa_cons (pe_op op_add pe_int (pe_call (ok_pick T) (hr.mono (by decide)) (by rfl) T.g_pick T.F_pick.kp T.b_pick .nil pass0 (pa_cons (pv 0) (pa_cons pe_int pa_nil)))) pa_nil)))))
      pss_nil)
      (C8.pss_cut (ps_if (PW.pt (pw_and (pt_cmpR op_eq (pv 2) pe_int (nomark _)) (pw_and1 (pt_cmpR op_eq (pe_callB call_len_seq (by rfl) T.m_len PySem.boot_len (pa_cons (pv 1) pa_nil)) pe_int (nomark _)))))
      (pss_one (ps_ret (pe_op op_catA (pv 1) (pe_tup (pa_cons pe_int (pa_cons (pe_op op_add pe_int (pe_call (ok_pick T) (hr.mono (by decide)) (by rfl) T.g_pick T.F_pick.kp T.b_pick .nil pass0 (pa_cons (pv 0) (pa_cons pe_int pa_nil)))) pa_nil))))))
      pss_nil)
      (C8.pss_cut (ps_if (PW.pt (pw_and (pt_cmpR op_eq (pv 2) pe_int (nomark _)) (pw_and1 (pt_cmpR op_lt (pe_ix ix_tup (pv 1) (pe_un un_neg pe_int) (fun _ _ => rfl)) pe_int (nomark _)))))
      (pss_one (ps_ret (pe_op op_catA (pe_slice sl_tup (pv 1) po_none (po_some (pe_un un_neg pe_int))) (pe_tup (pa_cons (pe_op op_add (pe_op op_add (pe_ix ix_tup (pv 1) (pe_un un_neg pe_int) (fun _ _ => rfl)) pe_int) (pe_call (ok_pick T) (hr.mono (by decide)) (by rfl) T.g_pick T.F_pick.kp T.b_pick .nil pass0 (pa_cons (pv 0) (pa_cons pe_int pa_nil)))) pa_nil)))))
      pss_nil)
      (C8.pss_cut (ps_if (PW.pt (pw_and (pt_cmpR op_eq (pv 2) pe_int (nomark _)) (pw_and (pt_cmpR op_gt (pe_callB call_len_seq (by rfl) T.m_len PySem.boot_len (pa_cons (pv 1) pa_nil)) pe_int (nomark _)) (pw_and1 (pt_cmpR op_lt (pe_ix ix_tup (pv 1) pe_int (fun _ _ => rfl)) pe_int (nomark _))))))
      (pss_one (ps_ret (pe_tup (pa_cons (pe_op op_add (pe_ix ix_tup (pv 1) pe_int (fun _ _ => rfl)) pe_int) pa_nil))))
      pss_nil)
      (C8.pss_cut (ps_if (PW.pt (pw_and (pt_cmpR op_eq (pv 2) pe_int (nomark _)) (pw_and (pt_cmpR op_eq (pe_callB call_len_seq (by rfl) T.m_len PySem.boot_len (pa_cons (pv 1) pa_nil)) pe_int (nomark _)) (pw_and1 (pt_cmpR op_lt (pe_ix ix_tup (pv 1) pe_int (fun _ _ => rfl)) pe_int (nomark _))))))
      (pss_one (ps_ret (pe_tup (pa_cons (pe_ix ix_tup (pv 1) pe_int (fun _ _ => rfl)) (pa_cons (pe_op op_add (pe_ix ix_tup (pv 1) pe_int (fun _ _ => rfl)) pe_int) pa_nil)))))
      pss_nil)
      (pss_one (ps_ret (pe_call (ok_label T) (hr.mono (by decide)) (by rfl) T.g_label T.F_label.kp T.b_label .nil pass0 (pa_cons (pv 0) pa_nil)))))))))), ?_⟩
    obtain ⟨p, rfl, hp0⟩ := dL_inv hv
    obtain ⟨R, z, rfl, r9, r2, z1, z9⟩ := okL_split hL
    refine ⟨_, rfl, _, _, rfl, src, by decide, by decide, fun w H1 s1 b1 w0 w1 => ?_⟩
    have hp := sqT_src src b1 hp0
    have hlen : ((R ++ [z]).map V.int).length = R.length + 1 := by rw [List.length_map, List.length_append]; rfl
    have hne : (R ++ [z]).map V.int ≠ [] := fun e => by rw [e] at hlen; cases hlen
    -- a new tuple is what is told
    have fin : ∀ (H2 : Hp) (M : List Int) (t : Addr), Src H2 a → But a H1 H2 → H2 t = none → okL M → Q (.ref t) (upd H2 t (.tup (M.map V.int))) := fun H2 M t s2 b2 nt k =>
      q t M _ (srcN s2 nt _) ((b1.trans b2).trans (But.of (same_upd nt))) upd_same k
    refine ⟨fun σ' H' => σ' = [some (.ref a), some (.ref p), some (.int w)] ∧ H1 = H', ?_, ?_⟩
    · refine ⟨_, rfl, rfl, _, rfl, ite2 (fun e => ?_) (fun e => iteF ⟨rfl, rfl⟩)⟩
      refine ⟨_, rfl, _, _, rfl, .inr hp, _, _, rfl, rfl, _, rfl, ite2 (fun e => ?_) (fun e => ⟨rfl, rfl⟩)⟩
      have e1 : (((R ++ [z]).map V.int).length : Int) < 3 := of_decide_eq_true e
      rw [hlen] at e1
      refine ⟨_, rfl, _, rfl, _, _, rfl, s1, by decide, by decide, fun r H2 s2 b2 p3 p4 => ?_⟩
      refine ⟨_, _, rfl, rfl, (by show 1 ≤ sizeLine; decide), fun t nt => ?_⟩
      have hp2 := same_seqT (same_upd (o := .tup [V.int (1 + r)]) nt) (sqT_src s1 b2 hp)
      refine ⟨p, t, _, _, rfl, rfl, hp2, .inl (.inl upd_same), ?_, fun e => absurd e hne, fun _ e => (nomatch e), fun _ _ u nu => ?_⟩
      · rw [hlen]; exact Nat.le_of_lt (small1000 (by show R.length + 1 + 1 ≤ 1000; omega))
      have := fin _ ((R ++ [z]) ++ [1 + r]) u (srcN s2 nt _) (b2.trans (But.of (same_upd nt))) nu (okL_snoc hL.2.2 (by rw [List.length_append]; show R.length + 1 ≤ 2; omega) (by omega) (by omega))
      rw [List.map_append] at this
      exact this
    rintro σ' H' ⟨rfl, rfl⟩
    refine ⟨fun σ' H' => σ' = [some (.ref a), some (.ref p), some (.int w)] ∧ H1 = H', ?_, ?_⟩
    · refine ⟨_, rfl, rfl, _, rfl, ite2 (fun e => ?_) (fun e => iteF ⟨rfl, rfl⟩)⟩
      refine ⟨_, rfl, _, _, rfl, .inr hp, rfl, _, rfl, ite2 (fun e => ?_) (fun e => ⟨rfl, rfl⟩)⟩
      have e1 : (((R ++ [z]).map V.int).length : Int) = 1 := V.int.inj (of_decide_eq_true e)
      rw [hlen] at e1
      refine ⟨_, rfl, _, rfl, _, _, rfl, s1, by decide, by decide, fun r H2 s2 b2 p3 p4 => ?_⟩
      refine ⟨_, _, rfl, rfl, (by show 2 ≤ sizeLine; decide), fun t nt => ?_⟩
      have hp2 := same_seqT (same_upd (o := .tup [V.int 0, V.int (1 + r)]) nt) (sqT_src s1 b2 hp)
      refine ⟨p, t, _, _, rfl, rfl, hp2, .inl (.inl upd_same), ?_, fun e => absurd e hne, fun _ e => (nomatch e), fun _ _ u nu => ?_⟩
      · rw [hlen]; exact Nat.le_of_lt (small1000 (by show R.length + 1 + 2 ≤ 1000; omega))
      have k0 : ok99 ((R ++ [z]) ++ [0]) := fun i hi => by
        rcases List.mem_append.mp hi with h | h
        · exact hL.2.2 i h
        · rw [List.mem_singleton.mp h]; exact ⟨by decide, by decide⟩
      have := fin _ (((R ++ [z]) ++ [0]) ++ [1 + r]) u (srcN s2 nt _) (b2.trans (But.of (same_upd nt))) nu (okL_snoc k0 (by rw [List.length_append, List.length_append]; show R.length + 1 + 1 ≤ 2; omega) (by omega) (by omega))
      rw [List.map_append, List.map_append, List.append_assoc] at this
      exact this
    rintro σ' H' ⟨rfl, rfl⟩
    refine ⟨fun σ' H' => σ' = [some (.ref a), some (.ref p), some (.int w)] ∧ H1 = H', ?_, ?_⟩
    · refine ⟨_, rfl, rfl, _, rfl, ite2 (fun e => ?_) (fun e => iteF ⟨rfl, rfl⟩)⟩
      refine ⟨_, rfl, 1, rfl, _, _, _, _, rfl, rfl, hp, at_end R z, _, _, rfl, rfl, _, rfl, ite2 (fun e => ?_) (fun e => ⟨rfl, rfl⟩)⟩
      have e1 : z < 98 := of_decide_eq_true e
      have ec : cutV ((R ++ [z]).map V.int) none (some (-1)) = R.map V.int := by
        rw [cut_last, ← List.map_dropLast, List.dropLast_concat]
      refine ⟨_, rfl, 1, rfl, _, rfl, p, _, rfl, hp, ?_, fun t nt => ?_⟩
      · rintro ⟨_, h⟩
        have : HT.sIx ((R ++ [z]).map V.int).length ((R ++ [z]).map V.int).length (some (-1)) = R.length := by
          rw [hlen]
          show ((-1 : Int) + ((R.length + 1 : Nat) : Int)).toNat = R.length
          omega
        omega
      rw [ec]
      have st := same_upd (o := .tup (R.map V.int)) nt
      have hp1 := same_seqT st hp
      have s1' := srcN s1 nt (.tup (R.map V.int))
      refine ⟨_, rfl, 1, rfl, _, _, _, _, rfl, rfl, hp1, at_end R z, _, _, rfl, rfl, _, rfl, _, _, rfl, s1', by decide, by decide, fun r H2 s2 b2 p3 p4 => ?_⟩
      refine ⟨_, _, rfl, rfl, (by show 1 ≤ sizeLine; decide), fun u nu => ?_⟩
      have bb : But a H1 H2 := (But.of st).trans b2
      have ht2 : SqT K H2 t (R.map V.int) := sqT_src s1' b2 (.inl (.inl upd_same))
      have hk : okL (R ++ [z + 1 + r]) := okL_snoc r9 r2 (by omega) (by omega)
      have su := same_upd (o := .tup [V.int (z + 1 + r)]) nu
      refine ⟨t, u, _, _, rfl, rfl, same_seqT su ht2, .inl (.inl upd_same), ?_, fun e => ?_, fun _ e => (nomatch e), fun _ _ x nx => ?_⟩
      · rw [List.length_map]; exact Nat.le_of_lt (small1000 (by show R.length + 1 ≤ 1000; omega))
      · have e2 : R = [] := List.map_eq_nil_iff.mp e
        rw [e2] at hk
        exact fin _ [z + 1 + r] u s2 bb nu hk
      · have := fin _ (R ++ [z + 1 + r]) x (srcN s2 nu _) (bb.trans (But.of su)) nx hk
        rw [List.map_append] at this
        exact this
    rintro σ' H' ⟨rfl, rfl⟩
    refine ⟨fun σ' H' => σ' = [some (.ref a), some (.ref p), some (.int w)] ∧ H1 = H', ?_, ?_⟩
    · refine ⟨_, rfl, rfl, _, rfl, ite2 (fun e => ?_) (fun e => iteF ⟨rfl, rfl⟩)⟩
      refine ⟨_, rfl, _, _, rfl, .inr hp, _, _, rfl, rfl, _, rfl, ite2 (fun e => ?_) (fun e => iteF ⟨rfl, rfl⟩)⟩
      have e1 : (1 : Int) < (((R ++ [z]).map V.int).length : Int) := of_decide_eq_true e
      rw [hlen] at e1
      obtain ⟨f, R', rfl⟩ : ∃ f R', R = f :: R' := by
        cases R with
        | nil => simp at e1
        | cons f R' => exact ⟨f, R', rfl⟩
      have hat : atI (((f :: R') ++ [z]).map V.int) 0 = some (.int f) := atI_nat (j := 0) rfl
      refine ⟨_, rfl, p, _, 0, _, rfl, rfl, hp, hat, _, _, rfl, rfl, _, rfl, ite2 (fun e => ?_) (fun e => ⟨rfl, rfl⟩)⟩
      have e2 : f < 99 := of_decide_eq_true e
      refine ⟨_, rfl, p, _, 0, _, rfl, rfl, hp, hat, _, _, rfl, rfl, (by show 1 ≤ sizeLine; decide), fun t nt => ?_⟩
      have f0 := r9 f (by simp)
      exact fin H1 [f + 1] t s1 (But.refl a H1) nt (okL_snoc (R := []) (fun _ h => nomatch h) (by decide) (by omega) (by omega))
    rintro σ' H' ⟨rfl, rfl⟩
    refine ⟨fun σ' H' => σ' = [some (.ref a), some (.ref p), some (.int w)] ∧ H1 = H', ?_, ?_⟩
    · refine ⟨_, rfl, rfl, _, rfl, ite2 (fun e => ?_) (fun e => iteF ⟨rfl, rfl⟩)⟩
      refine ⟨_, rfl, _, _, rfl, .inr hp, rfl, _, rfl, ite2 (fun e => ?_) (fun e => iteF ⟨rfl, rfl⟩)⟩
      have e1 : (((R ++ [z]).map V.int).length : Int) = 3 := V.int.inj (of_decide_eq_true e)
      rw [hlen] at e1
      obtain ⟨f, g, rfl⟩ : ∃ f g, R = [f, g] := by
        match R, e1 with
        | [f, g], _ => exact ⟨f, g, rfl⟩
        | [], h => simp at h
        | [_], h => simp at h
        | _ :: _ :: _ :: r, h => simp at h; omega
      have hat : atI (([f, g] ++ [z]).map V.int) 0 = some (.int f) := atI_nat (j := 0) rfl
      have hat1 : atI (([f, g] ++ [z]).map V.int) 1 = some (.int g) := atI_nat (j := 1) rfl
      refine ⟨_, rfl, p, _, 1, _, rfl, rfl, hp, hat1, _, _, rfl, rfl, _, rfl, ite2 (fun e => ?_) (fun e => ⟨rfl, rfl⟩)⟩
      have e2 : g < 99 := of_decide_eq_true e
      refine ⟨_, rfl, p, _, 0, _, rfl, rfl, hp, hat, _, rfl, p, _, 1, _, rfl, rfl, hp, hat1, _, _, rfl, rfl, (by show 2 ≤ sizeLine; decide), fun t nt => ?_⟩
      have f0 := r9 f (by simp)
      have g0 := r9 g (by simp)
      exact fin H1 ([f] ++ [g + 1]) t s1 (But.refl a H1) nt (okL_snoc (R := [f]) (fun i h => by rw [List.mem_singleton.mp h]; exact f0) (Nat.le_succ 1) (by omega) (by omega))
    rintro σ' H' ⟨rfl, rfl⟩
    exact ⟨_, rfl, a, rfl, s1, fun x M H2 s2 b2 hx hM => q x M H2 s2 (b1.trans b2) hx hM⟩
theorem ok_between (T : Tab K mg) : FnOk P w K mg base (L2.CX P w) 5 T.f_between T.d_between ["low", "high"] (sp_between K T.C_BadLabel T.C_NoRoom) := by
  refine T.F_between.okX sc_between (fun vs H Q E h => ?_) (fun cdv A outer s H vs Q E hr h => ?_)
  · obtain ⟨x, y, dx, dy, rfl, _⟩ := h
    rfl
  · obtain ⟨x, y, dx, dy, rfl, hx, hy, kB1, kB2, kN, kY⟩ := h
    refine ⟨_, (C8.pss_cut (ps_set (i := 0) sc_between.nd rfl (.inl rfl) (pe_ifExp (pt_cmpR op_isN (pv 0) pe_non (nomark _)) pe_non (pe_call (ok_judged_label T) (hr.mono (by decide)) (by rfl) T.g_judged_label T.F_judged_label.kp T.b_judged_label .nil (passes_call (takes_of rfl rfl rfl rfl) (fun _ _ _ _ h => h)) (pa_cons (pv 0) pa_nil))))
      (C8.pss_cut (ps_set (i := 1) sc_between.nd rfl (.inl rfl) (pe_ifExp (pt_cmpR op_isN (pv 1) pe_non (nomark _)) pe_non (pe_call (ok_judged_label T) (hr.mono (by decide)) (by rfl) T.g_judged_label T.F_judged_label.kp T.b_judged_label .nil (passes_call (takes_of rfl rfl rfl rfl) (fun _ _ _ _ h => h)) (pa_cons (pv 1) pa_nil))))
      (pss_cons (ps_for (passes_of rfl) rfl (pi_range2 (by rfl) T.m_range (pa_cons pe_int (pa_cons (pe_op op_add (pe_glob (v := .int 3) (by rfl) T.c_MOST_PARTS ⟨_, rfl⟩) pe_int) pa_nil))) (pg_name (i := 2) sc_between.nd rfl (.inl rfl))
      (pss_cons (ps_set (i := 3) sc_between.nd rfl (.inl rfl) (pe_call (ok_least_above T) (hr.mono (by decide)) (by rfl) T.g_least_above T.F_least_above.kp T.b_least_above .nil pass0 (pa_cons (pv 0) (pa_cons (pv 2) pa_nil))))
        (pss_one (ps_if (PW.pt (pw_and (pt_cmpR op_notN (pv 3) pe_non (nomark _)) (pw_and1 (PW.pt (pw_or (pt_cmpR op_isN (pv 1) pe_non (nomark _)) (pw_or1 (pt_cmpR (op_ltT hr.units0) (pv 3) (pv 1) (nomark _))))))))
        (pss_one (ps_ret (pv 3)))
        pss_nil))))
      (pss_one (ps_raise rfl (takes_of rfl rfl rfl rfl) (pmk_own0 PySem.F.excBase_ValueError T.x_NoRoom T.cg_NoRoom T.k_NoRoom (raises_own T.hs_NoRoom T.t_NoRoom) (by rfl))))))), ?_⟩
    have non : ∀ {v : V} {d : PyData} {H0 : Hp}, Dp K H0 v d → (v = .non ↔ d = .none) := fun hd => by
      cases hd <;> simp
    -- low
    refine ⟨fun σ' H' => ∃ x', σ' = [some x', some y, none, none] ∧ Same H H' ∧ ¬ Bad dx ∧ Dp K H' x' (oD dL (keptD dx)), ?_, ?_⟩
    · refine ⟨_, rfl, rfl, _, rfl, ite2 (fun e => ?_) (fun e => ?_)⟩
      · have e1 := (non hx).mp (of_decide_eq_true e)
        subst e1
        exact ⟨.non, rfl, Same.refl H, fun z => z.1 rfl, .non⟩
      · have e1 : dx ≠ .none := fun z => e (decide_eq_true ((non hx).mpr z))
        refine ⟨_, rfl, x, dx, rfl, hx, fun ek H' dd s1 hd => kB1 ⟨e1, ek⟩ H' dd s1 hd, fun L ek v H' s1 hv => ?_⟩
        exact ⟨v, rfl, s1, fun z => (by have z2 := z.2; rw [ek] at z2; cases z2), by rw [ek]; exact hv⟩
    rintro σ' H1 ⟨x', rfl, s1, nb, hx'⟩
    -- high
    refine ⟨fun σ' H' => ∃ y', σ' = [some x', some y', none, none] ∧ Same H1 H' ∧ ¬ Bad dy ∧ Dp K H' y' (oD dL (keptD dy)), ?_, ?_⟩
    · have hy1 := dp_same s1 hy
      refine ⟨_, rfl, rfl, _, rfl, ite2 (fun e => ?_) (fun e => ?_)⟩
      · have e1 := (non hy1).mp (of_decide_eq_true e)
        subst e1
        exact ⟨.non, rfl, Same.refl H1, fun z => z.1 rfl, .non⟩
      · have e1 : dy ≠ .none := fun z => e (decide_eq_true ((non hy1).mpr z))
        refine ⟨_, rfl, y, dy, rfl, hy1, fun ek H' dd s2 hd => kB2 nb ⟨e1, ek⟩ H' dd (s1.trans s2) hd, fun L ek v H' s2 hv => ?_⟩
        exact ⟨v, rfl, s2, fun z => (by have z2 := z.2; rw [ek] at z2; cases z2), by rw [ek]; exact hv⟩
    rintro σ' H2 ⟨y', rfl, s2, nb2, hy'⟩
    have s12 := s1.trans s2
    have hx2 := dp_same s2 hx'
    refine ⟨_, _, rfl, rfl, ?_⟩
    refine ⟨1, 4, rfl, ⟨by decide, by decide, by decide, by decide⟩, for_range (lo := 1) (n := 3) (fun i σ' H' => ∃ (n3 n4 : Option V), σ' = [some x', some y', n3, n4] ∧ Same H2 H' ∧ pickN (keptD dx) (keptD dy) ([1, 2, 3].drop i) = btw (keptD dx) (keptD dy)) ⟨none, none, rfl, Same.refl H2, rfl⟩ ?_ ?_⟩
    · rintro i σ' H3 hi ⟨n3, n4, rfl, s3, ep⟩
      have hx3 := dp_same s3 hx2
      have hy3 := dp_same s3 hy'
      have h99 : ∀ L, keptD dx = some L → ok99 L ∧ L.length ≤ 3 ∧ L ≠ [] := fun L h => kept_ok h
      have ei : [1, 2, 3].drop i = (i + 1) :: [1, 2, 3].drop (i + 1) := by
        have : i = 0 ∨ i = 1 ∨ i = 2 := by omega
        rcases this with rfl | rfl | rfl <;> rfl
      rw [ei] at ep
      have e1 : (1 : Int) + (i : Int) = ((i + 1 : Nat) : Int) := by omega
      refine ⟨_, rfl, _, rfl, x', keptD dx, i + 1, (by show [x', V.int (1 + (i : Int))] = _; rw [e1]), hx3, h99, by omega, by omega, fun v H4 s4 hv => ?_⟩
      have go : ∀ {n4 : Option V}, Same H2 H4 → pickN (keptD dx) (keptD dy) ([1, 2, 3].drop (i + 1)) = btw (keptD dx) (keptD dy) → ∃ (n3 n4' : Option V), [some x', some y', some (V.int (1 + (i : Int))), n4] = [some x', some y', n3, n4'] ∧ Same H2 H4 ∧ pickN (keptD dx) (keptD dy) ([1, 2, 3].drop (i + 1)) = btw (keptD dx) (keptD dy) := fun {n4} a b => ⟨_, n4, rfl, a, b⟩
      cases el : least ((keptD dx).getD []) (i + 1) with
      | none =>
        rw [el] at hv
        cases hv
        refine ⟨_, rfl, rfl, _, rfl, ite2 (fun e => by simp at e) (fun _ => iteF ?_)⟩
        exact go (s3.trans s4) ((pickN_none el).symm.trans ep)
      | some L =>
        rw [el] at hv
        obtain ⟨p, rfl, hp⟩ := dL_inv hv
        have hy4 := dp_same s4 hy3
        have s124 := s12.trans (s3.trans s4)
        refine ⟨_, rfl, rfl, _, rfl, ite2 (fun _ => ?_) (fun e => absurd (show (!decide (V.ref p = V.non)) = true by simp) e)⟩
        cases ek : keptD dy with
        | none =>
          rw [ek] at hy4
          cases hy4
          refine ⟨_, rfl, rfl, _, rfl, ite2 (fun _ => iteT ?_) (fun e => absurd (decide_eq_true rfl) e)⟩
          exact ⟨_, rfl, kY nb nb2 L (ep.symm.trans (pickN_yes el (by rw [ek]; rfl))) _ _ s124 hv⟩
        | some M =>
          rw [ek] at hy4
          obtain ⟨r, rfl, hr4⟩ := dL_inv hy4
          refine ⟨_, rfl, rfl, _, rfl, ite2 (fun e => by simp at e) (fun _ => ?_)⟩
          refine ⟨_, rfl, _, rfl, p, r, L, M, rfl, rfl, hp, hr4, _, rfl, ?_⟩
          by_cases hlt : HT.lexLt L M = true
          · rw [hlt]
            refine iteT ?_
            exact ⟨_, rfl, kY nb nb2 L (ep.symm.trans (pickN_yes el (by rw [ek]; exact hlt))) _ _ s124 hv⟩
          · rw [Bool.not_eq_true] at hlt
            rw [hlt]
            refine iteF ?_
            have := go (n4 := some (V.ref p)) (s3.trans s4) ((pickN_no el (by rw [ek]; exact hlt)).symm.trans ep)
            rw [ek] at this
            exact this
    · rintro σ' H3 ⟨n3, n4, rfl, s3, ep⟩
      exact kN nb nb2 ep.symm _ (s12.trans s3)
theorem ok_row (T : Tab K mg) : FnOk P w K mg base CX0 5 T.f_row T.d_row ["_law_source_here"] (sp_row K) := by
  refine T.F_row.ok sc_row (fun vs H Q E h => ?_) (fun cdv A outer s H vs Q E hr h => ?_)
  · obtain ⟨a, rfl, _⟩ := h
    rfl
  · obtain ⟨a, rfl, src, q⟩ := h
    refine ⟨_, (pss_cons (ps_set (i := 1) sc_row.nd rfl (.inl rfl) (pe_lst pa_nil))
      (pss_cons (ps_for PassesOwn.never rfl (pi_range1 (by rfl) T.m_range (pa_cons (pe_call (ok_pick T) (hr.mono (by decide)) (by rfl) T.g_pick T.F_pick.kp T.b_pick .nil pass0 (pa_cons (pv 0) (pa_cons pe_int pa_nil))) pa_nil)) (pg_name (i := 2) sc_row.nd rfl (.inl rfl))
      (pss_cons (ps_set (i := 3) sc_row.nd rfl (.inl rfl) (pe_call (ok_label T) (hr.mono (by decide)) (by rfl) T.g_label T.F_label.kp T.b_label .nil pass0 (pa_cons (pv 0) pa_nil)))
        (C8.pss_cut (ps_if (PW.pt (pw_and (pt_truth (pv 1) (fun _ => rfl)) (pw_and1 (pt_cmpR op_gt (pe_call (ok_pick T) (hr.mono (by decide)) (by rfl) T.g_pick T.F_pick.kp T.b_pick .nil pass0 (pa_cons (pv 0) (pa_cons pe_int pa_nil))) pe_int (nomark _)))))
        (pss_one (ps_set (i := 3) sc_row.nd rfl (.inl rfl) (pe_call (ok_behind T) (hr.mono (by decide)) (by rfl) T.g_behind T.F_behind.kp T.b_behind .nil pass0 (pa_cons (pv 0) (pa_cons (pe_ix ix_list (pv 1) (pe_un un_neg pe_int) (fun _ _ => rfl)) pa_nil)))))
        pss_nil)
        (pss_one (ps_if (pt_cmpR (op_notInD (un2 hr)) (pv 3) (pv 1) (by rfl))
        (pss_one (ps_expr (pe_bm PySem.F.plainAttrs_list PySem.F.slot_list_append PySem.F.type_list_append mt_append (pv 1) (pa_cons (pv 3) pa_nil))))
        pss_nil)))))
      (pss_one (ps_ret (pe_callB cr_sortedT3 (by rfl) T.m_sorted (by decide +kernel) (pa_cons (pv 1) pa_nil)))))), ?_⟩
    refine ⟨Nat.zero_le _, fun D nD => ?_⟩
    have nDa : D ≠ a := (src.ne nD).symm
    have src0 := srcN src nD (.lst [])
    have b0 : But a H (upd H D (.lst [])) := But.of (same_upd nD)
    have e0 : upd H D (.lst []) D = some (.lst []) := upd_same
    refine ⟨_, rfl, _, _, rfl, src0, by decide, by decide, fun n H1 s1 b1 n0 n1 => ?_⟩
    refine ⟨_, rfl, by omega, by omega, for_range (lo := 0) (n := n.toNat) (fun i σ' H' => ∃ (ts : List Addr) (Ls : List (List Int)) (y2 y3 : Option V), σ' = [some (.ref a), some (.ref D), y2, y3] ∧ Src H' a ∧ But a H H' ∧ H' D = some (.lst (ts.map V.ref)) ∧ TAll H' ts Ls ∧ (∀ L ∈ Ls, okL L) ∧ Ls.length ≤ i ∧ Ls.Nodup) ⟨[], [], none, none, rfl, s1, b0.trans b1, b1 _ _ nDa e0, ⟨rfl, fun _ _ h => nomatch h⟩, (fun _ h => nomatch h), Nat.le_refl _, List.nodup_nil⟩ ?_ ?_⟩
    · rintro i σ' H2 hi ⟨ts, Ls, y2, y3, rfl, s2, b2, eD, hy, ok, hl, nd⟩
      obtain ⟨xs2, ea2⟩ := src_lst s2
      refine ⟨_, rfl, a, rfl, s2, fun v L H3 s3 b3 hv okl => ?_⟩
      have eD3 := b3 _ _ nDa eD
      have hy3 := hy.but ea2 b3
      obtain ⟨xs3, ea3⟩ := src_lst s3
      refine ⟨fun σ' H' => ∃ (v : Addr) (L : List Int), σ' = [some (.ref a), some (.ref D), some (.int (0 + (i : Int))), some (.ref v)] ∧ Src H' a ∧ But a H H' ∧ H' D = some (.lst (ts.map V.ref)) ∧ TAll H' ts Ls ∧ H' v = some (.tup (L.map V.int)) ∧ okL L, ?_, ?_⟩
      · have stay : ∀ {G : Prop}, (∃ (v' : Addr) (L : List Int), [some (V.ref a), some (.ref D), some (.int (0 + (i : Int))), some (.ref v)] = [some (V.ref a), some (.ref D), some (.int (0 + (i : Int))), some (.ref v')] ∧ Src H3 a ∧ But a H H3 ∧ H3 D = some (.lst (ts.map V.ref)) ∧ TAll H3 ts Ls ∧ H3 v' = some (.tup (L.map V.int)) ∧ okL L) := fun {G} => ⟨v, L, rfl, s3, b2.trans b3, eD3, hy3, hv, okl⟩
        refine ⟨_, rfl, _, .inl ⟨_, .inl (.inl eD3), rfl⟩, ?_⟩
        cases ts with
        | nil =>
          refine iteF ?_
          exact iteF (stay (G := True))
        | cons t0 tr =>
          refine iteT ?_
          refine ⟨_, rfl, _, _, rfl, s3, by decide, by decide, fun w H4 s4 b4 w0 w1 => ?_⟩
          have eD4 := b4 _ _ nDa eD3
          have hy4 := hy3.but ea3 b4
          have b24 := (b2.trans b3).trans b4
          refine ⟨_, _, rfl, rfl, _, rfl, ite2 (fun e => ?_) (fun e => ⟨v, L, rfl, s4, b24, eD4, hy4, b4 _ _ (fun z => by rw [z, ea3] at hv; cases hv) hv, okl⟩)⟩
          have hL : 0 < Ls.length := by rw [← hy.1]; exact Nat.succ_pos _
          obtain ⟨p, ep, gp⟩ := last_at (K := K) hy4.all hL
          refine ⟨_, rfl, _, rfl, 1, rfl, D, _, _, _, rfl, rfl, .inl (.inl eD4), ep, a, .ref p, _, rfl, s4, dpL gp, ok _ (mem_getD (by omega)), fun y M H5 s5 b5 hy5 okM => ?_⟩
          obtain ⟨xs4, ea4⟩ := src_lst s4
          exact ⟨y, M, rfl, s5, b24.trans b5, b5 _ _ nDa eD4, hy4.but ea4 b5, hy5, okM⟩
      rintro σ' H6 ⟨v, L, rfl, s6, b6, eD6, hy6, hv6, okL6⟩
      refine ⟨_, rfl, _, rfl, dL L, Ls.map dL, dpL (.inl (.inl hv6)), .lst (.inl (.inl eD6)) hy6.all, shaped_it L, shaped_Ls Ls, _, rfl, ite2 (fun e => ?_) (fun e => ?_)⟩
      · have e1 : ¬ L ∈ Ls := by
          rw [any_dL] at e
          simpa using e
        have hl6 := hy6.1
        refine ⟨_, rfl, .inl ⟨rfl, _, .inl (.inl eD6)⟩, _, rfl, D, _, _, rfl, rfl, eD6, ?_, ts ++ [v], Ls ++ [L], _, _, rfl, s6.put nDa.symm _, b6.put nD _, ?_, (hy6.but eD6 (But.upd _)).snoc ?_, ?_, ?_, ?_⟩
        · rw [List.length_map]; exact small1000 (by omega)
        · rw [upd_same, List.map_append]; rfl
        · rw [upd_ne (fun z => by rw [z, eD6] at hv6; cases hv6)]; exact hv6
        · intro M hM
          rcases List.mem_append.mp hM with h | h
          · exact ok M h
          · rw [List.mem_singleton.mp h]; exact okL6
        · rw [List.length_append]; show Ls.length + 1 ≤ i + 1; omega
        · exact List.nodup_append.mpr ⟨nd, List.pairwise_singleton _ _, fun x hx y hy => by rw [List.mem_singleton.mp hy]; exact fun z => e1 (z ▸ hx)⟩
      · exact ⟨ts, Ls, _, _, rfl, s6, b6, eD6, hy6, ok, by omega, nd⟩
    · rintro σ' H2 ⟨ts, Ls, y2, y3, rfl, s2, b2, eD, hy, ok, hl, nd⟩
      refine ⟨_, rfl, D, ts.map V.ref, lab H2, rfl, .inl (.inl eD), fun x hx => ?_, fun zs p hs hp np => ?_⟩
      · obtain ⟨t, e, g, m⟩ := hy.mem x hx
        exact ⟨t, e, .inl (.inl g), okL_ne (ok _ m)⟩
      · have sp := same_upd (o := .lst zs) np
        have hm : ∀ z ∈ zs, ∃ t, z = .ref t ∧ H2 t = some (.tup ((lab H2 z).map V.int)) ∧ lab H2 z ∈ Ls := fun z hz => hy.mem z (hp.mem_iff.mp hz)
        have hperm : (zs.map (lab H2)).Perm Ls := by
          have := hp.map (lab H2)
          rw [hy.labs] at this
          exact this
        have nd2 : (zs.map (lab H2)).Nodup := hperm.nodup_iff.mpr nd
        have hd : DpAll K H2 zs ((zs.map (lab H2)).map dL) := TAll.dp fun z hz => by
          obtain ⟨t, e, g, _⟩ := hm z hz
          exact ⟨t, e, g⟩
        refine q p zs (zs.map (lab H2)) _ (srcN s2 np _) (b2.trans (But.of sp)) (b2.none np (s2.ne np).symm) upd_same (dpAll_same sp hd) (fun L hL => ?_) (asc_sorted hs nd2) ?_
        · exact ok L (hperm.mem_iff.mp hL)
        · rw [hperm.length_eq]; omega
theorem ok_neighbours (T : Tab K mg) : FnOk P w K mg base (L2.CX P w) 6 T.f_neighbours T.d_neighbours ["labels"] (sp_neighbours K T.C_BadLabel T.C_BadOrder T.C_NoRoom) := by
  refine T.F_neighbours.okX sc_neighbours (fun vs H Q E h => ?_) (fun cdv A outer s H vs Q E hr h => ?_)
  · obtain ⟨a, xs, ds, rfl, _⟩ := h
    rfl
  · obtain ⟨a, xs, ds, rfl, hS, hd, hlen, kB, kL⟩ := h
    refine ⟨_, (pss_cons (ps_setLcX (i := 1) (own := [("label", 3)]) (takes_of rfl rfl rfl rfl) rfl rfl (by rfl) sc_neighbours.nd rfl rfl (sw_true rfl rfl rfl (by decide +kernel)) (pi_or (pi_list (pv 0)) (pi_tup (pv 0))) (blkOk_by (own := [("label", 3)]) (N := N_neighbours) (sc := defScope s_neighbours) (by decide +kernel)) (fun _ _ _ _ _ => pg_name (i := 3) sc_neighbours.nd rfl (.inl rfl)) (fun _ _ _ _ _ _ hp => (pe_call (ok_judged_label T) (hr.mono (by decide)) (by rfl) T.g_judged_label T.F_judged_label.kp T.b_judged_label .nil hp (pa_cons (pv 3) pa_nil))))
      (pss_cons (ps_for (passes_of rfl) rfl (pi_range2 (by rfl) T.m_range (pa_cons pe_int (pa_cons (pe_callB call_len_seq (by rfl) T.m_len PySem.boot_len (pa_cons (pv 1) pa_nil)) pa_nil))) (pg_name (i := 2) sc_neighbours.nd rfl (.inl rfl))
      (pss_one (ps_if (pt_cmpR (op_leT hr.units0) (pe_ix ix_list (pv 1) (pv 2) (fun _ _ => rfl)) (pe_ix ix_list (pv 1) (pe_op op_sub (pv 2) pe_int) (fun _ _ => rfl)) (nomark _))
        (pss_one (ps_raise rfl (takes_of rfl rfl rfl rfl) (pmk_oex T.o_BadOrder T.g_BadOrder_init T.i_BadOrder (ok_BadOrder_init T) (hr.mono (by decide)) T.b_BadOrder_init .nil (fun _ _ _ _ _ _ _ h => h.elim) (by rfl) T.cg_BadOrder (pa_cons (pv 2) pa_nil))))
        pss_nil)))
      (pss_one (ps_ret (pe_callTy call_tuple_of (by rfl) T.m_tuple (by decide +kernel) (pa_cons (pe_lcX (own := [("low", 4), ("high", 5)]) (g := gTup K 2 _) (takes_of rfl rfl rfl rfl) rfl rfl (by rfl) sc_neighbours.nd (pi_zip (by rfl) T.m_zip (pa_cons (pv 1) (pa_cons (pe_slice sl_list (pv 1) (po_some pe_int) po_none) pa_nil))) (blkOk_by (own := [("low", 4), ("high", 5)]) (N := N_neighbours) (sc := defScope s_neighbours) (by decide +kernel)) (fun _ _ _ _ _ => pg_tup (by rfl) (pgs_cons (pg_name (i := 4) sc_neighbours.nd rfl (.inl rfl)) (pgs_cons (pg_name (i := 5) sc_neighbours.nd rfl (.inl rfl)) pgs_nil))) (fun _ _ _ _ _ _ hp => (pe_call (ok_between T) (hr.mono (by decide)) (by rfl) T.g_between T.F_between.kp T.b_between .nil hp (pa_cons (pv 4) (pa_cons (pv 5) pa_nil))))) pa_nil)))))), ?_⟩
    have dl := dpAll_len hd
    rcases hS with hS | hS
    · refine .inl ⟨_, rfl, a, rfl, ⟨_, hS⟩, fun D nD => ?_⟩
      refine lc_list (xs := xs) (fun i H' => Same H H' ∧ ∃ (ys : List V) (Ls : List (List Int)), H' D = some (.lst ys) ∧ (ds.take i).map keptD = Ls.map some ∧ DpAll K H' ys (Ls.map dL)) ⟨same_upd nD, [], [], upd_same, rfl, .nil⟩ (fun i H' _ hh => Same.seq hh.1 hS) ?_ ?_
      · rintro i x H' hx ⟨sm, ys, Ls, eD, ek, hy⟩
        obtain ⟨d, he, hde⟩ := dpAll_get hd hx
        have hil : i < xs.length := (List.getElem?_eq_some_iff.mp hx).1
        have yl := dpAll_len hy
        have ll := congrArg List.length ek
        rw [List.length_map, List.length_map, List.length_take] at ll
        rw [List.length_map] at yl
        refine ⟨rfl, ?_⟩
        refine ⟨_, rfl, x, d, rfl, dp_same sm hde, fun kn H2 dd s2 hdd => ?_, fun L ekL y H2 s2 hy2 => ?_⟩
        · refine kB i x d hx he kn (fun j e hj hje kn2 => ?_) H2 dd (sm.trans s2) hdd
          have h1 : ((ds.take i).map keptD)[j]? = some (keptD e) := by rw [List.getElem?_map, List.getElem?_take_of_lt hj, hje]; rfl
          rw [ek, kn2, List.getElem?_map] at h1
          cases q : Ls[j]? with
          | none => rw [q] at h1; cases h1
          | some L => rw [q] at h1; cases h1
        · have eD2 := s2 _ _ eD
          refine ⟨_, eD2, small1000 (by omega), same_put (sm.trans s2) nD _, ys ++ [y], Ls ++ [L], upd_same, ?_, ?_⟩
          · rw [List.take_add_one, he, List.map_append, List.map_append, ek]
            show Ls.map some ++ [keptD d] = _
            rw [ekL]
            rfl
          · rw [List.map_append]
            exact dpAll_app (dpAll_butN eD2 (But.upd _) (dpAll_same s2 hy) (nl_Ls Ls)) (.cons (dp_butN eD2 (But.upd _) hy2 (nl_L L)) .nil)
      rintro H1 ⟨s1, ys, Ls, eD, ek, hy⟩
      rw [dl, List.take_length] at ek
      obtain ⟨kO, kM⟩ := kL Ls ek
      have okLs := okLs_of ek
      have yl := dpAll_len hy
      rw [List.length_map] at yl
      have ll := congrArg List.length ek
      rw [List.length_map, List.length_map] at ll
      refine ⟨_, rfl, _, _, rfl, .inl (.inl (.inl eD)), _, _, rfl, ⟨by decide, by decide, by omega, by omega⟩, for_range (lo := 1) (n := ((ys.length : Int) - 1).toNat) (fun i σ' H' => ∃ y2 : Option V, σ' = [some (.ref a), some (.ref D), y2, none, none, none] ∧ H' = H1 ∧ ∀ j, 1 ≤ j → j ≤ i → HT.lexLt (Ls.getD (j - 1) []) (Ls.getD j []) = true) ⟨none, rfl, rfl, fun j h1 h2 => by omega⟩ ?_ ?_⟩
      · rintro i σ' H' hi ⟨y2, rfl, rfl, good⟩
        have hk : 1 + i < Ls.length := by omega
        obtain ⟨p1, e1, h1⟩ := row_at hy hk
        obtain ⟨p2, e2, h2⟩ := row_at hy (k := i) (by omega)
        refine ⟨_, rfl, _, rfl, D, _, _, _, rfl, rfl, .inl (.inl eD), at_of' (j := 1 + i) (by omega) e1, ?_⟩
        refine ⟨_, rfl, _, rfl, _, _, rfl, rfl, D, _, _, _, rfl, rfl, .inl (.inl eD), at_of' (j := i) (by omega) e2, p1, p2, _, _, rfl, rfl, h1, h2, _, rfl, ite2 (fun e => ?_) (fun e => ?_)⟩
        · have e3 : leI (Ls.getD (1 + i) []) (Ls.getD i []) = true := e
          rw [leI_eq] at e3
          have e4 : HT.lexLt (Ls.getD (1 + i - 1) []) (Ls.getD (1 + i) []) = false := by
            rw [show 1 + i - 1 = i by omega]
            simpa using e3
          refine ⟨_, rfl, (by show 1 ≤ 1000; decide), fun x nx => ?_⟩
          refine ⟨x, _, rfl, T.o_BadOrder, T.n_BadOrder_place, upd_same, fun dx n1 n2 => ⟨rfl, dx, [("place", .int (1 + (i : Int)))], upd_same, ?_, ?_, ?_⟩⟩
          · rw [upd_ne n2, upd_same]
          · rw [upd_ne n2] at n1
            exact n1
          · refine kO (1 + i) (by omega) hk e4 (fun j j1 j2 => good j j1 (by omega)) _ dx (same_made s1 nx n1 n2) ?_
            rw [show ((1 + i : Nat) : Int) = 1 + (i : Int) by omega]
            exact upd_same
        · have e3 : ¬ leI (Ls.getD (1 + i) []) (Ls.getD i []) = true := e
          rw [leI_eq] at e3
          refine ⟨_, rfl, rfl, fun j j1 j2 => ?_⟩
          by_cases hj : j ≤ i
          · exact good j j1 hj
          · have : j = 1 + i := by omega
            subst this
            rw [show 1 + i - 1 = i by omega]
            simpa using e3
      rintro σ' H' ⟨y2, rfl, rfl, good⟩
      obtain ⟨kN, kQ⟩ := kM (fun k h1 h2 => good k h1 (by omega))
      refine ⟨_, rfl, _, rfl, 1, rfl, D, _, rfl, .inl (.inl eD), fun p np => ?_⟩
      have ec : cutV ys (some 1) none = ys.drop 1 := cutV_from ys 1
      rw [ec]
      have s2 := same_upd (o := .lst (ys.drop 1)) np
      have e2 : upd H' p (.lst (ys.drop 1)) p = some (.lst (ys.drop 1)) := upd_same
      generalize upd H' p (.lst (ys.drop 1)) = H2 at s2 e2
      have eD2 := s2 _ _ eD
      have hy2 := dpAll_same s2 hy
      refine ⟨D, p, _, _, rfl, .inl (.inl eD2), .inl (.inl e2), fun D2 nD2 => ?_⟩
      have bl := bts_len Ls
      refine lc_zip2 (xs := ys) (ys := ys.drop 1) (by rw [List.length_drop]; omega) (fun i H' => Same H2 H' ∧ ∃ (zs : List V) (Ms : List (List Int)), H' D2 = some (.lst zs) ∧ (bts Ls).take i = Ms.map some ∧ DpAll K H' zs (Ms.map dL)) ⟨same_upd nD2, [], [], upd_same, rfl, .nil⟩ (fun i H' _ hh => ⟨.inl (.inl (hh.1 _ _ eD2)), .inl (.inl (hh.1 _ _ e2))⟩) ?_ ?_
      · rintro i x y T H' hx hy3 ⟨sm, zs, Ms, eZ, em, hz⟩ nT
        rw [List.getElem?_drop] at hy3
        have hil : 1 + i < Ls.length := by
          have := (List.getElem?_eq_some_iff.mp hy3).1
          omega
        obtain ⟨q1, f1, g1⟩ := row_at hy2 (k := i) (by omega)
        obtain ⟨q2, f2, g2⟩ := row_at hy2 hil
        rw [f1] at hx
        rw [f2] at hy3
        cases hx
        cases hy3
        have sT := same_upd (o := .tup [.ref q1, .ref q2]) nT
        have eT : upd H' T (.tup [.ref q1, .ref q2]) T = some (.tup [.ref q1, .ref q2]) := upd_same
        generalize upd H' T (.tup [.ref q1, .ref q2]) = H3 at sT eT
        have o1 : okL (Ls.getD i []) := okLs _ (mem_getD (by omega))
        have o2 : okL (Ls.getD (1 + i) []) := okLs _ (mem_getD hil)
        have s23 := sm.trans sT
        have bi := bts_at (Ls := Ls) (i := i) (by omega)
        rw [Nat.add_comm i 1] at bi
        have zl := dpAll_len hz
        have ml := congrArg List.length em
        rw [List.length_map, List.length_take] at ml
        rw [List.length_map] at zl
        refine ⟨T, _, rfl, .inl (.inl eT), rfl, _, _, rfl, _, _, rfl, rfl, rfl, ?_⟩
        refine ⟨_, rfl, _, rfl, .ref q1, .ref q2, dL (Ls.getD i []), dL (Ls.getD (1 + i) []), rfl, dpL (same_seqT s23 g1), dpL (same_seqT s23 g2), fun b => absurd b (not_bad o1), fun _ b => absurd b (not_bad o2), fun _ _ hn H4 s4 => ?_, fun _ _ M hM v H4 s4 hv => ?_⟩
        · rw [kept_dL o1, kept_dL o2] at hn
          rw [hn] at bi
          exact kN (List.mem_of_getElem? bi) H4 (((s1.trans s2).trans s23).trans s4)
        · rw [kept_dL o1, kept_dL o2] at hM
          rw [hM] at bi
          have eZ4 := s4 _ _ (sT _ _ eZ)
          refine ⟨_, eZ4, small1000 (by omega), same_put (s23.trans s4) nD2 _, zs ++ [v], Ms ++ [M], upd_same, ?_, ?_⟩
          · rw [List.take_add_one, bi, List.map_append, em]
            rfl
          · rw [List.map_append]
            exact dpAll_app (dpAll_butN eZ4 (But.upd _) (dpAll_same (sT.trans s4) hz) (nl_Ls Ms)) (.cons (dp_butN eZ4 (But.upd _) hv (nl_L M)) .nil)
      · rintro H3 ⟨s3, zs, Ms, eZ, em, hz⟩
        rw [List.take_of_length_le (by rw [List.length_drop]; omega)] at em
        refine ⟨D2, zs, rfl, .inl ⟨.inl (.inl eZ), fun t nt => ?_⟩⟩
        have s4 := same_upd (o := .tup zs) nt
        exact kQ Ms em t zs _ (((s1.trans s2).trans s3).trans s4) (.inl (.inl upd_same)) (dpAll_same s4 hz)
    · refine .inr ⟨_, rfl, a, rfl, ⟨_, hS⟩, fun D nD => ?_⟩
      refine lc_tup (xs := xs) (fun i H' => Same H H' ∧ ∃ (ys : List V) (Ls : List (List Int)), H' D = some (.lst ys) ∧ (ds.take i).map keptD = Ls.map some ∧ DpAll K H' ys (Ls.map dL)) ⟨same_upd nD, [], [], upd_same, rfl, .nil⟩ (fun i H' _ hh => same_seqT hh.1 hS) ?_ ?_
      · rintro i x H' hx ⟨sm, ys, Ls, eD, ek, hy⟩
        obtain ⟨d, he, hde⟩ := dpAll_get hd hx
        have hil : i < xs.length := (List.getElem?_eq_some_iff.mp hx).1
        have yl := dpAll_len hy
        have ll := congrArg List.length ek
        rw [List.length_map, List.length_map, List.length_take] at ll
        rw [List.length_map] at yl
        refine ⟨rfl, ?_⟩
        refine ⟨_, rfl, x, d, rfl, dp_same sm hde, fun kn H2 dd s2 hdd => ?_, fun L ekL y H2 s2 hy2 => ?_⟩
        · refine kB i x d hx he kn (fun j e hj hje kn2 => ?_) H2 dd (sm.trans s2) hdd
          have h1 : ((ds.take i).map keptD)[j]? = some (keptD e) := by rw [List.getElem?_map, List.getElem?_take_of_lt hj, hje]; rfl
          rw [ek, kn2, List.getElem?_map] at h1
          cases q : Ls[j]? with
          | none => rw [q] at h1; cases h1
          | some L => rw [q] at h1; cases h1
        · have eD2 := s2 _ _ eD
          refine ⟨_, eD2, small1000 (by omega), same_put (sm.trans s2) nD _, ys ++ [y], Ls ++ [L], upd_same, ?_, ?_⟩
          · rw [List.take_add_one, he, List.map_append, List.map_append, ek]
            show Ls.map some ++ [keptD d] = _
            rw [ekL]
            rfl
          · rw [List.map_append]
            exact dpAll_app (dpAll_butN eD2 (But.upd _) (dpAll_same s2 hy) (nl_Ls Ls)) (.cons (dp_butN eD2 (But.upd _) hy2 (nl_L L)) .nil)
      rintro H1 ⟨s1, ys, Ls, eD, ek, hy⟩
      rw [dl, List.take_length] at ek
      obtain ⟨kO, kM⟩ := kL Ls ek
      have okLs := okLs_of ek
      have yl := dpAll_len hy
      rw [List.length_map] at yl
      have ll := congrArg List.length ek
      rw [List.length_map, List.length_map] at ll
      refine ⟨_, rfl, _, _, rfl, .inl (.inl (.inl eD)), _, _, rfl, ⟨by decide, by decide, by omega, by omega⟩, for_range (lo := 1) (n := ((ys.length : Int) - 1).toNat) (fun i σ' H' => ∃ y2 : Option V, σ' = [some (.ref a), some (.ref D), y2, none, none, none] ∧ H' = H1 ∧ ∀ j, 1 ≤ j → j ≤ i → HT.lexLt (Ls.getD (j - 1) []) (Ls.getD j []) = true) ⟨none, rfl, rfl, fun j h1 h2 => by omega⟩ ?_ ?_⟩
      · rintro i σ' H' hi ⟨y2, rfl, rfl, good⟩
        have hk : 1 + i < Ls.length := by omega
        obtain ⟨p1, e1, h1⟩ := row_at hy hk
        obtain ⟨p2, e2, h2⟩ := row_at hy (k := i) (by omega)
        refine ⟨_, rfl, _, rfl, D, _, _, _, rfl, rfl, .inl (.inl eD), at_of' (j := 1 + i) (by omega) e1, ?_⟩
        refine ⟨_, rfl, _, rfl, _, _, rfl, rfl, D, _, _, _, rfl, rfl, .inl (.inl eD), at_of' (j := i) (by omega) e2, p1, p2, _, _, rfl, rfl, h1, h2, _, rfl, ite2 (fun e => ?_) (fun e => ?_)⟩
        · have e3 : leI (Ls.getD (1 + i) []) (Ls.getD i []) = true := e
          rw [leI_eq] at e3
          have e4 : HT.lexLt (Ls.getD (1 + i - 1) []) (Ls.getD (1 + i) []) = false := by
            rw [show 1 + i - 1 = i by omega]
            simpa using e3
          refine ⟨_, rfl, (by show 1 ≤ 1000; decide), fun x nx => ?_⟩
          refine ⟨x, _, rfl, T.o_BadOrder, T.n_BadOrder_place, upd_same, fun dx n1 n2 => ⟨rfl, dx, [("place", .int (1 + (i : Int)))], upd_same, ?_, ?_, ?_⟩⟩
          · rw [upd_ne n2, upd_same]
          · rw [upd_ne n2] at n1
            exact n1
          · refine kO (1 + i) (by omega) hk e4 (fun j j1 j2 => good j j1 (by omega)) _ dx (same_made s1 nx n1 n2) ?_
            rw [show ((1 + i : Nat) : Int) = 1 + (i : Int) by omega]
            exact upd_same
        · have e3 : ¬ leI (Ls.getD (1 + i) []) (Ls.getD i []) = true := e
          rw [leI_eq] at e3
          refine ⟨_, rfl, rfl, fun j j1 j2 => ?_⟩
          by_cases hj : j ≤ i
          · exact good j j1 hj
          · have : j = 1 + i := by omega
            subst this
            rw [show 1 + i - 1 = i by omega]
            simpa using e3
      rintro σ' H' ⟨y2, rfl, rfl, good⟩
      obtain ⟨kN, kQ⟩ := kM (fun k h1 h2 => good k h1 (by omega))
      refine ⟨_, rfl, _, rfl, 1, rfl, D, _, rfl, .inl (.inl eD), fun p np => ?_⟩
      have ec : cutV ys (some 1) none = ys.drop 1 := cutV_from ys 1
      rw [ec]
      have s2 := same_upd (o := .lst (ys.drop 1)) np
      have e2 : upd H' p (.lst (ys.drop 1)) p = some (.lst (ys.drop 1)) := upd_same
      generalize upd H' p (.lst (ys.drop 1)) = H2 at s2 e2
      have eD2 := s2 _ _ eD
      have hy2 := dpAll_same s2 hy
      refine ⟨D, p, _, _, rfl, .inl (.inl eD2), .inl (.inl e2), fun D2 nD2 => ?_⟩
      have bl := bts_len Ls
      refine lc_zip2 (xs := ys) (ys := ys.drop 1) (by rw [List.length_drop]; omega) (fun i H' => Same H2 H' ∧ ∃ (zs : List V) (Ms : List (List Int)), H' D2 = some (.lst zs) ∧ (bts Ls).take i = Ms.map some ∧ DpAll K H' zs (Ms.map dL)) ⟨same_upd nD2, [], [], upd_same, rfl, .nil⟩ (fun i H' _ hh => ⟨.inl (.inl (hh.1 _ _ eD2)), .inl (.inl (hh.1 _ _ e2))⟩) ?_ ?_
      · rintro i x y T H' hx hy3 ⟨sm, zs, Ms, eZ, em, hz⟩ nT
        rw [List.getElem?_drop] at hy3
        have hil : 1 + i < Ls.length := by
          have := (List.getElem?_eq_some_iff.mp hy3).1
          omega
        obtain ⟨q1, f1, g1⟩ := row_at hy2 (k := i) (by omega)
        obtain ⟨q2, f2, g2⟩ := row_at hy2 hil
        rw [f1] at hx
        rw [f2] at hy3
        cases hx
        cases hy3
        have sT := same_upd (o := .tup [.ref q1, .ref q2]) nT
        have eT : upd H' T (.tup [.ref q1, .ref q2]) T = some (.tup [.ref q1, .ref q2]) := upd_same
        generalize upd H' T (.tup [.ref q1, .ref q2]) = H3 at sT eT
        have o1 : okL (Ls.getD i []) := okLs _ (mem_getD (by omega))
        have o2 : okL (Ls.getD (1 + i) []) := okLs _ (mem_getD hil)
        have s23 := sm.trans sT
        have bi := bts_at (Ls := Ls) (i := i) (by omega)
        rw [Nat.add_comm i 1] at bi
        have zl := dpAll_len hz
        have ml := congrArg List.length em
        rw [List.length_map, List.length_take] at ml
        rw [List.length_map] at zl
        refine ⟨T, _, rfl, .inl (.inl eT), rfl, _, _, rfl, _, _, rfl, rfl, rfl, ?_⟩
        refine ⟨_, rfl, _, rfl, .ref q1, .ref q2, dL (Ls.getD i []), dL (Ls.getD (1 + i) []), rfl, dpL (same_seqT s23 g1), dpL (same_seqT s23 g2), fun b => absurd b (not_bad o1), fun _ b => absurd b (not_bad o2), fun _ _ hn H4 s4 => ?_, fun _ _ M hM v H4 s4 hv => ?_⟩
        · rw [kept_dL o1, kept_dL o2] at hn
          rw [hn] at bi
          exact kN (List.mem_of_getElem? bi) H4 (((s1.trans s2).trans s23).trans s4)
        · rw [kept_dL o1, kept_dL o2] at hM
          rw [hM] at bi
          have eZ4 := s4 _ _ (sT _ _ eZ)
          refine ⟨_, eZ4, small1000 (by omega), same_put (s23.trans s4) nD2 _, zs ++ [v], Ms ++ [M], upd_same, ?_, ?_⟩
          · rw [List.take_add_one, bi, List.map_append, em]
            rfl
          · rw [List.map_append]
            exact dpAll_app (dpAll_butN eZ4 (But.upd _) (dpAll_same (sT.trans s4) hz) (nl_Ls Ms)) (.cons (dp_butN eZ4 (But.upd _) hv (nl_L M)) .nil)
      · rintro H3 ⟨s3, zs, Ms, eZ, em, hz⟩
        rw [List.take_of_length_le (by rw [List.length_drop]; omega)] at em
        refine ⟨D2, zs, rfl, .inl ⟨.inl (.inl eZ), fun t nt => ?_⟩⟩
        have s4 := same_upd (o := .tup zs) nt
        exact kQ Ms em t zs _ (((s1.trans s2).trans s3).trans s4) (.inl (.inl upd_same)) (dpAll_same s4 hz)
theorem ok_asked (T : Tab K mg) : FnOk P w K mg base CX0 7 T.f_asked T.d_asked ["_law_row_here", "_law_dues_here"] (sp_asked K) := by
  refine T.F_asked.ok sc_asked (fun vs H Q E h => ?_) (fun cdv A outer s H vs Q E hr h => ?_)
  · obtain ⟨a, p, xs, zs, ds, Ls, rfl, _⟩ := h
    rfl
  · obtain ⟨a, p, xs, zs, ds, Ls, rfl, hS, hd, ek, hl, asc, ep, hz, q⟩ := h
    refine ⟨_, (pss_cons (ps_try_as (i := 3) (c := .ref T.C_NoRoom) (Wout := fun _ _ _ _ => False) rfl rfl sc_asked.nd rfl rfl ⟨by rfl, by decide, Or.inl T.cg_NoRoom⟩ takes0
      (fun W pn xe tk _ => (pss_one (ps_set (i := 2) sc_asked.nd rfl (.inl rfl) (pe_callS (ok_neighbours T) (hr.mono (by decide)) (by rfl) T.g_neighbours T.F_neighbours.kp T.b_neighbours (fun σ => passAt tk σ) (pa_cons (pv 0) pa_nil)))))
      (fun a oe cls d pn hz hf => (pss_one (ps_ret (pe_and (pe_cmpR (op_inDK (K := K) rfl (by have z := un2 hr; exact z)) pe_non (pv 1) (by rfl)) (pe_and (pe_callB (call_isX hz hf) (by rfl) T.m_isinstance (by decide +kernel) (pa_cons (pv 3) (pa_cons (pe_glob (v := .ref T.C_AfterError) (by rfl) T.cg_AfterError rfl) pa_nil))) (pe_and (pe_not (pe_callB (call_isX hz hf) (by rfl) T.m_isinstance (by decide +kernel) (pa_cons (pv 3) (pa_cons (pe_glob (v := .ref T.C_BadForm) (by rfl) T.cg_BadForm rfl) pa_nil)))) (pe_one (pe_not (pe_callB (call_isX hz hf) (by rfl) T.m_isinstance (by decide +kernel) (pa_cons (pv 3) (pa_cons (pe_glob (v := .ref T.C_NotThere) (by rfl) T.cg_NotThere rfl) pa_nil))))))))))))
      (pss_one (ps_ret (pe_and (pe_cmpR (op_notInD (un2 hr)) pe_non (pv 1) (by rfl)) (pe_one (pe_call (ok_same T) (hr.mono (by decide)) (by rfl) T.g_same T.F_same.kp T.b_same .nil pass0 (pa_cons (pv 2) (pa_cons (pv 1) pa_nil)))))))), ?_⟩
    have XC : ExcC K T.C_NoRoom := excC_of T.hg_NoRoom T.hk_NoRoom T.hs_NoRoom T.hd_NoRoom T.ha_NoRoom T.hn_NoRoom T.ht_NoRoom T.hm_NoRoom
    have l1 := dpAll_len hd
    have l2 := congrArg List.length ek
    rw [List.length_map, List.length_map] at l2
    refine ⟨_, rfl, a, xs, ds, rfl, hS, hd, by omega, fun j w e hw he ke => (no_kept ek he ke).elim, fun Ms em => ?_⟩
    obtain rfl : Ms = Ls := some_inj (em.symm.trans ek)
    refine ⟨fun j j1 jl jb => absurd (asc j j1 jl) (by rw [jb]; decide), fun _ => ⟨fun hN H' s1 => ?_, fun Ns en t ys H' s1 ht hy => ?_⟩⟩
    · refine ⟨true, T.e_NoRoom_NoRoom, fun _ x hx => ?_, fun w => nomatch w⟩
      refine ⟨_, rfl, .none, _, .non, .lst (.inl (.inl (s1 _ _ ep))) (dpAll_same s1 hz), rfl, shaped_Os _, ?_⟩
      rw [none_inL, List.any_eq_true.mpr ⟨none, hN, rfl⟩]
      refine ⟨true, rfl, iteT ?_⟩
      refine ⟨_, rfl, T.C_NoRoom, _, _, true, rfl, rfl, XC, relRef, .inl rfl, T.q_NoRoom_AfterError, true, rfl, iteT ?_⟩
      refine ⟨_, rfl, T.C_NoRoom, _, _, false, rfl, rfl, XC, relRef, .inl rfl, T.q_NoRoom_BadForm, _, rfl, true, rfl, iteT ?_⟩
      refine ⟨_, rfl, T.C_NoRoom, _, _, false, rfl, rfl, XC, relRef, .inl rfl, T.q_NoRoom_NotThere, _, rfl, ?_⟩
      exact q _ s1
    · have hz1 := dpAll_same s1 hz
      have ln := congrArg List.length en
      rw [bts_len, List.length_map] at ln
      refine ⟨_, rfl, .none, _, .non, .lst (.inl (.inl (s1 _ _ ep))) hz1, rfl, shaped_Os _, ?_⟩
      rw [none_inL, en, no_none]
      refine ⟨true, rfl, iteT ?_⟩
      rw [en, oD_some] at hz1
      exact ⟨_, rfl, _, rfl, t, p, ys, zs, Ns, rfl, ht, hy, s1 _ _ ep, hz1, by omega, q _ s1⟩
theorem ok_bad_label (T : Tab K mg) : GnOk P w K mg base CX0 7 T.f_bad_label T.d_bad_label ["_law_row_here", "_law_thing"] (sp_bad_label K) := by
  refine gn_ok T.F_bad_label sc_bad_label (fun vs H Q E h => ?_) (fun cdv A outer s H vs Q E hr hg h => ?_)
  · obtain ⟨a, xs, ds, v, d, i, rfl, _⟩ := h
    rfl
  · obtain ⟨a, xs, ds, v, d, i, rfl, hS, hd, hlen, hv, hdd, kd, first, sh, q⟩ := h
    refine ⟨_, (pss_cons (ps_try_as (i := 2) (c := .ref T.C_BadForm) (Wout := fun _ _ _ _ => False) rfl rfl sc_bad_label.nd rfl rfl ⟨by rfl, by decide, Or.inl T.cg_BadForm⟩ takes0
      (fun W pn xe tk _ => (pss_one (ps_expr (pe_callS (ok_neighbours T) (hr.mono (by decide)) (by rfl) T.g_neighbours T.F_neighbours.kp T.b_neighbours (fun σ => passAt tk σ) (pa_cons (pv 0) pa_nil)))))
      (fun a oe cls d pn hz hf => (pss_cons (ps_if (PW.pt (pw_or (pt_not (pt_val (pe_callB (call_isX hz hf) (by rfl) T.m_isinstance (by decide +kernel) (pa_cons (pv 2) (pa_cons (pe_glob (v := .ref T.C_BadLabel) (by rfl) T.cg_BadLabel rfl) pa_nil))))) (pw_or1 (pt_val (pe_callB (call_isX hz hf) (by rfl) T.m_isinstance (by decide +kernel) (pa_cons (pv 2) (pa_cons (pe_glob (v := .ref T.C_BadOrder) (by rfl) T.cg_BadOrder rfl) pa_nil)))))))
        (pss_one (ps_ret pe_bl))
        pss_nil)
        (pss_one (ps_ret (pe_and (pe_cmpR op_eq (pe_callB (call_reprS (by exact hg) (by exact un20 hr)) (by rfl) T.m_repr (by decide +kernel) (pa_cons (pe_xf ⟨T.hg_BadLabel, T.hk_BadLabel, T.hs_BadLabel, T.hd_BadLabel⟩ T.n_BadLabel_label hz hf (pv 2)) pa_nil)) (pe_callB (call_reprS (by exact hg) (by exact un20 hr)) (by rfl) T.m_repr (by decide +kernel) (pa_cons (pv 1) pa_nil)) (nomark _)) (pe_one (pe_callB (call_isX hz hf) (by rfl) T.m_isinstance (by decide +kernel) (pa_cons (pv 2) (pa_cons (pe_bltn (v := .ty "ValueError") (u := .type "ValueError") (by rfl) T.m_ValueError (by decide +kernel) rfl) pa_nil))))))))))
      (pss_one (ps_ret pe_bl))), ?_⟩
    have XC : ExcC K T.C_BadLabel := excC_of T.hg_BadLabel T.hk_BadLabel T.hs_BadLabel T.hd_BadLabel T.ha_BadLabel T.hn_BadLabel T.ht_BadLabel T.hm_BadLabel
    obtain ⟨sh1, sh2, sh3, sh4⟩ := sh
    obtain ⟨d', e', hvd⟩ := dpAll_get hd hv
    rw [hdd] at e'
    cases e'
    refine ⟨_, rfl, a, xs, ds, rfl, hS, hd, hlen, fun j w e hw he ke hj H' dd s1 hx => ?_, fun Ls ek => (no_kept ek hdd kd).elim⟩
    have ej : j = i := by
      rcases Nat.lt_trichotomy j i with h | h | h
      · exact absurd ke (first j e h he)
      · exact h
      · exact absurd kd (hj i d h hdd)
    subst ej
    rw [hv] at hw
    cases hw
    have hz1 := dp_same s1 hvd
    refine ⟨true, T.e_BadLabel_BadForm, fun _ x hx' => ?_, fun w => nomatch w⟩
    refine ⟨_, rfl, T.C_BadLabel, _, _, true, rfl, rfl, XC, relRef, .inr ⟨dd, _, rfl, hx⟩, T.q_BadLabel_BadLabel, true, rfl, iteF ?_⟩
    refine ⟨_, rfl, T.C_BadLabel, _, _, false, rfl, rfl, XC, relRef, .inr ⟨dd, _, rfl, hx⟩, T.q_BadLabel_BadOrder, false, rfl, iteF ?_⟩
    refine ⟨_, rfl, rfl, rfl, dd, _, v, rfl, hx, rfl, ?_⟩
    refine ⟨_, d, rfl, hz1, sh1, sh2, sh3, sh4, ?_⟩
    refine ⟨_, rfl, _, d, rfl, hz1, sh1, sh2, sh3, sh4, ?_⟩
    refine ⟨rfl, ?_⟩
    rw [decide_eq_true rfl]
    refine ⟨true, rfl, iteT ?_⟩
    refine ⟨_, rfl, T.C_BadLabel, _, _, true, rfl, rfl, XC, relTy, .inr ⟨dd, _, rfl, hx⟩, T.q_BadLabel_ValueError, ?_⟩
    exact q _ s1
theorem ok_bad_order (T : Tab K mg) : FnOk P w K mg base CX0 7 T.f_bad_order T.d_bad_order ["_law_row_here", "_law_at"] (sp_bad_order K) := by
  refine T.F_bad_order.ok sc_bad_order (fun vs H Q E h => ?_) (fun cdv A outer s H vs Q E hr h => ?_)
  · obtain ⟨a, xs, ds, Ls, k, rfl, _⟩ := h
    rfl
  · obtain ⟨a, xs, ds, Ls, k, rfl, hS, hd, ek, hl, k1, kl, bad, good, q⟩ := h
    refine ⟨_, (pss_cons (ps_try_as (i := 2) (c := .ref T.C_AfterError) (Wout := fun _ _ _ _ => False) rfl rfl sc_bad_order.nd rfl rfl ⟨by rfl, by decide, Or.inl T.cg_AfterError⟩ takes0
      (fun W pn xe tk _ => (pss_one (ps_expr (pe_callS (ok_neighbours T) (hr.mono (by decide)) (by rfl) T.g_neighbours T.F_neighbours.kp T.b_neighbours (fun σ => passAt tk σ) (pa_cons (pv 0) pa_nil)))))
      (fun a oe cls d pn hz hf => (pss_cons (ps_if (PW.pt (pw_or (pt_not (pt_val (pe_callB (call_isX hz hf) (by rfl) T.m_isinstance (by decide +kernel) (pa_cons (pv 2) (pa_cons (pe_glob (v := .ref T.C_BadOrder) (by rfl) T.cg_BadOrder rfl) pa_nil))))) (pw_or (pt_val (pe_callB (call_isX hz hf) (by rfl) T.m_isinstance (by decide +kernel) (pa_cons (pv 2) (pa_cons (pe_glob (v := .ref T.C_BadLabel) (by rfl) T.cg_BadLabel rfl) pa_nil)))) (pw_or1 (pt_not (pt_val (pe_callB (call_isX hz hf) (by rfl) T.m_isinstance (by decide +kernel) (pa_cons (pv 2) (pa_cons (pe_glob (v := .ref T.C_BadForm) (by rfl) T.cg_BadForm rfl) pa_nil)))))))))
        (pss_one (ps_ret pe_bl))
        pss_nil)
        (pss_one (ps_ret (pe_and (pe_callQ (hot_law_is_integer T) (by have z := hr.mono (j := 1) (by decide); exact ⟨z.dp, z.un⟩) ⟨_, List.mem_cons_self ..⟩ (by rfl) T.g_law_is_integer T.F_law_is_integer.kp T.b_law_is_integer (pa_cons (pe_xf ⟨T.hg_BadOrder, T.hk_BadOrder, T.hs_BadOrder, T.hd_BadOrder⟩ T.n_BadOrder_place hz hf (pv 2)) pa_nil)) (pe_and (pe_cmpR op_eq (pe_xf ⟨T.hg_BadOrder, T.hk_BadOrder, T.hs_BadOrder, T.hd_BadOrder⟩ T.n_BadOrder_place hz hf (pv 2)) (pv 1) (nomark _)) (pe_one (pe_not (pe_callB (call_isX hz hf) (by rfl) T.m_isinstance (by decide +kernel) (pa_cons (pv 2) (pa_cons (pe_glob (v := .ref T.C_NotThere) (by rfl) T.cg_NotThere rfl) pa_nil))))))))))))
      (pss_one (ps_ret pe_bl))), ?_⟩
    have XC : ExcC K T.C_BadOrder := excC_of T.hg_BadOrder T.hk_BadOrder T.hs_BadOrder T.hd_BadOrder T.ha_BadOrder T.hn_BadOrder T.ht_BadOrder T.hm_BadOrder
    have l1 := dpAll_len hd
    have l2 := congrArg List.length ek
    rw [List.length_map, List.length_map] at l2
    refine ⟨_, rfl, a, xs, ds, rfl, hS, hd, by omega, fun j w e hw he ke => (no_kept ek he ke).elim, fun Ms em => ?_⟩
    obtain rfl : Ms = Ls := some_inj (em.symm.trans ek)
    refine ⟨fun j j1 jl jb jg H' dd s1 hx => ?_, fun asc => absurd (asc k k1 kl) (by rw [bad]; decide)⟩
    have ej : j = k := by
      rcases Nat.lt_trichotomy j k with h | h | h
      · exact absurd (good j j1 h) (by rw [jb]; decide)
      · exact h
      · exact absurd (jg k k1 h) (by rw [bad]; decide)
    subst ej
    refine ⟨true, T.e_BadOrder_AfterError, fun _ x hx' => ?_, fun w => nomatch w⟩
    refine ⟨_, rfl, T.C_BadOrder, _, _, true, rfl, rfl, XC, relRef, .inr ⟨dd, _, rfl, hx⟩, T.q_BadOrder_BadOrder, true, rfl, iteF ?_⟩
    refine ⟨_, rfl, T.C_BadOrder, _, _, false, rfl, rfl, XC, relRef, .inr ⟨dd, _, rfl, hx⟩, T.q_BadOrder_BadLabel, false, rfl, iteF ?_⟩
    refine ⟨_, rfl, T.C_BadOrder, _, _, true, rfl, rfl, XC, relRef, .inr ⟨dd, _, rfl, hx⟩, T.q_BadOrder_BadForm, true, rfl, iteF ?_⟩
    refine ⟨_, rfl, rfl, rfl, dd, _, .int j, rfl, hx, rfl, _, rfl, true, rfl, iteT ?_⟩
    refine ⟨_, rfl, rfl, rfl, dd, _, .int j, rfl, hx, rfl, _, rfl, rfl, ?_⟩
    rw [decide_eq_true rfl]
    refine ⟨true, rfl, iteT ?_⟩
    refine ⟨_, rfl, T.C_BadOrder, _, _, false, rfl, rfl, XC, relRef, .inr ⟨dd, _, rfl, hx⟩, T.q_BadOrder_NotThere, _, rfl, ?_⟩
    exact q _ s1
theorem ok_rounds (T : Tab K mg) : FnOk P w K mg base CX0 8 T.f_rounds T.d_rounds ["_law_row_here"] (sp_rounds K) := by
  refine T.F_rounds.ok sc_rounds (fun vs H Q E h => ?_) (fun cdv A outer s H vs Q E hr h => ?_)
  · obtain ⟨p, ys, Ls, rfl, _⟩ := h
    rfl
  · obtain ⟨p0, ys0, Ls0, rfl, ep0, hy0, ok0, asc0, hl0, q⟩ := h
    refine ⟨_, (pss_cons (ps_for PassesOwn.never rfl (pi_range1 (by rfl) T.m_range (pa_cons pe_int pa_nil)) (pg_name (i := 1) sc_rounds.nd rfl (.inl rfl))
      (pss_cons (ps_set (i := 2) sc_rounds.nd rfl (.inl rfl) (pe_call (ok_dues T) (hr.mono (by decide)) (by rfl) T.g_dues T.F_dues.kp T.b_dues .nil pass0 (pa_cons (pv 0) pa_nil)))
        (pss_cons (ps_setLc (i := 3) (own := [("_law_label_here", 6)]) (g := gName 6) (by rfl) sc_rounds.nd rfl rfl (sw_true rfl rfl rfl (by decide +kernel)) (pi_list (pv 0)) (blkOk_by (own := [("_law_label_here", 6)]) (N := N_rounds) (sc := defScope s_rounds) (by decide +kernel)) (fun _ _ _ _ _ => pg_name (i := 6) sc_rounds.nd rfl (.inl rfl)) (fun _ _ _ _ _ => pts_nil) (fun _ _ _ _ _ => (pe_callTy (call_list_ofK (K := K) rfl) (by rfl) T.m_list (by decide +kernel) (pa_cons (pv 6) pa_nil))))
        (pss_cons (ps_if (PW.pt (pw_or (pt_not (pt_val (pe_call (ok_asked T) (hr.mono (by decide)) (by rfl) T.g_asked T.F_asked.kp T.b_asked .nil pass0 (pa_cons (pe_callTy call_tuple_of (by rfl) T.m_tuple (by decide +kernel) (pa_cons (pv 0) pa_nil)) (pa_cons (pv 2) pa_nil))))) (pw_or1 (pt_not (pt_val (pe_call (ok_asked T) (hr.mono (by decide)) (by rfl) T.g_asked T.F_asked.kp T.b_asked .nil pass0 (pa_cons (pv 3) (pa_cons (pv 2) pa_nil))))))))
        (pss_one (ps_ret pe_bl))
        pss_nil)
        (pss_cons (ps_if (pt_cmpR (op_neD hr.units) (pv 3) (pe_lc (own := [("_law_label_here", 6)]) (g := gName 6) (by rfl) sc_rounds.nd (pi_list (pv 0)) (blkOk_by (own := [("_law_label_here", 6)]) (N := N_rounds) (sc := defScope s_rounds) (by decide +kernel)) (fun _ _ _ _ _ => pg_name (i := 6) sc_rounds.nd rfl (.inl rfl)) (fun _ _ _ _ _ => pts_nil) (fun _ _ _ _ _ => (pe_callTy (call_list_ofK (K := K) rfl) (by rfl) T.m_list (by decide +kernel) (pa_cons (pv 6) pa_nil)))) (nomark _))
        (pss_one (ps_ret pe_bl))
        pss_nil)
        (pss_cons (ps_if (PW.pt (pw_or (pt_cmpR (op_inD (un2 hr)) pe_non (pv 2) (by rfl)) (pw_or1 (pt_cmpR op_lt (pe_callB call_len_seq (by rfl) T.m_len PySem.boot_len (pa_cons (pv 0) pa_nil)) pe_int (nomark _)))))
        (pss_one (ps_ret pe_bl))
        pss_nil)
        (pss_cons (ps_set (i := 4) sc_rounds.nd rfl (.inl rfl) (pe_lst (pa_cons (pe_ix (ix_listK (K := K) rfl) (pv 0) pe_int (fun _ _ => rfl)) pa_nil)))
        (pss_cons (ps_for PassesOwn.never rfl (pi_range1 (by rfl) T.m_range (pa_cons (pe_callB call_len_seq (by rfl) T.m_len PySem.boot_len (pa_cons (pv 2) pa_nil)) pa_nil)) (pg_name (i := 5) sc_rounds.nd rfl (.inl rfl))
        (pss_cons (ps_if (pt_not (pt_chain (op_ltT hr.units0) (op_ltT hr.units0) (pe_ix (ix_listK (K := K) rfl) (pv 0) (pv 5) (fun _ _ => rfl)) (pe_ix (ix_listK (K := K) rfl) (pv 2) (pv 5) (fun _ _ => rfl)) (pe_ix (ix_listK (K := K) rfl) (pv 0) (pe_op op_add (pv 5) pe_int) (fun _ _ => rfl))))
          (pss_one (ps_ret pe_bl))
          pss_nil)
          (pss_one (ps_set (i := 4) sc_rounds.nd rfl (.inl rfl) (pe_op op_cat (pv 4) (pe_lst (pa_cons (pe_ix (ix_listK (K := K) rfl) (pv 2) (pv 5) (fun _ _ => rfl)) (pa_cons (pe_ix (ix_listK (K := K) rfl) (pv 0) (pe_op op_add (pv 5) pe_int) (fun _ _ => rfl)) pa_nil))))))))
        (pss_one (ps_set (i := 0) sc_rounds.nd rfl (.inl rfl) (pv 4)))))))))))
      (pss_one (ps_ret pe_bl))), ?_⟩
    refine ⟨_, rfl, by decide, by decide, for_range (lo := 0) (n := 3) (fun i σ' H' => ∃ (p : Addr) (ys : List V) (Ls : List (List Int)) (y1 y2 y3 y4 y5 y6 : Option V), σ' = [some (.ref p), y1, y2, y3, y4, y5, y6] ∧ Same H H' ∧ H' p = some (.lst ys) ∧ DpAll K H' ys (Ls.map dL) ∧ (∀ L ∈ Ls, okL L) ∧ Asc Ls ∧ Ls.length ≤ 7 * 2 ^ i) ⟨p0, ys0, Ls0, none, none, none, none, none, none, rfl, Same.refl _, ep0, hy0, ok0, asc0, hl0⟩ ?_ ?_⟩
    · rintro i σ' H1 hi ⟨p, ys, Ls, y1, y2, y3, y4, y5, y6, rfl, s1, ep, hy, ok, asc, hl⟩
      have hb : Ls.length ≤ 28 := by
        have : i = 0 ∨ i = 1 ∨ i = 2 := by omega
        rcases this with rfl | rfl | rfl
        · exact Nat.le_trans hl (by decide)
        · exact Nat.le_trans hl (by decide)
        · exact Nat.le_trans hl (by decide)
      have yl := dpAll_len hy
      rw [List.length_map] at yl
      refine ⟨_, rfl, p, ys, Ls, rfl, ep, hy, ok, by omega, fun qd zs H2 s2 nq eq hz => ?_⟩
      have ep2 := s2 _ _ ep
      have hy2 := dpAll_same s2 hy
      refine ⟨_, rfl, p, rfl, ⟨_, .inl (.inl ep2)⟩, fun D nD => ?_⟩
      refine lc_list (xs := ys) (fun j H' => Same H2 H' ∧ ∃ ls : List Addr, H' D = some (.lst (ls.map V.ref)) ∧ LAll H' D ls (Ls.take j)) ⟨same_upd nD, [], upd_same, trivial⟩ (fun j H' _ hh => .inl (.inl (hh.1 _ _ ep2))) ?_ ?_
      · rintro j x H' hx ⟨sm, ls, eD, hw⟩
        have hj : j < Ls.length := by
          have := (List.getElem?_eq_some_iff.mp hx).1
          omega
        obtain ⟨t, e1, g1⟩ := row_at hy2 hj
        rw [e1] at hx
        cases hx
        have ll := LAll.len hw
        rw [List.length_take] at ll
        refine ⟨rfl, ?_⟩
        refine ⟨_, rfl, t, _, rfl, .inr (same_seqT sm g1), fun l nl => ?_⟩
        have sl := same_upd (o := .lst ((Ls.getD j []).map V.int)) nl
        have eD' := sl _ _ eD
        have lD : l ≠ D := (ne_of_none eD nl).symm
        refine ⟨_, eD', ?_, same_put (sm.trans sl) nD _, ls ++ [l], ?_, ?_⟩
        · rw [List.length_map]; exact small1000 (by omega)
        · rw [upd_same, List.map_append]; rfl
        · rw [List.take_add_one, getD_at Ls hj []]
          exact (LAll.snoc lD upd_same (hw.same sl)).put
      rintro H3 ⟨s3, ls, eD, hw⟩
      rw [List.take_of_length_le (by omega)] at hw
      have ep3 := s3 _ _ ep2
      have hy3 := dpAll_same s3 hy2
      have eq3 := s3 _ _ eq
      have hz3 := dpAll_same s3 hz
      refine ⟨_, rfl, p, ys, rfl, .inl ⟨.inl (.inl ep3), fun t nt => ?_⟩⟩
      have st := same_upd (o := .tup ys) nt
      refine ⟨_, rfl, t, qd, ys, zs, Ls.map dL, Ls, rfl, .inr (.inl (.inl upd_same)), dpAll_same st hy3, keptDs ok, by omega, asc, st _ _ eq3, dpAll_same st hz3, fun H4 s4 => ⟨true, rfl, iteF ?_⟩⟩
      have s34 := st.trans s4
      refine ⟨_, rfl, _, rfl, D, qd, ls.map V.ref, zs, Ls.map dLl, Ls, rfl, .inl (.inl (.inl (s34 _ _ eD))), (hw.same s34).dp, keptLs ok, by omega, asc, s34 _ _ eq3, dpAll_same s34 hz3, fun H5 s5 => ⟨true, rfl, iteF ?_⟩⟩
      have s35 := s34.trans s5
      have ep5 := s35 _ _ ep3
      have hy5 := dpAll_same s35 hy3
      refine ⟨_, rfl, _, rfl, p, rfl, ⟨_, .inl (.inl ep5)⟩, fun D2 nD2 => ?_⟩
      refine lc_list (xs := ys) (fun j H' => Same H5 H' ∧ ∃ ls : List Addr, H' D2 = some (.lst (ls.map V.ref)) ∧ LAll H' D2 ls (Ls.take j)) ⟨same_upd nD2, [], upd_same, trivial⟩ (fun j H' _ hh => .inl (.inl (hh.1 _ _ ep5))) ?_ ?_
      · rintro j x H' hx ⟨sm, ls, eD, hw⟩
        have hj : j < Ls.length := by
          have := (List.getElem?_eq_some_iff.mp hx).1
          omega
        obtain ⟨t, e1, g1⟩ := row_at hy5 hj
        rw [e1] at hx
        cases hx
        have ll := LAll.len hw
        rw [List.length_take] at ll
        refine ⟨rfl, ?_⟩
        refine ⟨_, rfl, t, _, rfl, .inr (same_seqT sm g1), fun l nl => ?_⟩
        have sl := same_upd (o := .lst ((Ls.getD j []).map V.int)) nl
        have eD' := sl _ _ eD
        have lD : l ≠ D2 := (ne_of_none eD nl).symm
        refine ⟨_, eD', ?_, same_put (sm.trans sl) nD2 _, ls ++ [l], ?_, ?_⟩
        · rw [List.length_map]; exact small1000 (by omega)
        · rw [upd_same, List.map_append]; rfl
        · rw [List.take_add_one, getD_at Ls hj []]
          exact (LAll.snoc lD upd_same (hw.same sl)).put
      rintro H6 ⟨s6, ls2, eD2, hw2⟩
      rw [List.take_of_length_le (by omega)] at hw2
      refine ⟨.list (Ls.map dLl), .list (Ls.map dLl), .lst (.inl (.inl (s6 _ _ (s35 _ _ eD)))) (hw.same (s35.trans s6)).dp, .lst (.inl (.inl eD2)) hw2.dp, shaped_Lls _, shaped_Lls _, _, rfl, ite2 (fun e => absurd e (by rw [eqv_Lls]; decide)) (fun _ => ?_)⟩
      have s36 := s35.trans s6
      have s16 := ((s1.trans s2).trans s3).trans s36
      have ep6 := s36 _ _ ep3
      have hy6 := dpAll_same s36 hy3
      have eq6 := s36 _ _ eq3
      have hz6 := dpAll_same s36 hz3
      refine ⟨_, rfl, .none, _, .non, .lst (.inl (.inl eq6)) hz6, rfl, shaped_Os _, _, rfl, ite2 (fun e => iteT (q _ s16)) (fun e => ?_)⟩
      refine ⟨_, rfl, _, _, rfl, .inl (.inl (.inl ep6)), _, _, rfl, rfl, _, rfl, ite2 (fun e2 => q _ s16) (fun e2 => ?_)⟩
      have nN : none ∉ bts Ls := fun hN => e (by rw [none_inL]; exact List.any_eq_true.mpr ⟨none, hN, rfl⟩)
      obtain ⟨Ms, em⟩ := all_somes nN
      have h2 : 2 ≤ Ls.length := by
        have : ¬ ((ys.length : Int) < 2) := fun z => e2 (decide_eq_true z)
        omega
      have ml := congrArg List.length em
      rw [bts_len, List.length_map] at ml
      rw [em, oD_some] at hz6
      have zl := dpAll_len hz6
      rw [List.length_map] at zl
      obtain ⟨p1, e1, g1⟩ := row_at hy6 (k := 0) (by omega)
      refine ⟨_, rfl, p, _, 0, _, rfl, rfl, .inl (.inl ep6), atI_nat (j := 0) e1, (by show 1 ≤ sizeLine; decide), fun g ng => ?_⟩
      have sg := same_upd (o := .lst [V.ref p1]) ng
      have eg : upd H6 g (.lst [V.ref p1]) g = some (.lst [V.ref p1]) := upd_same
      have g7 := same_seqT sg g1
      generalize upd H6 g (.lst [V.ref p1]) = H7 at sg eg g7
      have ep7 := sg _ _ ep6
      have hy7 := dpAll_same sg hy6
      have eq7 := sg _ _ eq6
      have hz7 := dpAll_same sg hz6
      refine ⟨_, rfl, _, _, rfl, .inl (.inl (.inl eq7)), _, rfl, by omega, by omega, for_range (lo := 0) (n := (zs.length : Int).toNat) (fun k σ' H' => ∃ (g : Addr) (us : List V) (Ns : List (List Int)) (y5 : Option V), σ' = [some (.ref p), some (.int (0 + (i : Int))), some (.ref qd), some (.ref D), some (.ref g), y5, y6] ∧ Same H7 H' ∧ H' g = some (.lst us) ∧ DpAll K H' us (Ns.map dL) ∧ (∀ L ∈ Ns, okL L) ∧ Asc Ns ∧ Ns.length = 2 * k + 1 ∧ Ns.getD (2 * k) [] = Ls.getD k []) ⟨g, _, [Ls.getD 0 []], y5, rfl, Same.refl _, eg, .cons (dpL g7) .nil, (fun L hL => by rw [List.mem_singleton.mp hL]; exact ok _ (mem_getD (by omega))), (fun k h1 h2 => by have : [Ls.getD 0 []].length = 1 := rfl; omega), rfl, rfl⟩ ?_ ?_⟩
      · rintro k σ' H8 hk ⟨g, us, Ns, y5, rfl, s8, eg, hu, okN, ascN, ln, last⟩
        have hkM : k < Ms.length := by omega
        have ep8 := s8 _ _ ep7
        have eq8 := s8 _ _ eq7
        have hy8 := dpAll_same s8 hy7
        have hz8 := dpAll_same s8 hz7
        obtain ⟨a1, f1, c1⟩ := row_at hy8 (k := k) (by omega)
        obtain ⟨a2, f2, c2⟩ := row_at hz8 hkM
        obtain ⟨a3, f3, c3⟩ := row_at hy8 (k := k + 1) (by omega)
        have eb := bts_at (Ls := Ls) (i := k) (by omega)
        rw [em, List.getElem?_map, getD_at Ms hkM []] at eb
        obtain ⟨okM, lt1, lt2⟩ := btw_ok (ok _ (mem_getD (by omega))) (Option.some.inj eb).symm
        refine ⟨_, rfl, _, rfl, p, _, _, _, rfl, rfl, .inl (.inl ep8), at_of' (j := k) (by omega) f1, ?_⟩
        refine ⟨_, rfl, _, rfl, qd, _, _, _, rfl, rfl, .inl (.inl eq8), at_of' (j := k) (by omega) f2, a1, a2, _, _, rfl, rfl, c1, c2, true, congrArg V.bl lt1, iteT ?_⟩
        refine ⟨_, rfl, _, rfl, _, _, rfl, rfl, p, _, _, _, rfl, rfl, .inl (.inl ep8), at_of' (j := k + 1) (by omega) f3, a2, a3, _, _, rfl, rfl, c2, c3, true, congrArg V.bl lt2, iteF ?_⟩
        refine ⟨_, rfl, _, rfl, _, rfl, qd, _, _, _, rfl, rfl, .inl (.inl eq8), at_of' (j := k) (by omega) f2, ?_⟩
        refine ⟨_, rfl, _, rfl, _, _, rfl, rfl, p, _, _, _, rfl, rfl, .inl (.inl ep8), at_of' (j := k + 1) (by omega) f3, (by show 2 ≤ sizeLine; decide), fun l nl => ?_⟩
        have sl := same_upd (o := .lst [V.ref a2, .ref a3]) nl
        have ul := dpAll_len hu
        rw [List.length_map] at ul
        refine ⟨g, l, us, _, rfl, rfl, sl _ _ eg, upd_same, Nat.le_of_lt (small1000 (by show us.length + 2 ≤ 1000; omega)), fun g2 ng2 => ?_⟩
        have s2' := sl.trans (same_upd (o := .lst (us ++ [V.ref a2, .ref a3])) ng2)
        refine ⟨g2, us ++ [V.ref a2, .ref a3], Ns ++ [Ms.getD k [], Ls.getD (k + 1) []], _, rfl, s8.trans s2', upd_same, ?_, ?_, ?_, ?_, ?_⟩
        · rw [List.map_append]
          exact dpAll_app (dpAll_same s2' hu) (.cons (dpL (same_seqT s2' c2)) (.cons (dpL (same_seqT s2' c3)) .nil))
        · intro L hL
          rcases List.mem_append.mp hL with h | h
          · exact okN L h
          · simp only [List.mem_cons, List.not_mem_nil, or_false] at h
            rcases h with rfl | rfl
            · exact okM
            · exact ok _ (mem_getD (by omega))
        · rw [show Ns ++ [Ms.getD k [], Ls.getD (k + 1) []] = (Ns ++ [Ms.getD k []]) ++ [Ls.getD (k + 1) []] by rw [List.append_assoc]; rfl]
          refine asc_snoc (n := 2 * k + 1) (asc_snoc (n := 2 * k) ascN ln (by rw [last]; exact lt1)) (by rw [List.length_append, ln]; rfl) ?_
          rw [getD_end1 ln]
          exact lt2
        · rw [List.length_append, ln]; show 2 * k + 1 + 2 = 2 * (k + 1) + 1; omega
        · rw [show 2 * (k + 1) = 2 * k + 2 by omega, getD_end ln]
      · rintro σ' H8 ⟨g, us, Ns, y5, rfl, s8, eg, hu, okN, ascN, ln, last⟩
        refine ⟨_, rfl, g, us, Ns, _, _, _, _, _, _, rfl, (s16.trans sg).trans s8, eg, hu, okN, ascN, ?_⟩
        rw [Nat.pow_succ]
        omega
    · rintro σ' H1 ⟨p, ys, Ls, y1, y2, y3, y4, y5, y6, rfl, s1, ep, hy, ok, asc, hl⟩
      exact q H1 s1
theorem ok_refusals (T : Tab K mg) : GnOk P w K mg base CX0 8 T.f_refusals T.d_refusals ["_law_source_here", "_law_row_here"] (sp_refusals K) := by
  refine gn_ok T.F_refusals sc_refusals (fun vs H Q E h => ?_) (fun cdv A outer s H vs Q E hr hg h => ?_)
  · obtain ⟨a, p, ys, Ls, rfl, _⟩ := h
    rfl
  · obtain ⟨a, p, ys, Ls, rfl, src, pa, ep, hy, ok, asc, hl, q⟩ := h
    refine ⟨_, (pss_cons (ps_set (i := 2) sc_refusals.nd rfl (.inl rfl) (pe_call (ok_odd T) (hr.mono (by decide)) (by rfl) T.g_odd T.F_odd.kp T.b_odd .nil pass0 (pa_cons (pv 0) (pa_cons (pe_call (ok_label T) (hr.mono (by decide)) (by rfl) T.g_label T.F_label.kp T.b_label .nil pass0 (pa_cons (pv 0) pa_nil)) pa_nil))))
      (pss_cons (ps_set (i := 3) sc_refusals.nd rfl (.inl rfl) (pe_call (ok_pick T) (hr.mono (by decide)) (by rfl) T.g_pick T.F_pick.kp T.b_pick .nil pass0 (pa_cons (pv 0) (pa_cons (pe_op op_add (pe_callB call_len_seq (by rfl) T.m_len PySem.boot_len (pa_cons (pv 1) pa_nil)) pe_int) pa_nil))))
      (pss_cons (ps_if (pt_not (pt_val (pe_callG (ok_bad_label T) (hr.mono (by decide)) hg (by rfl) T.g_bad_label T.F_bad_label.kp T.b_bad_label pass0 (pa_cons (pe_callTy call_tuple_of (by rfl) T.m_tuple (by decide +kernel) (pa_cons (pe_op op_cat (pe_op op_cat (pe_slice sl_list (pv 1) po_none (po_some (pv 3))) (pe_lst (pa_cons (pv 2) pa_nil))) (pe_slice sl_list (pv 1) (po_some (pv 3)) po_none)) pa_nil)) (pa_cons (pv 2) pa_nil)))))
      (pss_one (ps_ret pe_bl))
      pss_nil)
      (pss_cons (ps_if (pt_not (pt_truth (pv 1) (fun _ => rfl)))
      (pss_one (ps_ret pe_bl))
      pss_nil)
      (pss_cons (ps_set (i := 3) sc_refusals.nd rfl (.inl rfl) (pe_op op_add pe_int (pe_call (ok_pick T) (hr.mono (by decide)) (by rfl) T.g_pick T.F_pick.kp T.b_pick .nil pass0 (pa_cons (pv 0) (pa_cons (pe_callB call_len_seq (by rfl) T.m_len PySem.boot_len (pa_cons (pv 1) pa_nil)) pa_nil)))))
      (pss_cons (ps_set (i := 4) sc_refusals.nd rfl (.inl rfl) (pe_ix ix_list (pv 1) (pe_call (ok_pick T) (hr.mono (by decide)) (by rfl) T.g_pick T.F_pick.kp T.b_pick .nil pass0 (pa_cons (pv 0) (pa_cons (pv 3) pa_nil))) (fun _ _ => rfl)))
      (pss_cons (ps_set (i := 5) sc_refusals.nd rfl (.inl rfl) (pe_op op_cat (pe_op op_cat (pe_slice sl_list (pv 1) po_none (po_some (pv 3))) (pe_lst (pa_cons (pv 4) pa_nil))) (pe_slice sl_list (pv 1) (po_some (pv 3)) po_none)))
      (pss_cons (ps_if (pt_not (pt_val (pe_call (ok_bad_order T) (hr.mono (by decide)) (by rfl) T.g_bad_order T.F_bad_order.kp T.b_bad_order .nil pass0 (pa_cons (pe_callTy call_tuple_of (by rfl) T.m_tuple (by decide +kernel) (pa_cons (pv 5) pa_nil)) (pa_cons (pv 3) pa_nil)))))
      (pss_one (ps_ret pe_bl))
      pss_nil)
      (pss_cons (ps_for PassesOwn.never rfl (pi_list (pe_lst (pa_cons pe_int (pa_cons (pe_call (ok_pick T) (hr.mono (by decide)) (by rfl) T.g_pick T.F_pick.kp T.b_pick .nil pass0 (pa_cons (pv 0) (pa_cons (pe_op op_add (pe_callB call_len_seq (by rfl) T.m_len PySem.boot_len (pa_cons (pv 5) pa_nil)) pe_int) pa_nil))) (pa_cons (pe_callB call_len_seq (by rfl) T.m_len PySem.boot_len (pa_cons (pv 5) pa_nil)) pa_nil))))) (pg_name (i := 6) sc_refusals.nd rfl (.inl rfl))
      (pss_one (ps_if (pt_not (pt_val (pe_callG (ok_bad_label T) (hr.mono (by decide)) hg (by rfl) T.g_bad_label T.F_bad_label.kp T.b_bad_label pass0 (pa_cons (pe_op op_cat (pe_op op_cat (pe_slice sl_list (pv 5) po_none (po_some (pv 6))) (pe_lst (pa_cons (pv 2) pa_nil))) (pe_slice sl_list (pv 5) (po_some (pv 6)) po_none)) (pa_cons (pv 2) pa_nil)))))
        (pss_one (ps_ret pe_bl))
        pss_nil)))
      (pss_one (ps_ret (pe_callG (ok_bad_label T) (hr.mono (by decide)) hg (by rfl) T.g_bad_label T.F_bad_label.kp T.b_bad_label pass0 (pa_cons (pe_op op_cat (pv 5) (pe_lst (pa_cons (pv 2) (pa_cons (pe_tup (pa_cons pe_str pa_nil)) pa_nil)))) (pa_cons (pv 2) pa_nil)))))))))))))), ?_⟩
    have yl := dpAll_len hy
    rw [List.length_map] at yl
    have keepR : ∀ {Hx Hy : Hp}, Src Hx a → But a Hx Hy → (Hx p = some (.lst ys) ∧ DpAll K Hx ys (Ls.map dL)) → (Hy p = some (.lst ys) ∧ DpAll K Hy ys (Ls.map dL)) := fun sx b r => by
      obtain ⟨xs, ea⟩ := src_lst sx
      exact ⟨b _ _ pa r.1, dpAll_butN ea b r.2 (nl_Ls Ls)⟩
    refine ⟨_, rfl, _, rfl, a, rfl, src, fun t L H1 s1 b1 et okl => ?_⟩
    refine ⟨a, .ref t, L, rfl, s1, dpL (.inl (.inl et)), okl, fun od d H2 s2 b2 hod kd sh nl => ?_⟩
    have r2 := keepR s1 b2 (keepR src b1 ⟨ep, hy⟩)
    have b02 := b1.trans b2
    refine ⟨_, rfl, _, rfl, _, _, rfl, .inl (.inl (.inl r2.1)), _, _, rfl, rfl, _, _, rfl, s2, by omega, by omega, fun k H3 s3 b3 k0 k1 => ?_⟩
    obtain ⟨n, hn⟩ := Int.eq_ofNat_of_zero_le k0
    have hnl : n ≤ ys.length := by omega
    have hod3 := dpN_src s2 b3 hod nl
    have r3 := keepR s2 b3 r2
    have b03 := b02.trans b3
    have hk : (Ls.map dL).map keptD = Ls.map some := keptDs ok
    have cl : ∀ lo hi, (cutV ys lo hi).length ≤ 7 := fun lo hi => Nat.le_trans (cutV_length ys lo hi) (by omega)
    refine ⟨_, rfl, _, rfl, _, rfl, p, _, rfl, .inl (.inl r3.1), fun u nu => ?_⟩
    have su := same_upd (o := .lst (cutV ys none (some k))) nu
    refine ⟨_, rfl, (by show 1 ≤ sizeLine; decide), fun l nl2 => ?_⟩
    have sl := same_upd (o := .lst [od]) nl2
    refine ⟨u, l, _, _, rfl, rfl, sl _ _ upd_same, upd_same, Nat.le_of_lt (small1000 (by have := cl none (some k); show _ + 1 ≤ 1000; omega)), fun c nc => ?_⟩
    have sc := same_upd (o := .lst (cutV ys none (some k) ++ [od])) nc
    have s3c := (su.trans sl).trans sc
    refine ⟨_, rfl, _, rfl, _, rfl, p, _, rfl, .inl (.inl (s3c _ _ r3.1)), fun u2 nu2 => ?_⟩
    have su2 := same_upd (o := .lst (cutV ys (some k) none)) nu2
    refine ⟨c, u2, _, _, rfl, rfl, su2 _ _ upd_same, upd_same, Nat.le_of_lt (small1000 (by have := cl none (some k); have := cl (some k) none; rw [List.length_append]; show _ + 1 + _ ≤ 1000; omega)), fun w nw => ?_⟩
    have sw := same_upd (o := .lst (put1 ys k od)) nw
    have s3w := (s3c.trans su2).trans sw
    refine ⟨w, _, rfl, .inl ⟨.inl (.inl upd_same), fun tt ntt => ?_⟩⟩
    have stt := same_upd (o := .tup (put1 ys k od)) ntt
    have s3t := s3w.trans stt
    refine ⟨_, rfl, tt, put1 ys k od, _, od, d, n, rfl, .inr (.inl (.inl upd_same)), put1_dp hn (dpAll_same s3t r3.2) (dp_same s3t hod3), by rw [put1_len hn]; omega, put1_at hn hnl, mid_at (by rw [List.length_map]; omega), kd, first_ok hk (by rw [List.length_map]; omega), sh, fun H4 s4 => ⟨true, rfl, iteF ?_⟩⟩
    have s34 := s3t.trans s4
    have r4 : H4 p = some (.lst ys) ∧ DpAll K H4 ys (Ls.map dL) := ⟨s34 _ _ r3.1, dpAll_same s34 r3.2⟩
    have hod4 := dp_same s34 hod3
    have src4 := srcS s3 s34
    have b04 := b03.trans (But.of s34)
    refine ⟨_, rfl, _, .inl ⟨_, .inl (.inl r4.1), rfl⟩, ?_⟩
    by_cases he : ys = []
    · have hE : ys.isEmpty = true := by rw [he]; rfl
      rw [hE]
      exact iteT (q _ src4 b04)
    have hE : ys.isEmpty = false := by
      cases ys with
      | nil => exact absurd rfl he
      | cons x r => rfl
    rw [hE]
    refine iteF ?_
    have hy1 : 1 ≤ ys.length := by
      cases ys with
      | nil => exact absurd rfl he
      | cons x r => exact Nat.succ_le_succ (Nat.zero_le _)
    refine ⟨_, rfl, _, rfl, _, _, rfl, .inl (.inl (.inl r4.1)), _, _, rfl, src4, by omega, by omega, fun m H5 s5 b5 m0 m1 => ⟨_, _, rfl, rfl, ?_⟩⟩
    obtain ⟨m', hm⟩ := Int.eq_ofNat_of_zero_le m0
    have hN : (1 : Int) + m = ((m' + 1 : Nat) : Int) := by omega
    have hNl : m' + 1 ≤ ys.length := by omega
    have r5 := keepR src4 b5 r4
    have hod5 := dpN_src src4 b5 hod4 nl
    have b05 := b04.trans b5
    refine ⟨_, rfl, _, rfl, _, rfl, _, _, rfl, s5, by omega, by omega, fun x H6 s6 b6 x0 x1 => ?_⟩
    obtain ⟨r', hr⟩ := Int.eq_ofNat_of_zero_le x0
    have r6 := keepR s5 b6 r5
    have hod6 := dpN_src s5 b6 hod5 nl
    have b06 := b05.trans b6
    obtain ⟨a1, e1, g1⟩ := row_at r6.2 (k := r') (by omega)
    refine ⟨p, _, _, _, rfl, rfl, .inl (.inl r6.1), at_of' (j := r') hr e1, ?_⟩
    refine ⟨_, rfl, _, rfl, _, rfl, p, _, rfl, .inl (.inl r6.1), fun u3 nu3 => ?_⟩
    have su3 := same_upd (o := .lst (cutV ys none (some (1 + m)))) nu3
    refine ⟨_, rfl, (by show 1 ≤ sizeLine; decide), fun l3 nl3 => ?_⟩
    have sl3 := same_upd (o := .lst [V.ref a1]) nl3
    refine ⟨u3, l3, _, _, rfl, rfl, sl3 _ _ upd_same, upd_same, Nat.le_of_lt (small1000 (by have := cl none (some (1 + m)); show _ + 1 ≤ 1000; omega)), fun c3 nc3 => ?_⟩
    have sc3 := same_upd (o := .lst (cutV ys none (some (1 + m)) ++ [V.ref a1])) nc3
    have s6c := (su3.trans sl3).trans sc3
    refine ⟨_, rfl, _, rfl, _, rfl, p, _, rfl, .inl (.inl (s6c _ _ r6.1)), fun u4 nu4 => ?_⟩
    have su4 := same_upd (o := .lst (cutV ys (some (1 + m)) none)) nu4
    refine ⟨c3, u4, _, _, rfl, rfl, su4 _ _ upd_same, upd_same, Nat.le_of_lt (small1000 (by have := cl none (some (1 + m)); have := cl (some (1 + m)) none; rw [List.length_append]; show _ + 1 + _ ≤ 1000; omega)), fun w2 nw2 => ?_⟩
    have sw2 := same_upd (o := .lst (put1 ys (1 + m) (.ref a1))) nw2
    have wa : w2 ≠ a := ((srcS s6 (s6c.trans su4)).ne nw2).symm
    have s6w := (s6c.trans su4).trans sw2
    have ew : upd (upd (upd (upd (upd H6 u3 (.lst (cutV ys none (some (1 + m))))) l3 (.lst [V.ref a1])) c3 (.lst (cutV ys none (some (1 + m)) ++ [V.ref a1]))) u4 (.lst (cutV ys (some (1 + m)) none))) w2 (.lst (put1 ys (1 + m) (.ref a1))) w2 = some (.lst (put1 ys (1 + m) (.ref a1))) := upd_same
    have hT : DpAll K _ (put1 ys (1 + m) (.ref a1)) (((Ls.map dL).take (m' + 1) ++ [dL (Ls.getD r' [])]) ++ (Ls.map dL).drop (m' + 1)) := put1_dp hN (dpAll_same s6w r6.2) (dpL (same_seqT s6w g1))
    rw [map_mid] at hT
    have tl := put1_len (ys := ys) (o := V.ref a1) hN
    have s7 := srcS s6 s6w
    have b07 := b06.trans (But.of s6w)
    have hod7 := dp_same s6w hod6
    have okT : ∀ M ∈ (Ls.take (m' + 1) ++ [Ls.getD r' []]) ++ Ls.drop (m' + 1), okL M := fun M hM => by
      rcases List.mem_append.mp hM with h | h
      · rcases List.mem_append.mp h with h | h
        · exact ok M (List.mem_of_mem_take h)
        · rw [List.mem_singleton.mp h]; exact ok _ (mem_getD (by omega))
      · exact ok M (List.mem_of_mem_drop h)
    have gl : ∀ j, j < m' + 1 → ((Ls.take (m' + 1) ++ [Ls.getD r' []]) ++ Ls.drop (m' + 1)).getD j [] = Ls.getD j [] := fun j hj => getD_of (mid_left (by omega) hj)
    have gm : ((Ls.take (m' + 1) ++ [Ls.getD r' []]) ++ Ls.drop (m' + 1)).getD (m' + 1) [] = Ls.getD r' [] := by
      rw [List.getD_eq_getElem?_getD, mid_at (by omega)]
      rfl
    have lT : ((Ls.take (m' + 1) ++ [Ls.getD r' []]) ++ Ls.drop (m' + 1)).length = Ls.length + 1 := by
      rw [List.length_append, List.length_append, List.length_take, List.length_drop]
      show min (m' + 1) Ls.length + 1 + (Ls.length - (m' + 1)) = _
      omega
    generalize (Ls.take (m' + 1) ++ [Ls.getD r' []]) ++ Ls.drop (m' + 1) = Lt at hT okT gl gm lT
    generalize upd (upd (upd (upd (upd H6 u3 (.lst (cutV ys none (some (1 + m))))) l3 (.lst [V.ref a1])) c3 (.lst (cutV ys none (some (1 + m)) ++ [V.ref a1]))) u4 (.lst (cutV ys (some (1 + m)) none))) w2 (.lst (put1 ys (1 + m) (.ref a1))) = H7 at ew hT s7 b07 hod7 ⊢
    generalize put1 ys (1 + m) (V.ref a1) = ts at ew hT tl
    refine ⟨_, rfl, w2, _, rfl, .inl ⟨.inl (.inl ew), fun t3 nt3 => ?_⟩⟩
    have st3 := same_upd (o := .tup ts) nt3
    have hkT := keptDs okT
    refine ⟨_, rfl, t3, ts, _, Lt, m' + 1, (by show [V.ref t3, V.int (1 + m)] = _; rw [hN]), .inr (.inl (.inl upd_same)), dpAll_same st3 hT, hkT, by omega, by omega, by omega, ?_, fun j j1 j2 => ?_, fun H8 s8 => ⟨true, rfl, iteF ?_⟩⟩
    · rw [Nat.add_sub_cancel, gl m' (by omega), gm]
      by_cases e : r' = m'
      · rw [e]; exact lex_irr _
      · exact NtL.lex_asym _ _ (asc_lt asc (i := r') (j := m') (by omega) (by omega))
    · rw [gl j j2, gl (j - 1) (by omega)]
      exact asc j j1 (by omega)
    have s78 := st3.trans s8
    have ew8 := s78 _ _ ew
    have hT8 := dpAll_same s78 hT
    have src8 := srcS s7 s78
    have hod8 := dp_same s78 hod7
    have b08 := b07.trans (But.of s78)
    refine ⟨_, rfl, _, rfl, _, _, rfl, .inl (.inl (.inl ew8)), _, _, rfl, rfl, _, _, rfl, src8, by omega, by omega, fun k2 H9 s9 b9 z0 z1 => ?_⟩
    have ew9 := b9 _ _ wa ew8
    have hT9 : DpAll K H9 ts (Lt.map dL) := by
      obtain ⟨xs, ea⟩ := src_lst src8
      exact dpAll_butN ea b9 hT8 (nl_Ls Lt)
    have hod9 := dpN_src src8 b9 hod8 nl
    have b09 := b08.trans b9
    refine ⟨_, rfl, _, _, rfl, .inl (.inl (.inl ew9)), (by show 3 ≤ sizeLine; decide), fun Z nZ => ?_⟩
    have sZ := same_upd (o := .lst [V.int 0, .int k2, .int ts.length]) nZ
    have eZ : upd H9 Z (.lst [V.int 0, .int k2, .int ts.length]) Z = some (.lst [V.int 0, .int k2, .int ts.length]) := upd_same
    have ew10 := sZ _ _ ew9
    have hT10 := dpAll_same sZ hT9
    have hod10 := dp_same sZ hod9
    have src10 := srcS s9 sZ
    have b10 := b09.trans (But.of sZ)
    have clT : ∀ lo hi, (cutV ts lo hi).length ≤ 8 := fun lo hi => Nat.le_trans (cutV_length ts lo hi) (by omega)
    generalize upd H9 Z (.lst [V.int 0, .int k2, .int ts.length]) = H10 at eZ ew10 hT10 hod10 src10 b10
    refine ⟨Z, rfl, ⟨_, .inl (.inl eZ)⟩, for_list (xs := [V.int 0, .int k2, .int ts.length]) (fun i σ' H' => ∃ y6 : Option V, σ' = [some (.ref a), some (.ref p), some od, some (.int (1 + m)), some (.ref a1), some (.ref w2), y6] ∧ Same H10 H') ⟨none, rfl, Same.refl _⟩ (fun i σ' H' _ ⟨_, _, s⟩ => .inl (.inl (s _ _ eZ))) ?_ ?_⟩
    · rintro i v σ' H11 hv ⟨y6, rfl, s11⟩
      obtain ⟨z, n2, rfl, hz, hn2⟩ : ∃ (z : Int) (n2 : Nat), v = V.int z ∧ z = (n2 : Int) ∧ n2 ≤ ts.length := by
        have hm2 := List.mem_of_getElem? hv
        simp only [List.mem_cons, List.not_mem_nil, or_false] at hm2
        rcases hm2 with rfl | rfl | rfl
        · exact ⟨0, 0, rfl, rfl, Nat.zero_le _⟩
        · obtain ⟨k', hk'⟩ := Int.eq_ofNat_of_zero_le z0
          exact ⟨k2, k', rfl, hk', by omega⟩
        · exact ⟨_, ts.length, rfl, rfl, Nat.le_refl _⟩
      have ew11 := s11 _ _ ew10
      refine ⟨_, rfl, _, rfl, _, rfl, w2, _, rfl, .inl (.inl ew11), fun u nu => ?_⟩
      have su := same_upd (o := .lst (cutV ts none (some z))) nu
      refine ⟨_, rfl, (by show 1 ≤ sizeLine; decide), fun l nl2 => ?_⟩
      have sl := same_upd (o := .lst [od]) nl2
      refine ⟨u, l, _, _, rfl, rfl, sl _ _ upd_same, upd_same, Nat.le_of_lt (small1000 (by have := clT none (some z); show _ + 1 ≤ 1000; omega)), fun c nc => ?_⟩
      have sc := same_upd (o := .lst (cutV ts none (some z) ++ [od])) nc
      have s3c := (su.trans sl).trans sc
      refine ⟨_, rfl, _, rfl, _, rfl, w2, _, rfl, .inl (.inl (s3c _ _ ew11)), fun u2 nu2 => ?_⟩
      have su2 := same_upd (o := .lst (cutV ts (some z) none)) nu2
      refine ⟨c, u2, _, _, rfl, rfl, su2 _ _ upd_same, upd_same, Nat.le_of_lt (small1000 (by have := clT none (some z); have := clT (some z) none; rw [List.length_append]; show _ + 1 + _ ≤ 1000; omega)), fun w nw => ?_⟩
      have sw := same_upd (o := .lst (put1 ts z od)) nw
      have s3w := (s3c.trans su2).trans sw
      have sall := s11.trans s3w
      refine ⟨_, rfl, w, put1 ts z od, _, od, d, n2, rfl, .inl (.inl (.inl upd_same)), put1_dp hz (dpAll_same sall hT10) (dp_same sall hod10), by rw [put1_len hz]; omega, put1_at hz hn2, mid_at (by rw [List.length_map]; omega), kd, first_ok hkT (by rw [List.length_map]; omega), sh, fun H12 s12 => ⟨true, rfl, iteF ?_⟩⟩
      exact ⟨_, rfl, sall.trans s12⟩
    rintro σ' H11 ⟨y6, rfl, s11⟩
    have ew11 := s11 _ _ ew10
    refine ⟨_, rfl, _, rfl, (by show 1 ≤ sizeLine; decide), fun t1 nt1 => ⟨(by show 2 ≤ sizeLine; decide), fun l nl2 => ?_⟩⟩
    have st1 := same_upd (o := .tup [V.str "a"]) nt1
    have sl := same_upd (o := .lst [od, V.ref t1]) nl2
    refine ⟨w2, l, _, _, rfl, rfl, sl _ _ (st1 _ _ ew11), upd_same, Nat.le_of_lt (small1000 (by show ts.length + 2 ≤ 1000; omega)), fun w nw => ?_⟩
    have sw := same_upd (o := .lst (ts ++ [od, V.ref t1])) nw
    have sall := ((s11.trans st1).trans sl).trans sw
    have hl8 : ts.length = (Lt.map dL).length := dpAll_len hT10
    refine ⟨_, rfl, w, ts ++ [od, V.ref t1], Lt.map dL ++ [d, .tuple [.str "a"]], od, d, ts.length, rfl, .inl (.inl (.inl upd_same)), dpAll_app (dpAll_same sall hT10) (.cons (dp_same sall hod10) (.cons (.tup (.inl (.inl (sw _ _ (sl _ _ upd_same)))) (.cons (.str _) .nil)) .nil)), ?_, ?_, ?_, kd, fun j e hj he ke => ?_, sh, fun H12 s12 => q _ (srcS src10 (sall.trans s12)) (b10.trans (But.of (sall.trans s12)))⟩
    · rw [List.length_append]; show ts.length + 2 ≤ 100; omega
    · rw [List.getElem?_append_right (Nat.le_refl _), Nat.sub_self]; rfl
    · rw [List.getElem?_append_right (by omega), hl8, Nat.sub_self]; rfl
    · rw [List.getElem?_append_left (by omega)] at he
      exact no_kept hkT he ke
theorem ok_law (T : Tab K mg) : GnOk P w K mg base CX0 9 T.f_law T.d_law ["_law_script"] (sp_law K) := by
  refine gn_ok T.F_law sc_law (fun vs H Q E h => ?_) (fun cdv A outer s H vs Q E hr hg h => ?_)
  · obtain ⟨a, ns, rfl, _⟩ := h
    rfl
  · obtain ⟨a, ns, rfl, hS, hlen, q⟩ := h
    refine ⟨_, (pss_cons (ps_set (i := 1) sc_law.nd rfl (.inl rfl) (pe_lst pa_nil))
      (pss_cons (ps_for PassesOwn.never rfl (pi_range1 (by rfl) T.m_range (pa_cons (pe_callB (call_max2 rfl) (by rfl) T.m_max (by decide +kernel) (pa_cons pe_int (pa_cons (pe_callB (call_min2 rfl) (by rfl) T.m_min (by decide +kernel) (pa_cons pe_int (pa_cons (pe_callB call_len_seq (by rfl) T.m_len PySem.boot_len (pa_cons (pv 0) pa_nil)) pa_nil))) pa_nil))) pa_nil)) (pg_name (i := 2) sc_law.nd rfl (.inl rfl))
      (pss_cons (ps_set (i := 3) sc_law.nd rfl (.inl rfl) (pe_call (ok_source T) (hr.mono (by decide)) (by rfl) T.g_source T.F_source.kp T.b_source .nil pass0 (pa_cons (pv 0) (pa_cons (pv 2) pa_nil))))
        (pss_cons (ps_set (i := 4) sc_law.nd rfl (.inl rfl) (pe_call (ok_row T) (hr.mono (by decide)) (by rfl) T.g_row T.F_row.kp T.b_row .nil pass0 (pa_cons (pv 3) pa_nil)))
        (pss_cons (ps_if (PW.pt (pw_or (pt_not (pt_val (pe_call (ok_rounds T) (hr.mono (by decide)) (by rfl) T.g_rounds T.F_rounds.kp T.b_rounds .nil pass0 (pa_cons (pv 4) pa_nil)))) (pw_or1 (pt_not (pt_val (pe_callG (ok_refusals T) (hr.mono (by decide)) hg (by rfl) T.g_refusals T.F_refusals.kp T.b_refusals pass0 (pa_cons (pv 3) (pa_cons (pv 4) pa_nil))))))))
        (pss_one (ps_ret pe_bl))
        pss_nil)
        (pss_one (ps_expr (pe_bm PySem.F.plainAttrs_list PySem.F.slot_list_append PySem.F.type_list_append mt_append (pv 1) (pa_cons (pv 4) pa_nil))))))))
      (pss_cons (ps_for PassesOwn.never rfl (pi_list (pv 1)) (pg_name (i := 4) sc_law.nd rfl (.inl rfl))
      (pss_one (ps_if (pt_not (pt_val (pe_call (ok_asked T) (hr.mono (by decide)) (by rfl) T.g_asked T.F_asked.kp T.b_asked .nil pass0 (pa_cons (pe_callTy call_tuple_of (by rfl) T.m_tuple (by decide +kernel) (pa_cons (pv 4) pa_nil)) (pa_cons (pe_call (ok_dues T) (hr.mono (by decide)) (by rfl) T.g_dues T.F_dues.kp T.b_dues .nil pass0 (pa_cons (pv 4) pa_nil)) pa_nil)))))
        (pss_one (ps_ret pe_bl))
        pss_nil)))
      (pss_one (ps_ret pe_bl))))), ?_⟩
    refine ⟨Nat.zero_le _, fun D nD => ?_⟩
    have s0 : Same H (upd H D (.lst [])) := same_upd nD
    have hn : ((ns.map V.int).length : Int) ≤ 63 := by rw [List.length_map]; omega
    refine ⟨_, rfl, _, _, rfl, .inl (s0.seq hS), _, _, rfl, _, _, rfl, _, rfl, ?_, ?_, for_range (lo := 0) (fun j σ' H' => ∃ (rs : List Addr) (y2 y3 y4 : Option V), σ' = [some (.ref a), some (.ref D), y2, y3, y4] ∧ Same H H' ∧ H' D = some (.lst (rs.map V.ref)) ∧ rs.length = j ∧ ∀ r ∈ rs, r ≠ D ∧ Row K H' r) ⟨[], none, none, none, rfl, s0, upd_same, rfl, (fun _ h => nomatch h)⟩ ?_ ?_⟩
    · split <;> split <;> omega
    · split <;> split <;> omega
    · rintro j σ' Hx hj ⟨rs, y2, y3, y4, rfl, smh, eD, lw, good⟩
      have hj2 : j < 64 := by
        split at hj <;> split at hj <;> omega
      refine ⟨_, rfl, _, rfl, a, ns, j, ?_, smh.seq hS, fun p0 H1 sm1 n0 src1 => ?_⟩
      · show [V.ref a, V.int (0 + (j : Int))] = [V.ref a, V.int (j : Int)]
        rw [Int.zero_add]
      have nDp : D ≠ p0 := ne_of_none eD n0
      refine ⟨_, rfl, p0, rfl, src1, fun p ys Ls H2 s2 b2 np ep hy ok asc hl => ?_⟩
      have np0 : p ≠ p0 := (src1.ne np).symm
      refine ⟨_, rfl, p, ys, Ls, rfl, ep, hy, ok, asc, hl, fun H3 s3 => ⟨true, rfl, iteF ?_⟩⟩
      refine ⟨_, rfl, _, rfl, p0, p, ys, Ls, rfl, srcS s2 s3, np0, s3 _ _ ep, dpAll_same s3 hy, ok, asc, hl, fun H4 s4 b4 => ⟨true, rfl, iteF ?_⟩⟩
      have x4 : Same Hx H4 := ((b2.trans (But.of s3)).trans b4).same n0 sm1
      have eD4 := x4 _ _ eD
      have row4 : Row K H4 p := ⟨ys, Ls, b4 _ _ np0 (s3 _ _ ep), by
        obtain ⟨xs, ea⟩ := src_lst (srcS s2 s3)
        exact dpAll_butN ea b4 (dpAll_same s3 hy) (nl_Ls Ls), ok, asc, hl⟩
      have nDH : H D = none := nD
      have pD : p ≠ D := fun z => by
        rw [z] at np
        have := sm1 _ _ eD
        rw [np] at this
        cases this
      refine ⟨_, rfl, .inl ⟨rfl, _, .inl (.inl eD4)⟩, _, rfl, D, _, _, rfl, rfl, eD4, ?_, rs ++ [p], _, _, _, rfl, same_put (smh.trans x4) nDH _, ?_, ?_, fun r hr => ?_⟩
      · rw [List.length_map]; exact small1000 (by omega)
      · rw [upd_same, List.map_append]; rfl
      · rw [List.length_append, lw]; rfl
      · rcases List.mem_append.mp hr with h | h
        · exact ⟨(good r h).1, ((good r h).2.same x4).put eD4 (good r h).1⟩
        · rw [List.mem_singleton.mp h]
          exact ⟨pD, row4.put eD4 pD⟩
    · rintro σ' Hx ⟨rs, y2, y3, y4, rfl, smh, eD, lw, good⟩
      refine ⟨_, rfl, D, rfl, ⟨_, .inl (.inl eD)⟩, for_list (xs := rs.map V.ref) (fun i σ' H' => ∃ z4 : Option V, σ' = [some (.ref a), some (.ref D), y2, y3, z4] ∧ Same Hx H') ⟨y4, rfl, Same.refl _⟩ (fun i σ' H' _ ⟨_, _, s⟩ => .inl (.inl (s _ _ eD))) ?_ ?_⟩
      · rintro i v σ' H1 hv ⟨z4, rfl, s1⟩
        obtain ⟨r, rfl, hr⟩ := get_mapR hv
        obtain ⟨ys, Ls, e, hy, ok, asc, hl⟩ := (good r hr).2.same s1
        refine ⟨_, rfl, r, ys, rfl, .inl ⟨.inl (.inl e), fun t nt => ?_⟩⟩
        have st := same_upd (o := .tup ys) nt
        refine ⟨_, rfl, r, ys, Ls, rfl, st _ _ e, dpAll_same st hy, ok, by omega, fun qd zs H2 s2 nq eq hz => ?_⟩
        have s12 := st.trans s2
        refine ⟨t, qd, ys, zs, Ls.map dL, Ls, rfl, .inr (.inl (.inl (s2 _ _ upd_same))), dpAll_same s12 hy, keptDs ok, by omega, asc, eq, hz, fun H3 s3 => ⟨true, rfl, iteF ?_⟩⟩
        exact ⟨_, rfl, (s1.trans s12).trans s3⟩
      · rintro σ' H1 ⟨z4, rfl, s1⟩
        exact q _
end
theorem all_mk {l : PySem.W.OpenLaw} {w : World} {K : PySem.W.Frag} {h : Heap} {mg : Str → Option Value} {fa f0 f1 f2 f3 f4 f5 f6 f7 f8 f9 f10 f11 f12 f13 f14 f15 f16 f17 f18 f19 f20 f21 f22 f23 f24 f25 f26 f27 f28 C_AfterError C_BadForm C_NotThere C_BadLabel C_BadOrder C_NoRoom : Addr} (X : K.In h) (G : h.Ns mainGlobals mg) (hfa : mg "law" = some (.ref fa))
    {od0 an0 od1 an1 od2 an2 od3 an3 od4 an4 od5 an5 od6 an6 od7 an7 od8 an8 od9 an9 od10 an10 od11 an11 od12 an12 od13 an13 od14 an14 od15 an15 od16 an16 od17 an17 od18 an18 od19 an19 od20 an20 od21 an21 od22 an22 od23 an23 od24 an24 od25 an25 od26 an26 od27 an27 od28 an28 : Option Addr} {sl0 sl1 sl2 sl3 sl4 sl5 sl6 sl7 sl8 sl9 sl10 sl11 sl12 sl13 sl14 sl15 sl16 sl17 sl18 sl19 sl20 sl21 sl22 sl23 sl24 sl25 sl26 sl27 sl28 : Array (Option Value)} {oc0 kV0 dc0 pm0 cd0 ct0 oc1 kV1 dc1 pm1 cd1 ct1 oc2 kV2 dc2 pm2 cd2 ct2 oc3 kV3 dc3 pm3 cd3 ct3 oc4 kV4 dc4 pm4 cd4 ct4 oc5 kV5 dc5 pm5 cd5 ct5 oc6 kV6 dc6 pm6 cd6 ct6 oc7 kV7 dc7 pm7 cd7 ct7 oc8 kV8 dc8 pm8 cd8 ct8 oc9 kV9 dc9 pm9 cd9 ct9 oc10 kV10 dc10 pm10 cd10 ct10 oc11 kV11 dc11 pm11 cd11 ct11 oc12 kV12 dc12 pm12 cd12 ct12 oc13 kV13 dc13 pm13 cd13 ct13 oc14 kV14 dc14 pm14 cd14 ct14 oc15 kV15 dc15 pm15 cd15 ct15 oc16 kV16 dc16 pm16 cd16 ct16 oc17 kV17 dc17 pm17 cd17 ct17 oc18 kV18 dc18 pm18 cd18 ct18 oc19 kV19 dc19 pm19 cd19 ct19 oc20 kV20 dc20 pm20 cd20 ct20 oc21 kV21 dc21 pm21 cd21 ct21 oc22 kV22 dc22 pm22 cd22 ct22 oc23 kV23 dc23 pm23 cd23 ct23 oc24 kV24 dc24 pm24 cd24 ct24 oc25 kV25 dc25 pm25 cd25 ct25 oc26 kV26 dc26 pm26 cd26 ct26 oc27 kV27 dc27 pm27 cd27 ct27 oc28 kV28 dc28 pm28 cd28 ct28 : Value}
    (a0 : PySem.W.findIn K (.ref C_BadLabel) "__init__" = some (some (.ref f0))) (l0 : K.lookup f0 = some ⟨oc0, od0, .func (PySem.W.fnOf "__init__" "BadLabel.__init__" (defArgs s_BadLabel_init) (defBody s_BadLabel_init) (defScope s_BadLabel_init) .none kV0 dc0 pm0 an0 cd0 ct0), sl0⟩) (c0 : PySem.W.codeIn K cd0 "BadLabel.__init__" = true) (k0 : PySem.W.keepIn K (.ref f0) = true)
    (a1 : PySem.W.findIn K (.ref C_BadOrder) "__init__" = some (some (.ref f1))) (l1 : K.lookup f1 = some ⟨oc1, od1, .func (PySem.W.fnOf "__init__" "BadOrder.__init__" (defArgs s_BadOrder_init) (defBody s_BadOrder_init) (defScope s_BadOrder_init) .none kV1 dc1 pm1 an1 cd1 ct1), sl1⟩) (c1 : PySem.W.codeIn K cd1 "BadOrder.__init__" = true) (k1 : PySem.W.keepIn K (.ref f1) = true)
    (a2 : PySem.W.nsIn K mainGlobals "is_integer" = some (some (.ref f2))) (l2 : K.lookup f2 = some ⟨oc2, od2, .func (PySem.W.fnOf "is_integer" "is_integer" (defArgs s_is_integer) (defBody s_is_integer) (defScope s_is_integer) .none kV2 dc2 pm2 an2 cd2 ct2), sl2⟩) (c2 : PySem.W.codeIn K cd2 "is_integer" = true) (k2 : PySem.W.keepIn K (.ref f2) = true)
    (a3 : PySem.W.nsIn K mainGlobals "is_within" = some (some (.ref f3))) (l3 : K.lookup f3 = some ⟨oc3, od3, .func (PySem.W.fnOf "is_within" "is_within" (defArgs s_is_within) (defBody s_is_within) (defScope s_is_within) .none kV3 dc3 pm3 an3 cd3 ct3), sl3⟩) (c3 : PySem.W.codeIn K cd3 "is_within" = true) (k3 : PySem.W.keepIn K (.ref f3) = true)
    (a4 : PySem.W.nsIn K mainGlobals "is_tuple" = some (some (.ref f4))) (l4 : K.lookup f4 = some ⟨oc4, od4, .func (PySem.W.fnOf "is_tuple" "is_tuple" (defArgs s_is_tuple) (defBody s_is_tuple) (defScope s_is_tuple) .none kV4 dc4 pm4 an4 cd4 ct4), sl4⟩) (c4 : PySem.W.codeIn K cd4 "is_tuple" = true) (k4 : PySem.W.keepIn K (.ref f4) = true)
    (a5 : PySem.W.nsIn K mainGlobals "is_sized" = some (some (.ref f5))) (l5 : K.lookup f5 = some ⟨oc5, od5, .func (PySem.W.fnOf "is_sized" "is_sized" (defArgs s_is_sized) (defBody s_is_sized) (defScope s_is_sized) .none kV5 dc5 pm5 an5 cd5 ct5), sl5⟩) (c5 : PySem.W.codeIn K cd5 "is_sized" = true) (k5 : PySem.W.keepIn K (.ref f5) = true)
    (a6 : PySem.W.nsIn K mainGlobals "kept_label" = some (some (.ref f6))) (l6 : K.lookup f6 = some ⟨oc6, od6, .func (PySem.W.fnOf "kept_label" "kept_label" (defArgs s_kept_label) (defBody s_kept_label) (defScope s_kept_label) .none kV6 dc6 pm6 an6 cd6 ct6), sl6⟩) (c6 : PySem.W.codeIn K cd6 "kept_label" = true) (k6 : PySem.W.keepIn K (.ref f6) = true)
    (a7 : PySem.W.nsIn K mainGlobals "judged_label" = some (some (.ref f7))) (l7 : K.lookup f7 = some ⟨oc7, od7, .func (PySem.W.fnOf "judged_label" "judged_label" (defArgs s_judged_label) (defBody s_judged_label) (defScope s_judged_label) .none kV7 dc7 pm7 an7 cd7 ct7), sl7⟩) (c7 : PySem.W.codeIn K cd7 "judged_label" = true) (k7 : PySem.W.keepIn K (.ref f7) = true)
    (a8 : PySem.W.nsIn K mainGlobals "between" = some (some (.ref f8))) (l8 : K.lookup f8 = some ⟨oc8, od8, .func (PySem.W.fnOf "between" "between" (defArgs s_between) (defBody s_between) (defScope s_between) .none kV8 dc8 pm8 an8 cd8 ct8), sl8⟩) (c8 : PySem.W.codeIn K cd8 "between" = true) (k8 : PySem.W.keepIn K (.ref f8) = true)
    (a9 : PySem.W.nsIn K mainGlobals "_least_above" = some (some (.ref f9))) (l9 : K.lookup f9 = some ⟨oc9, od9, .func (PySem.W.fnOf "_least_above" "_least_above" (defArgs s_least_above) (defBody s_least_above) (defScope s_least_above) .none kV9 dc9 pm9 an9 cd9 ct9), sl9⟩) (c9 : PySem.W.codeIn K cd9 "_least_above" = true) (k9 : PySem.W.keepIn K (.ref f9) = true)
    (a10 : PySem.W.nsIn K mainGlobals "neighbours" = some (some (.ref f10))) (l10 : K.lookup f10 = some ⟨oc10, od10, .func (PySem.W.fnOf "neighbours" "neighbours" (defArgs s_neighbours) (defBody s_neighbours) (defScope s_neighbours) .none kV10 dc10 pm10 an10 cd10 ct10), sl10⟩) (c10 : PySem.W.codeIn K cd10 "neighbours" = true) (k10 : PySem.W.keepIn K (.ref f10) = true)
    (a11 : PySem.W.nsIn K mainGlobals "_law_source" = some (some (.ref f11))) (l11 : K.lookup f11 = some ⟨oc11, od11, .func (PySem.W.fnOf "_law_source" "_law_source" (defArgs s_source) (defBody s_source) (defScope s_source) .none kV11 dc11 pm11 an11 cd11 ct11), sl11⟩) (c11 : PySem.W.codeIn K cd11 "_law_source" = true) (k11 : PySem.W.keepIn K (.ref f11) = true)
    (a12 : PySem.W.nsIn K mainGlobals "_law_pick" = some (some (.ref f12))) (l12 : K.lookup f12 = some ⟨oc12, od12, .func (PySem.W.fnOf "_law_pick" "_law_pick" (defArgs s_pick) (defBody s_pick) (defScope s_pick) .none kV12 dc12 pm12 an12 cd12 ct12), sl12⟩) (c12 : PySem.W.codeIn K cd12 "_law_pick" = true) (k12 : PySem.W.keepIn K (.ref f12) = true)
    (a13 : PySem.W.nsIn K mainGlobals "_law_is_integer" = some (some (.ref f13))) (l13 : K.lookup f13 = some ⟨oc13, od13, .func (PySem.W.fnOf "_law_is_integer" "_law_is_integer" (defArgs s_law_is_integer) (defBody s_law_is_integer) (defScope s_law_is_integer) .none kV13 dc13 pm13 an13 cd13 ct13), sl13⟩) (c13 : PySem.W.codeIn K cd13 "_law_is_integer" = true) (k13 : PySem.W.keepIn K (.ref f13) = true)
    (a14 : PySem.W.nsIn K mainGlobals "_law_figure" = some (some (.ref f14))) (l14 : K.lookup f14 = some ⟨oc14, od14, .func (PySem.W.fnOf "_law_figure" "_law_figure" (defArgs s_figure) (defBody s_figure) (defScope s_figure) .none kV14 dc14 pm14 an14 cd14 ct14), sl14⟩) (c14 : PySem.W.codeIn K cd14 "_law_figure" = true) (k14 : PySem.W.keepIn K (.ref f14) = true)
    (a15 : PySem.W.nsIn K mainGlobals "_law_label" = some (some (.ref f15))) (l15 : K.lookup f15 = some ⟨oc15, od15, .func (PySem.W.fnOf "_law_label" "_law_label" (defArgs s_label) (defBody s_label) (defScope s_label) .none kV15 dc15 pm15 an15 cd15 ct15), sl15⟩) (c15 : PySem.W.codeIn K cd15 "_law_label" = true) (k15 : PySem.W.keepIn K (.ref f15) = true)
    (a16 : PySem.W.nsIn K mainGlobals "_law_behind" = some (some (.ref f16))) (l16 : K.lookup f16 = some ⟨oc16, od16, .func (PySem.W.fnOf "_law_behind" "_law_behind" (defArgs s_behind) (defBody s_behind) (defScope s_behind) .none kV16 dc16 pm16 an16 cd16 ct16), sl16⟩) (c16 : PySem.W.codeIn K cd16 "_law_behind" = true) (k16 : PySem.W.keepIn K (.ref f16) = true)
    (a17 : PySem.W.nsIn K mainGlobals "_law_row" = some (some (.ref f17))) (l17 : K.lookup f17 = some ⟨oc17, od17, .func (PySem.W.fnOf "_law_row" "_law_row" (defArgs s_row) (defBody s_row) (defScope s_row) .none kV17 dc17 pm17 an17 cd17 ct17), sl17⟩) (c17 : PySem.W.codeIn K cd17 "_law_row" = true) (k17 : PySem.W.keepIn K (.ref f17) = true)
    (a18 : PySem.W.nsIn K mainGlobals "_law_least" = some (some (.ref f18))) (l18 : K.lookup f18 = some ⟨oc18, od18, .func (PySem.W.fnOf "_law_least" "_law_least" (defArgs s_least) (defBody s_least) (defScope s_least) .none kV18 dc18 pm18 an18 cd18 ct18), sl18⟩) (c18 : PySem.W.codeIn K cd18 "_law_least" = true) (k18 : PySem.W.keepIn K (.ref f18) = true)
    (a19 : PySem.W.nsIn K mainGlobals "_law_middle" = some (some (.ref f19))) (l19 : K.lookup f19 = some ⟨oc19, od19, .func (PySem.W.fnOf "_law_middle" "_law_middle" (defArgs s_middle) (defBody s_middle) (defScope s_middle) .none kV19 dc19 pm19 an19 cd19 ct19), sl19⟩) (c19 : PySem.W.codeIn K cd19 "_law_middle" = true) (k19 : PySem.W.keepIn K (.ref f19) = true)
    (a20 : PySem.W.nsIn K mainGlobals "_law_dues" = some (some (.ref f20))) (l20 : K.lookup f20 = some ⟨oc20, od20, .func (PySem.W.fnOf "_law_dues" "_law_dues" (defArgs s_dues) (defBody s_dues) (defScope s_dues) .none kV20 dc20 pm20 an20 cd20 ct20), sl20⟩) (c20 : PySem.W.codeIn K cd20 "_law_dues" = true) (k20 : PySem.W.keepIn K (.ref f20) = true)
    (a21 : PySem.W.nsIn K mainGlobals "_law_same" = some (some (.ref f21))) (l21 : K.lookup f21 = some ⟨oc21, od21, .func (PySem.W.fnOf "_law_same" "_law_same" (defArgs s_same) (defBody s_same) (defScope s_same) .none kV21 dc21 pm21 an21 cd21 ct21), sl21⟩) (c21 : PySem.W.codeIn K cd21 "_law_same" = true) (k21 : PySem.W.keepIn K (.ref f21) = true)
    (a22 : PySem.W.nsIn K mainGlobals "_law_asked" = some (some (.ref f22))) (l22 : K.lookup f22 = some ⟨oc22, od22, .func (PySem.W.fnOf "_law_asked" "_law_asked" (defArgs s_asked) (defBody s_asked) (defScope s_asked) .none kV22 dc22 pm22 an22 cd22 ct22), sl22⟩) (c22 : PySem.W.codeIn K cd22 "_law_asked" = true) (k22 : PySem.W.keepIn K (.ref f22) = true)
    (a23 : PySem.W.nsIn K mainGlobals "_law_rounds" = some (some (.ref f23))) (l23 : K.lookup f23 = some ⟨oc23, od23, .func (PySem.W.fnOf "_law_rounds" "_law_rounds" (defArgs s_rounds) (defBody s_rounds) (defScope s_rounds) .none kV23 dc23 pm23 an23 cd23 ct23), sl23⟩) (c23 : PySem.W.codeIn K cd23 "_law_rounds" = true) (k23 : PySem.W.keepIn K (.ref f23) = true)
    (a24 : PySem.W.nsIn K mainGlobals "_law_odd" = some (some (.ref f24))) (l24 : K.lookup f24 = some ⟨oc24, od24, .func (PySem.W.fnOf "_law_odd" "_law_odd" (defArgs s_odd) (defBody s_odd) (defScope s_odd) .none kV24 dc24 pm24 an24 cd24 ct24), sl24⟩) (c24 : PySem.W.codeIn K cd24 "_law_odd" = true) (k24 : PySem.W.keepIn K (.ref f24) = true)
    (a25 : PySem.W.nsIn K mainGlobals "_law_bad_label" = some (some (.ref f25))) (l25 : K.lookup f25 = some ⟨oc25, od25, .func (PySem.W.fnOf "_law_bad_label" "_law_bad_label" (defArgs s_bad_label) (defBody s_bad_label) (defScope s_bad_label) .none kV25 dc25 pm25 an25 cd25 ct25), sl25⟩) (c25 : PySem.W.codeIn K cd25 "_law_bad_label" = true) (k25 : PySem.W.keepIn K (.ref f25) = true)
    (a26 : PySem.W.nsIn K mainGlobals "_law_bad_order" = some (some (.ref f26))) (l26 : K.lookup f26 = some ⟨oc26, od26, .func (PySem.W.fnOf "_law_bad_order" "_law_bad_order" (defArgs s_bad_order) (defBody s_bad_order) (defScope s_bad_order) .none kV26 dc26 pm26 an26 cd26 ct26), sl26⟩) (c26 : PySem.W.codeIn K cd26 "_law_bad_order" = true) (k26 : PySem.W.keepIn K (.ref f26) = true)
    (a27 : PySem.W.nsIn K mainGlobals "_law_refusals" = some (some (.ref f27))) (l27 : K.lookup f27 = some ⟨oc27, od27, .func (PySem.W.fnOf "_law_refusals" "_law_refusals" (defArgs s_refusals) (defBody s_refusals) (defScope s_refusals) .none kV27 dc27 pm27 an27 cd27 ct27), sl27⟩) (c27 : PySem.W.codeIn K cd27 "_law_refusals" = true) (k27 : PySem.W.keepIn K (.ref f27) = true)
    (a28 : PySem.W.nsIn K mainGlobals "law" = some (some (.ref f28))) (l28 : K.lookup f28 = some ⟨oc28, od28, .func (PySem.W.fnOf "law" "law" (defArgs s_law) (defBody s_law) (defScope s_law) .none kV28 dc28 pm28 an28 cd28 ct28), sl28⟩) (c28 : PySem.W.codeIn K cd28 "law" = true) (k28 : PySem.W.keepIn K (.ref f28) = true)
    {t_MOST_PARTS : Tok} (v_MOST_PARTS : PySem.W.nsIn K mainGlobals "MOST_PARTS" = some (some (.int 3 t_MOST_PARTS)))
    (z_ValueError : PySem.W.nsIn K mainGlobals "ValueError" = some none)
    (z_abs : PySem.W.nsIn K mainGlobals "abs" = some none)
    (z_all : PySem.W.nsIn K mainGlobals "all" = some none)
    (z_bool : PySem.W.nsIn K mainGlobals "bool" = some none)
    (z_int : PySem.W.nsIn K mainGlobals "int" = some none)
    (z_isinstance : PySem.W.nsIn K mainGlobals "isinstance" = some none)
    (z_len : PySem.W.nsIn K mainGlobals "len" = some none)
    (z_list : PySem.W.nsIn K mainGlobals "list" = some none)
    (z_max : PySem.W.nsIn K mainGlobals "max" = some none)
    (z_min : PySem.W.nsIn K mainGlobals "min" = some none)
    (z_range : PySem.W.nsIn K mainGlobals "range" = some none)
    (z_repr : PySem.W.nsIn K mainGlobals "repr" = some none)
    (z_sorted : PySem.W.nsIn K mainGlobals "sorted" = some none)
    (z_sum : PySem.W.nsIn K mainGlobals "sum" = some none)
    (z_tuple : PySem.W.nsIn K mainGlobals "tuple" = some none)
    (z_zip : PySem.W.nsIn K mainGlobals "zip" = some none)
    (h_cg_AfterError : PySem.W.nsIn K mainGlobals "AfterError" = some (some (.ref C_AfterError)))
    (h_cg_BadForm : PySem.W.nsIn K mainGlobals "BadForm" = some (some (.ref C_BadForm)))
    (h_cg_NotThere : PySem.W.nsIn K mainGlobals "NotThere" = some (some (.ref C_NotThere)))
    (h_cg_BadLabel : PySem.W.nsIn K mainGlobals "BadLabel" = some (some (.ref C_BadLabel)))
    (h_cg_BadOrder : PySem.W.nsIn K mainGlobals "BadOrder" = some (some (.ref C_BadOrder)))
    (h_cg_NoRoom : PySem.W.nsIn K mainGlobals "NoRoom" = some (some (.ref C_NoRoom)))
    (h_x_NoRoom : PySem.W.excIn K C_NoRoom [.type "ValueError", .type "Exception", .type "BaseException", .type "object"] "ValueError.__new__" = true)
    (h_k_NoRoom : PySem.W.keepIn K (.ref C_NoRoom) = true)
    (h_t_NoRoom : PySem.W.typeIn K (.ref C_NoRoom) = some (.type "type"))
    (h_hg_NoRoom : PySem.W.findIn K (.ref C_NoRoom) "__getattribute__" = some (some (.builtin "BaseException.__getattribute__")))
    (h_hk_NoRoom : PySem.W.findIn K (.ref C_NoRoom) "__getattr__" = some none)
    (h_hs_NoRoom : PySem.W.subIn K (.ref C_NoRoom) (.type "BaseException") = some true)
    (h_hd_NoRoom : PySem.W.hasDictIn K C_NoRoom = true)
    (h_ha_NoRoom : PySem.W.findIn K (.ref C_NoRoom) "__class__" = some (some (.builtin "object.__class__")))
    (h_hn_NoRoom : PySem.W.specialIn K (.builtin "object.__class__") "__get__" = some (some (.builtin "getset_descriptor.__get__")))
    (h_ht_NoRoom : PySem.W.takesIn K (.builtin "object.__class__") = some true)
    (h_hm_NoRoom : PySem.W.mroIn K C_NoRoom (.type "object") = some true)
    (h_hg_BadLabel : PySem.W.findIn K (.ref C_BadLabel) "__getattribute__" = some (some (.builtin "BaseException.__getattribute__")))
    (h_hk_BadLabel : PySem.W.findIn K (.ref C_BadLabel) "__getattr__" = some none)
    (h_hs_BadLabel : PySem.W.subIn K (.ref C_BadLabel) (.type "BaseException") = some true)
    (h_hd_BadLabel : PySem.W.hasDictIn K C_BadLabel = true)
    (h_ha_BadLabel : PySem.W.findIn K (.ref C_BadLabel) "__class__" = some (some (.builtin "object.__class__")))
    (h_hn_BadLabel : PySem.W.specialIn K (.builtin "object.__class__") "__get__" = some (some (.builtin "getset_descriptor.__get__")))
    (h_ht_BadLabel : PySem.W.takesIn K (.builtin "object.__class__") = some true)
    (h_hm_BadLabel : PySem.W.mroIn K C_BadLabel (.type "object") = some true)
    (h_hg_BadOrder : PySem.W.findIn K (.ref C_BadOrder) "__getattribute__" = some (some (.builtin "BaseException.__getattribute__")))
    (h_hk_BadOrder : PySem.W.findIn K (.ref C_BadOrder) "__getattr__" = some none)
    (h_hs_BadOrder : PySem.W.subIn K (.ref C_BadOrder) (.type "BaseException") = some true)
    (h_hd_BadOrder : PySem.W.hasDictIn K C_BadOrder = true)
    (h_ha_BadOrder : PySem.W.findIn K (.ref C_BadOrder) "__class__" = some (some (.builtin "object.__class__")))
    (h_hn_BadOrder : PySem.W.specialIn K (.builtin "object.__class__") "__get__" = some (some (.builtin "getset_descriptor.__get__")))
    (h_ht_BadOrder : PySem.W.takesIn K (.builtin "object.__class__") = some true)
    (h_hm_BadOrder : PySem.W.mroIn K C_BadOrder (.type "object") = some true)
    (h_n_BadLabel_label : PySem.W.findIn K (.ref C_BadLabel) "label" = some none)
    (h_i_BadLabel : PySem.W.typeIn K (.ref f0) = some (.type "function"))
    (h_n_BadOrder_place : PySem.W.findIn K (.ref C_BadOrder) "place" = some none)
    (h_i_BadOrder : PySem.W.typeIn K (.ref f1) = some (.type "function"))
    (h_q_NoRoom_AfterError : PySem.W.subIn K (.ref C_NoRoom) (.ref C_AfterError) = some true)
    (h_q_NoRoom_BadForm : PySem.W.subIn K (.ref C_NoRoom) (.ref C_BadForm) = some false)
    (h_q_NoRoom_NotThere : PySem.W.subIn K (.ref C_NoRoom) (.ref C_NotThere) = some false)
    (h_q_BadLabel_BadLabel : PySem.W.subIn K (.ref C_BadLabel) (.ref C_BadLabel) = some true)
    (h_q_BadLabel_BadOrder : PySem.W.subIn K (.ref C_BadLabel) (.ref C_BadOrder) = some false)
    (h_q_BadLabel_ValueError : PySem.W.subIn K (.ref C_BadLabel) (.type "ValueError") = some true)
    (h_q_BadOrder_BadOrder : PySem.W.subIn K (.ref C_BadOrder) (.ref C_BadOrder) = some true)
    (h_q_BadOrder_BadLabel : PySem.W.subIn K (.ref C_BadOrder) (.ref C_BadLabel) = some false)
    (h_q_BadOrder_BadForm : PySem.W.subIn K (.ref C_BadOrder) (.ref C_BadForm) = some true)
    (h_q_BadOrder_NotThere : PySem.W.subIn K (.ref C_BadOrder) (.ref C_NotThere) = some false)
    (h_e_NoRoom_NoRoom : PySem.W.subIn K (.ref C_NoRoom) (.ref C_NoRoom) = some true)
    (h_e_BadLabel_BadForm : PySem.W.subIn K (.ref C_BadLabel) (.ref C_BadForm) = some true)
    (h_e_BadOrder_AfterError : PySem.W.subIn K (.ref C_BadOrder) (.ref C_AfterError) = some true)
    {nm_BadLabel qn_BadLabel : Str} {N_BadLabel : Addr} {bs_BadLabel sub_BadLabel : List Value} {sn_BadLabel : List Str} {ab_BadLabel : Bool} {col_BadLabel : Option Bool} {dd_BadLabel : Option Addr} {m0_BadLabel m1_BadLabel m2_BadLabel m3_BadLabel m5_BadLabel : Option Value} {bm_BadLabel : List Value}
    (xl_BadLabel : K.lookup C_BadLabel = some (excClassObj nm_BadLabel qn_BadLabel C_BadLabel N_BadLabel bs_BadLabel bm_BadLabel true sn_BadLabel sub_BadLabel ab_BadLabel col_BadLabel dd_BadLabel m0_BadLabel m1_BadLabel m2_BadLabel m3_BadLabel m5_BadLabel "ValueError.__new__"))
    (rf_BadLabel : PySem.HandSPX.refsVE bm_BadLabel = true)
    (sa_BadLabel : PySem.W.findIn K (.ref C_BadLabel) "__setattr__" = some (some (.builtin "object.__setattr__"))) (eb_BadLabel : PySem.W.subIn K (.ref C_BadLabel) (.type "BaseException") = some true) (ty_BadLabel : PySem.W.typeIn K (.ref C_BadLabel) = some (.type "type")) (kc_BadLabel : PySem.W.keepIn K (.ref C_BadLabel) = true)
    {nm_BadOrder qn_BadOrder : Str} {N_BadOrder : Addr} {bs_BadOrder sub_BadOrder : List Value} {sn_BadOrder : List Str} {ab_BadOrder : Bool} {col_BadOrder : Option Bool} {dd_BadOrder : Option Addr} {m0_BadOrder m1_BadOrder m2_BadOrder m3_BadOrder m5_BadOrder : Option Value} {bm_BadOrder : List Value}
    (xl_BadOrder : K.lookup C_BadOrder = some (excClassObj nm_BadOrder qn_BadOrder C_BadOrder N_BadOrder bs_BadOrder bm_BadOrder true sn_BadOrder sub_BadOrder ab_BadOrder col_BadOrder dd_BadOrder m0_BadOrder m1_BadOrder m2_BadOrder m3_BadOrder m5_BadOrder "ValueError.__new__"))
    (rf_BadOrder : PySem.HandSPX.refsVE bm_BadOrder = true)
    (sa_BadOrder : PySem.W.findIn K (.ref C_BadOrder) "__setattr__" = some (some (.builtin "object.__setattr__"))) (eb_BadOrder : PySem.W.subIn K (.ref C_BadOrder) (.type "BaseException") = some true) (ty_BadOrder : PySem.W.typeIn K (.ref C_BadOrder) = some (.type "type")) (kc_BadOrder : PySem.W.keepIn K (.ref C_BadOrder) = true)
    (ic_AfterError : PySem.W.isClsIn K C_AfterError = true)
    (tc_AfterError : PySem.W.typeIn K (.ref C_AfterError) = some (.type "type"))
    (sc_AfterError : PySem.W.subIn K (.ref C_AfterError) (.type "BaseException") = some true)
    (dc_AfterError : PySem.W.hasDictIn K C_AfterError = true)
    (ic_BadForm : PySem.W.isClsIn K C_BadForm = true)
    (tc_BadForm : PySem.W.typeIn K (.ref C_BadForm) = some (.type "type"))
    (sc_BadForm : PySem.W.subIn K (.ref C_BadForm) (.type "BaseException") = some true)
    (dc_BadForm : PySem.W.hasDictIn K C_BadForm = true)
    (ic_NotThere : PySem.W.isClsIn K C_NotThere = true)
    (tc_NotThere : PySem.W.typeIn K (.ref C_NotThere) = some (.type "type"))
    (sc_NotThere : PySem.W.subIn K (.ref C_NotThere) (.type "BaseException") = some true)
    (dc_NotThere : PySem.W.hasDictIn K C_NotThere = true)
    (ic_BadLabel : PySem.W.isClsIn K C_BadLabel = true)
    (tc_BadLabel : PySem.W.typeIn K (.ref C_BadLabel) = some (.type "type"))
    (sc_BadLabel : PySem.W.subIn K (.ref C_BadLabel) (.type "BaseException") = some true)
    (dc_BadLabel : PySem.W.hasDictIn K C_BadLabel = true)
    (ic_BadOrder : PySem.W.isClsIn K C_BadOrder = true)
    (tc_BadOrder : PySem.W.typeIn K (.ref C_BadOrder) = some (.type "type"))
    (sc_BadOrder : PySem.W.subIn K (.ref C_BadOrder) (.type "BaseException") = some true)
    (dc_BadOrder : PySem.W.hasDictIn K C_BadOrder = true)
    (ic_NoRoom : PySem.W.isClsIn K C_NoRoom = true)
    (tc_NoRoom : PySem.W.typeIn K (.ref C_NoRoom) = some (.type "type"))
    (sc_NoRoom : PySem.W.subIn K (.ref C_NoRoom) (.type "BaseException") = some true)
    (dc_NoRoom : PySem.W.hasDictIn K C_NoRoom = true)
    (ne_NoRoom_BadForm : C_NoRoom ≠ C_BadForm)
    (ne_NoRoom_NotThere : C_NoRoom ≠ C_NotThere)
    (ne_BadLabel_BadOrder : C_BadLabel ≠ C_BadOrder)
    (ne_BadOrder_BadLabel : C_BadOrder ≠ C_BadLabel)
    (ne_BadOrder_NotThere : C_BadOrder ≠ C_NotThere)
    : ∃ fd : FuncData, (∀ (s : Shared) (v : Value), BindsTo s fd ⟨[v], []⟩ [("_law_script", v)]) ∧ ∀ base : Heap, K.In base → base.Ns mainGlobals mg → GnOk l.prog w K mg base CX0 9 fa fd ["_law_script"] (sp_law K) := by
  have e := hfa.symm.trans (PySem.W.mg_of X G a28)
  cases e
  have F0 := fun_mk (st := s_BadLabel_init) l0 c0 k0
  have b0 := F0.binds (ps := ["self", "label"]) fun _ _ _ _ _ _ us hl => match us, hl with | [_, _], _ => rfl
  have F1 := fun_mk (st := s_BadOrder_init) l1 c1 k1
  have b1 := F1.binds (ps := ["self", "place"]) fun _ _ _ _ _ _ us hl => match us, hl with | [_, _], _ => rfl
  have F2 := fun_mk (st := s_is_integer) l2 c2 k2
  have b2 := F2.binds (ps := ["thing"]) fun _ _ _ _ _ _ us hl => match us, hl with | [_], _ => rfl
  have F3 := fun_mk (st := s_is_within) l3 c3 k3
  have b3 := F3.binds (ps := ["thing", "least", "most"]) fun _ _ _ _ _ _ us hl => match us, hl with | [_, _, _], _ => rfl
  have F4 := fun_mk (st := s_is_tuple) l4 c4 k4
  have b4 := F4.binds (ps := ["thing"]) fun _ _ _ _ _ _ us hl => match us, hl with | [_], _ => rfl
  have F5 := fun_mk (st := s_is_sized) l5 c5 k5
  have b5 := F5.binds (ps := ["thing", "least", "most"]) fun _ _ _ _ _ _ us hl => match us, hl with | [_, _, _], _ => rfl
  have F6 := fun_mk (st := s_kept_label) l6 c6 k6
  have b6 := F6.binds (ps := ["thing"]) fun _ _ _ _ _ _ us hl => match us, hl with | [_], _ => rfl
  have F7 := fun_mk (st := s_judged_label) l7 c7 k7
  have b7 := F7.binds (ps := ["thing"]) fun _ _ _ _ _ _ us hl => match us, hl with | [_], _ => rfl
  have F8 := fun_mk (st := s_between) l8 c8 k8
  have b8 := F8.binds (ps := ["low", "high"]) fun _ _ _ _ _ _ us hl => match us, hl with | [_, _], _ => rfl
  have F9 := fun_mk (st := s_least_above) l9 c9 k9
  have b9 := F9.binds (ps := ["low", "count"]) fun _ _ _ _ _ _ us hl => match us, hl with | [_, _], _ => rfl
  have F10 := fun_mk (st := s_neighbours) l10 c10 k10
  have b10 := F10.binds (ps := ["labels"]) fun _ _ _ _ _ _ us hl => match us, hl with | [_], _ => rfl
  have F11 := fun_mk (st := s_source) l11 c11 k11
  have b11 := F11.binds (ps := ["_law_script", "_law_k"]) fun _ _ _ _ _ _ us hl => match us, hl with | [_, _], _ => rfl
  have F12 := fun_mk (st := s_pick) l12 c12 k12
  have b12 := F12.binds (ps := ["_law_source_here", "_law_many"]) fun _ _ _ _ _ _ us hl => match us, hl with | [_, _], _ => rfl
  have F13 := fun_mk (st := s_law_is_integer) l13 c13 k13
  have b13 := F13.binds (ps := ["_law_actual"]) fun _ _ _ _ _ _ us hl => match us, hl with | [_], _ => rfl
  have F14 := fun_mk (st := s_figure) l14 c14 k14
  have b14 := F14.binds (ps := ["_law_source_here", "_law_least_here"]) fun _ _ _ _ _ _ us hl => match us, hl with | [_, _], _ => rfl
  have F15 := fun_mk (st := s_label) l15 c15 k15
  have b15 := F15.binds (ps := ["_law_source_here"]) fun _ _ _ _ _ _ us hl => match us, hl with | [_], _ => rfl
  have F16 := fun_mk (st := s_behind) l16 c16 k16
  have b16 := F16.binds (ps := ["_law_source_here", "_law_low"]) fun _ _ _ _ _ _ us hl => match us, hl with | [_, _], _ => rfl
  have F17 := fun_mk (st := s_row) l17 c17 k17
  have b17 := F17.binds (ps := ["_law_source_here"]) fun _ _ _ _ _ _ us hl => match us, hl with | [_], _ => rfl
  have F18 := fun_mk (st := s_least) l18 c18 k18
  have b18 := F18.binds (ps := ["_law_low", "_law_size"]) fun _ _ _ _ _ _ us hl => match us, hl with | [_, _], _ => rfl
  have F19 := fun_mk (st := s_middle) l19 c19 k19
  have b19 := F19.binds (ps := ["_law_low", "_law_high"]) fun _ _ _ _ _ _ us hl => match us, hl with | [_, _], _ => rfl
  have F20 := fun_mk (st := s_dues) l20 c20 k20
  have b20 := F20.binds (ps := ["_law_row_here"]) fun _ _ _ _ _ _ us hl => match us, hl with | [_], _ => rfl
  have F21 := fun_mk (st := s_same) l21 c21 k21
  have b21 := F21.binds (ps := ["_law_actual", "_law_dues_here"]) fun _ _ _ _ _ _ us hl => match us, hl with | [_, _], _ => rfl
  have F22 := fun_mk (st := s_asked) l22 c22 k22
  have b22 := F22.binds (ps := ["_law_row_here", "_law_dues_here"]) fun _ _ _ _ _ _ us hl => match us, hl with | [_, _], _ => rfl
  have F23 := fun_mk (st := s_rounds) l23 c23 k23
  have b23 := F23.binds (ps := ["_law_row_here"]) fun _ _ _ _ _ _ us hl => match us, hl with | [_], _ => rfl
  have F24 := fun_mk (st := s_odd) l24 c24 k24
  have b24 := F24.binds (ps := ["_law_source_here", "_law_label_here"]) fun _ _ _ _ _ _ us hl => match us, hl with | [_, _], _ => rfl
  have F25 := fun_mk (st := s_bad_label) l25 c25 k25
  have b25 := F25.binds (ps := ["_law_row_here", "_law_thing"]) fun _ _ _ _ _ _ us hl => match us, hl with | [_, _], _ => rfl
  have F26 := fun_mk (st := s_bad_order) l26 c26 k26
  have b26 := F26.binds (ps := ["_law_row_here", "_law_at"]) fun _ _ _ _ _ _ us hl => match us, hl with | [_, _], _ => rfl
  have F27 := fun_mk (st := s_refusals) l27 c27 k27
  have b27 := F27.binds (ps := ["_law_source_here", "_law_row_here"]) fun _ _ _ _ _ _ us hl => match us, hl with | [_, _], _ => rfl
  have F28 := fun_mk (st := s_law) l28 c28 k28
  have b28 := F28.binds (ps := ["_law_script"]) fun _ _ _ _ _ _ us hl => match us, hl with | [_], _ => rfl
  let T : Tab K mg := ⟨C_AfterError, C_BadForm, C_NotThere, C_BadLabel, C_BadOrder, C_NoRoom, _, _, F0, b0, a0, _, _, F1, b1, a1, _, _, F2, b2, PySem.W.mg_of X G a2, _, _, F3, b3, PySem.W.mg_of X G a3, _, _, F4, b4, PySem.W.mg_of X G a4, _, _, F5, b5, PySem.W.mg_of X G a5, _, _, F6, b6, PySem.W.mg_of X G a6, _, _, F7, b7, PySem.W.mg_of X G a7, _, _, F8, b8, PySem.W.mg_of X G a8, _, _, F9, b9, PySem.W.mg_of X G a9, _, _, F10, b10, PySem.W.mg_of X G a10, _, _, F11, b11, PySem.W.mg_of X G a11, _, _, F12, b12, PySem.W.mg_of X G a12, _, _, F13, b13, PySem.W.mg_of X G a13, _, _, F14, b14, PySem.W.mg_of X G a14, _, _, F15, b15, PySem.W.mg_of X G a15, _, _, F16, b16, PySem.W.mg_of X G a16, _, _, F17, b17, PySem.W.mg_of X G a17, _, _, F18, b18, PySem.W.mg_of X G a18, _, _, F19, b19, PySem.W.mg_of X G a19, _, _, F20, b20, PySem.W.mg_of X G a20, _, _, F21, b21, PySem.W.mg_of X G a21, _, _, F22, b22, PySem.W.mg_of X G a22, _, _, F23, b23, PySem.W.mg_of X G a23, _, _, F24, b24, PySem.W.mg_of X G a24, _, _, F25, b25, PySem.W.mg_of X G a25, _, _, F26, b26, PySem.W.mg_of X G a26, _, _, F27, b27, PySem.W.mg_of X G a27, _, _, F28, b28, PySem.W.mg_of X G a28, PySem.W.mg_of X G h_cg_AfterError, PySem.W.mg_of X G h_cg_BadForm, PySem.W.mg_of X G h_cg_NotThere, PySem.W.mg_of X G h_cg_BadLabel, PySem.W.mg_of X G h_cg_BadOrder, PySem.W.mg_of X G h_cg_NoRoom, h_x_NoRoom, h_k_NoRoom, h_t_NoRoom, h_hg_NoRoom, h_hk_NoRoom, h_hs_NoRoom, h_hd_NoRoom, h_ha_NoRoom, h_hn_NoRoom, h_ht_NoRoom, h_hm_NoRoom, h_hg_BadLabel, h_hk_BadLabel, h_hs_BadLabel, h_hd_BadLabel, h_ha_BadLabel, h_hn_BadLabel, h_ht_BadLabel, h_hm_BadLabel, h_hg_BadOrder, h_hk_BadOrder, h_hs_BadOrder, h_hd_BadOrder, h_ha_BadOrder, h_hn_BadOrder, h_ht_BadOrder, h_hm_BadOrder, ⟨⟨_, _, _, _, _, _, _, _, _, _, _, _, _, _, _, xl_BadLabel, rf_BadLabel⟩, sa_BadLabel, eb_BadLabel, ty_BadLabel, kc_BadLabel⟩, h_n_BadLabel_label, h_i_BadLabel, ⟨⟨_, _, _, _, _, _, _, _, _, _, _, _, _, _, _, xl_BadOrder, rf_BadOrder⟩, sa_BadOrder, eb_BadOrder, ty_BadOrder, kc_BadOrder⟩, h_n_BadOrder_place, h_i_BadOrder, kit_ref ic_AfterError tc_AfterError h_q_NoRoom_AfterError (fun _ => rfl), kit_ref ic_BadForm tc_BadForm h_q_NoRoom_BadForm (fun z => absurd z ne_NoRoom_BadForm), kit_ref ic_NotThere tc_NotThere h_q_NoRoom_NotThere (fun z => absurd z ne_NoRoom_NotThere), kit_ref ic_BadLabel tc_BadLabel h_q_BadLabel_BadLabel (fun _ => rfl), kit_ref ic_BadOrder tc_BadOrder h_q_BadLabel_BadOrder (fun z => absurd z ne_BadLabel_BadOrder), kit_rty h_q_BadLabel_ValueError (by decide +kernel), kit_ref ic_BadOrder tc_BadOrder h_q_BadOrder_BadOrder (fun _ => rfl), kit_ref ic_BadLabel tc_BadLabel h_q_BadOrder_BadLabel (fun z => absurd z ne_BadOrder_BadLabel), kit_ref ic_BadForm tc_BadForm h_q_BadOrder_BadForm (fun _ => rfl), kit_ref ic_NotThere tc_NotThere h_q_BadOrder_NotThere (fun z => absurd z ne_BadOrder_NotThere), PySem.W.exm_ref sc_NoRoom dc_NoRoom tc_NoRoom h_e_NoRoom_NoRoom, PySem.W.exm_ref sc_BadForm dc_BadForm tc_BadForm h_e_BadLabel_BadForm, PySem.W.exm_ref sc_AfterError dc_AfterError tc_AfterError h_e_BadOrder_AfterError, _, PySem.W.mg_of X G v_MOST_PARTS, PySem.W.mg_none_of X G z_ValueError, PySem.W.mg_none_of X G z_abs, PySem.W.mg_none_of X G z_all, PySem.W.mg_none_of X G z_bool, PySem.W.mg_none_of X G z_int, PySem.W.mg_none_of X G z_isinstance, PySem.W.mg_none_of X G z_len, PySem.W.mg_none_of X G z_list, PySem.W.mg_none_of X G z_max, PySem.W.mg_none_of X G z_min, PySem.W.mg_none_of X G z_range, PySem.W.mg_none_of X G z_repr, PySem.W.mg_none_of X G z_sorted, PySem.W.mg_none_of X G z_sum, PySem.W.mg_none_of X G z_tuple, PySem.W.mg_none_of X G z_zip⟩
  exact ⟨PySem.W.fnOf "law" "law" (defArgs s_law) (defBody s_law) (defScope s_law) .none kV28 dc28 pm28 an28 cd28 ct28, fun s v => .of_eq rfl, fun base _ _ => ok_law T⟩
end K03
open PySem PySem.W PyProof.Rows
set_option maxRecDepth 100000 in
set_option maxHeartbeats 0 in
theorem PySem.Challenge.cw_afterleaves_k03_rows_of_labels_holds : PySem.Challenge.rw_afterleaves_k03_rows_of_labels.Holds := by
  w_on; o_law; k_head; (case hw => w_witness2)
  k_fill
  refine K03.walk_ofG (l := PySem.Challenge.rw_afterleaves_k03_rows_of_labels) (n := 63) (k := 9) (x := "_law_script") (CX := fun _ => L2.CX0) (sp := fun w => K03.sp_law _) rfl (by decide) rfl ⟨rfl, by decide, by decide⟩ (fun w h Y => PySem.W.kIn_of Y) ?F (fun _ _ a ns hl _ hS => ⟨a, ns, rfl, hS, hl, fun _ => rfl⟩) (fun _ _ _ _ _ h => h)
  case F =>
    intro w mg fa h KX G hmg
    refine' K03.all_mk KX G hmg ?a0 ?l0 ?c0 ?k0 ?a1 ?l1 ?c1 ?k1 ?a2 ?l2 ?c2 ?k2 ?a3 ?l3 ?c3 ?k3 ?a4 ?l4 ?c4 ?k4 ?a5 ?l5 ?c5 ?k5 ?a6 ?l6 ?c6 ?k6 ?a7 ?l7 ?c7 ?k7 ?a8 ?l8 ?c8 ?k8 ?a9 ?l9 ?c9 ?k9 ?a10 ?l10 ?c10 ?k10 ?a11 ?l11 ?c11 ?k11 ?a12 ?l12 ?c12 ?k12 ?a13 ?l13 ?c13 ?k13 ?a14 ?l14 ?c14 ?k14 ?a15 ?l15 ?c15 ?k15 ?a16 ?l16 ?c16 ?k16 ?a17 ?l17 ?c17 ?k17 ?a18 ?l18 ?c18 ?k18 ?a19 ?l19 ?c19 ?k19 ?a20 ?l20 ?c20 ?k20 ?a21 ?l21 ?c21 ?k21 ?a22 ?l22 ?c22 ?k22 ?a23 ?l23 ?c23 ?k23 ?a24 ?l24 ?c24 ?k24 ?a25 ?l25 ?c25 ?k25 ?a26 ?l26 ?c26 ?k26 ?a27 ?l27 ?c27 ?k27 ?a28 ?l28 ?c28 ?k28 ?v_MOST_PARTS ?z_ValueError ?z_abs ?z_all ?z_bool ?z_int ?z_isinstance ?z_len ?z_list ?z_max ?z_min ?z_range ?z_repr ?z_sorted ?z_sum ?z_tuple ?z_zip ?h_cg_AfterError ?h_cg_BadForm ?h_cg_NotThere ?h_cg_BadLabel ?h_cg_BadOrder ?h_cg_NoRoom ?h_x_NoRoom ?h_k_NoRoom ?h_t_NoRoom ?h_hg_NoRoom ?h_hk_NoRoom ?h_hs_NoRoom ?h_hd_NoRoom ?h_ha_NoRoom ?h_hn_NoRoom ?h_ht_NoRoom ?h_hm_NoRoom ?h_hg_BadLabel ?h_hk_BadLabel ?h_hs_BadLabel ?h_hd_BadLabel ?h_ha_BadLabel ?h_hn_BadLabel ?h_ht_BadLabel ?h_hm_BadLabel ?h_hg_BadOrder ?h_hk_BadOrder ?h_hs_BadOrder ?h_hd_BadOrder ?h_ha_BadOrder ?h_hn_BadOrder ?h_ht_BadOrder ?h_hm_BadOrder ?h_n_BadLabel_label ?h_i_BadLabel ?h_n_BadOrder_place ?h_i_BadOrder ?h_q_NoRoom_AfterError ?h_q_NoRoom_BadForm ?h_q_NoRoom_NotThere ?h_q_BadLabel_BadLabel ?h_q_BadLabel_BadOrder ?h_q_BadLabel_ValueError ?h_q_BadOrder_BadOrder ?h_q_BadOrder_BadLabel ?h_q_BadOrder_BadForm ?h_q_BadOrder_NotThere ?h_e_NoRoom_NoRoom ?h_e_BadLabel_BadForm ?h_e_BadOrder_AfterError ?xl_BadLabel ?rf_BadLabel ?sa_BadLabel ?eb_BadLabel ?ty_BadLabel ?kc_BadLabel ?xl_BadOrder ?rf_BadOrder ?sa_BadOrder ?eb_BadOrder ?ty_BadOrder ?kc_BadOrder ?ic_AfterError ?tc_AfterError ?sc_AfterError ?dc_AfterError ?ic_BadForm ?tc_BadForm ?sc_BadForm ?dc_BadForm ?ic_NotThere ?tc_NotThere ?sc_NotThere ?dc_NotThere ?ic_BadLabel ?tc_BadLabel ?sc_BadLabel ?dc_BadLabel ?ic_BadOrder ?tc_BadOrder ?sc_BadOrder ?dc_BadOrder ?ic_NoRoom ?tc_NoRoom ?sc_NoRoom ?dc_NoRoom ?ne_NoRoom_BadForm ?ne_NoRoom_NotThere ?ne_BadLabel_BadOrder ?ne_BadOrder_BadLabel ?ne_BadOrder_NotThere
    (case h_cg_AfterError => k_is)
    (case h_cg_BadForm => k_is)
    (case h_cg_NotThere => k_is)
    (case h_cg_BadLabel => k_is)
    (case h_cg_BadOrder => k_is)
    (case h_cg_NoRoom => k_is)
    (case a0 => k_is)
    (case l0 => k_is)
    (case c0 => k_is)
    (case k0 => k_is)
    (case a1 => k_is)
    (case l1 => k_is)
    (case c1 => k_is)
    (case k1 => k_is)
    (case a2 => k_is)
    (case l2 => k_is)
    (case c2 => k_is)
    (case k2 => k_is)
    (case a3 => k_is)
    (case l3 => k_is)
    (case c3 => k_is)
    (case k3 => k_is)
    (case a4 => k_is)
    (case l4 => k_is)
    (case c4 => k_is)
    (case k4 => k_is)
    (case a5 => k_is)
    (case l5 => k_is)
    (case c5 => k_is)
    (case k5 => k_is)
    (case a6 => k_is)
    (case l6 => k_is)
    (case c6 => k_is)
    (case k6 => k_is)
    (case a7 => k_is)
    (case l7 => k_is)
    (case c7 => k_is)
    (case k7 => k_is)
    (case a8 => k_is)
    (case l8 => k_is)
    (case c8 => k_is)
    (case k8 => k_is)
    (case a9 => k_is)
    (case l9 => k_is)
    (case c9 => k_is)
    (case k9 => k_is)
    (case a10 => k_is)
    (case l10 => k_is)
    (case c10 => k_is)
    (case k10 => k_is)
    (case a11 => k_is)
    (case l11 => k_is)
    (case c11 => k_is)
    (case k11 => k_is)
    (case a12 => k_is)
    (case l12 => k_is)
    (case c12 => k_is)
    (case k12 => k_is)
    (case a13 => k_is)
    (case l13 => k_is)
    (case c13 => k_is)
    (case k13 => k_is)
    (case a14 => k_is)
    (case l14 => k_is)
    (case c14 => k_is)
    (case k14 => k_is)
    (case a15 => k_is)
    (case l15 => k_is)
    (case c15 => k_is)
    (case k15 => k_is)
    (case a16 => k_is)
    (case l16 => k_is)
    (case c16 => k_is)
    (case k16 => k_is)
    (case a17 => k_is)
    (case l17 => k_is)
    (case c17 => k_is)
    (case k17 => k_is)
    (case a18 => k_is)
    (case l18 => k_is)
    (case c18 => k_is)
    (case k18 => k_is)
    (case a19 => k_is)
    (case l19 => k_is)
    (case c19 => k_is)
    (case k19 => k_is)
    (case a20 => k_is)
    (case l20 => k_is)
    (case c20 => k_is)
    (case k20 => k_is)
    (case a21 => k_is)
    (case l21 => k_is)
    (case c21 => k_is)
    (case k21 => k_is)
    (case a22 => k_is)
    (case l22 => k_is)
    (case c22 => k_is)
    (case k22 => k_is)
    (case a23 => k_is)
    (case l23 => k_is)
    (case c23 => k_is)
    (case k23 => k_is)
    (case a24 => k_is)
    (case l24 => k_is)
    (case c24 => k_is)
    (case k24 => k_is)
    (case a25 => k_is)
    (case l25 => k_is)
    (case c25 => k_is)
    (case k25 => k_is)
    (case a26 => k_is)
    (case l26 => k_is)
    (case c26 => k_is)
    (case k26 => k_is)
    (case a27 => k_is)
    (case l27 => k_is)
    (case c27 => k_is)
    (case k27 => k_is)
    (case a28 => k_is)
    (case l28 => k_is)
    (case c28 => k_is)
    (case k28 => k_is)
    (case v_MOST_PARTS => k_is)
    (case z_ValueError => k_is)
    (case z_abs => k_is)
    (case z_all => k_is)
    (case z_bool => k_is)
    (case z_int => k_is)
    (case z_isinstance => k_is)
    (case z_len => k_is)
    (case z_list => k_is)
    (case z_max => k_is)
    (case z_min => k_is)
    (case z_range => k_is)
    (case z_repr => k_is)
    (case z_sorted => k_is)
    (case z_sum => k_is)
    (case z_tuple => k_is)
    (case z_zip => k_is)
    (case h_x_NoRoom => k_exc)
    (case h_k_NoRoom => k_is)
    (case h_t_NoRoom => k_is)
    (case h_hg_NoRoom => k_is)
    (case h_hk_NoRoom => k_is)
    (case h_hs_NoRoom => k_is)
    (case h_hd_NoRoom => k_is)
    (case h_ha_NoRoom => k_is)
    (case h_hn_NoRoom => k_is)
    (case h_ht_NoRoom => k_is)
    (case h_hm_NoRoom => k_is)
    (case h_hg_BadLabel => k_is)
    (case h_hk_BadLabel => k_is)
    (case h_hs_BadLabel => k_is)
    (case h_hd_BadLabel => k_is)
    (case h_ha_BadLabel => k_is)
    (case h_hn_BadLabel => k_is)
    (case h_ht_BadLabel => k_is)
    (case h_hm_BadLabel => k_is)
    (case h_hg_BadOrder => k_is)
    (case h_hk_BadOrder => k_is)
    (case h_hs_BadOrder => k_is)
    (case h_hd_BadOrder => k_is)
    (case h_ha_BadOrder => k_is)
    (case h_hn_BadOrder => k_is)
    (case h_ht_BadOrder => k_is)
    (case h_hm_BadOrder => k_is)
    (case h_n_BadLabel_label => k_is)
    (case h_i_BadLabel => k_is)
    (case h_n_BadOrder_place => k_is)
    (case h_i_BadOrder => k_is)
    (case h_q_NoRoom_AfterError => k_is)
    (case h_q_NoRoom_BadForm => k_is)
    (case h_q_NoRoom_NotThere => k_is)
    (case h_q_BadLabel_BadLabel => k_is)
    (case h_q_BadLabel_BadOrder => k_is)
    (case h_q_BadLabel_ValueError => k_is)
    (case h_q_BadOrder_BadOrder => k_is)
    (case h_q_BadOrder_BadLabel => k_is)
    (case h_q_BadOrder_BadForm => k_is)
    (case h_q_BadOrder_NotThere => k_is)
    (case h_e_NoRoom_NoRoom => k_is)
    (case h_e_BadLabel_BadForm => k_is)
    (case h_e_BadOrder_AfterError => k_is)
    (case xl_BadLabel => k_is)
    (case rf_BadLabel => first | rfl | decide +kernel | k_is)
    (case sa_BadLabel => k_is)
    (case eb_BadLabel => k_is)
    (case ty_BadLabel => k_is)
    (case kc_BadLabel => k_is)
    (case xl_BadOrder => k_is)
    (case rf_BadOrder => first | rfl | decide +kernel | k_is)
    (case sa_BadOrder => k_is)
    (case eb_BadOrder => k_is)
    (case ty_BadOrder => k_is)
    (case kc_BadOrder => k_is)
    (case ic_AfterError => k_is)
    (case tc_AfterError => k_is)
    (case sc_AfterError => k_is)
    (case dc_AfterError => k_is)
    (case ic_BadForm => k_is)
    (case tc_BadForm => k_is)
    (case sc_BadForm => k_is)
    (case dc_BadForm => k_is)
    (case ic_NotThere => k_is)
    (case tc_NotThere => k_is)
    (case sc_NotThere => k_is)
    (case dc_NotThere => k_is)
    (case ic_BadLabel => k_is)
    (case tc_BadLabel => k_is)
    (case sc_BadLabel => k_is)
    (case dc_BadLabel => k_is)
    (case ic_BadOrder => k_is)
    (case tc_BadOrder => k_is)
    (case sc_BadOrder => k_is)
    (case dc_BadOrder => k_is)
    (case ic_NoRoom => k_is)
    (case tc_NoRoom => k_is)
    (case sc_NoRoom => k_is)
    (case dc_NoRoom => k_is)
    (case ne_NoRoom_BadForm => decide)
    (case ne_NoRoom_NotThere => decide)
    (case ne_BadLabel_BadOrder => decide)
    (case ne_BadOrder_BadLabel => decide)
    (case ne_BadOrder_NotThere => decide)

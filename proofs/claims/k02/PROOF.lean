import PyProof.Rows.All
import Wide.All
import OpenK.AllK
import Wide.FinOn
import HandS.ForMost
import HandS.Codes
import HandS.IsInst
import HandS.Walk
import HandS.TupLe
import HandS.DeepEq
import HandS.TupAny
import HandS.Deep
import HandS.FStr
import HandS.StrMore
import HandS.TryMany
import HandS.NoneIn
import HandS.ForExc
import HandS.ExcInit
import HandS.ExcField
import HandS.ExcIs
import KE.KExcIs
import KE.KRevSl
import PyProof.StrLawsRepr
import HandS.Flow
import HandS.OwnEq
import HandS.Defaults
import HandS.MakeKw
import HandS.MakeKwOnly
import PySem.Challenge.RW_afterleaves_k02_pages_written
set_option Elab.async false
set_option linter.all false
set_option maxRecDepth 100000
set_option maxHeartbeats 4000000
namespace K02
open PySem PySem.Spec PyProof.Rows L2
/-! ### the text -/
def topS (i : Nat) : Stmt := PySem.Challenge.pw_afterleaves_k02_pages_written.main.body.getD i (.Pass ⟨0, 0, 0, 0⟩)
abbrev s_BadLabel_init : Stmt := inClass (topS 4) 0
abbrev N_BadLabel_init : List Str := ["self", "label"]
theorem sc_BadLabel_init : FnScope N_BadLabel_init ["self", "label"] (defScope s_BadLabel_init) := ⟨rfl, rfl, rfl, by decide +kernel, rfl, by decide +kernel, by decide +kernel⟩
abbrev s_BadFormat_init : Stmt := inClass (topS 5) 0
abbrev N_BadFormat_init : List Str := ["self", "word"]
theorem sc_BadFormat_init : FnScope N_BadFormat_init ["self", "word"] (defScope s_BadFormat_init) := ⟨rfl, rfl, rfl, by decide +kernel, rfl, by decide +kernel, by decide +kernel⟩
abbrev s_is_integer : Stmt := topS 8
abbrev N_is_integer : List Str := ["thing"]
theorem sc_is_integer : FnScope N_is_integer ["thing"] (defScope s_is_integer) := ⟨rfl, rfl, rfl, by decide +kernel, rfl, by decide +kernel, by decide +kernel⟩
abbrev s_is_within : Stmt := topS 9
abbrev N_is_within : List Str := ["thing", "least", "most"]
theorem sc_is_within : FnScope N_is_within ["thing", "least", "most"] (defScope s_is_within) := ⟨rfl, rfl, rfl, by decide +kernel, rfl, by decide +kernel, by decide +kernel⟩
abbrev s_is_tuple : Stmt := topS 10
abbrev N_is_tuple : List Str := ["thing"]
theorem sc_is_tuple : FnScope N_is_tuple ["thing"] (defScope s_is_tuple) := ⟨rfl, rfl, rfl, by decide +kernel, rfl, by decide +kernel, by decide +kernel⟩
abbrev s_is_sized : Stmt := topS 11
abbrev N_is_sized : List Str := ["thing", "least", "most"]
theorem sc_is_sized : FnScope N_is_sized ["thing", "least", "most"] (defScope s_is_sized) := ⟨rfl, rfl, rfl, by decide +kernel, rfl, by decide +kernel, by decide +kernel⟩
abbrev s_read_integer : Stmt := topS 12
abbrev N_read_integer : List Str := ["word", "least", "most", "number", "digit"]
theorem sc_read_integer : FnScope N_read_integer ["word", "least", "most"] (defScope s_read_integer) := ⟨rfl, rfl, rfl, by decide +kernel, rfl, by decide +kernel, by decide +kernel⟩
abbrev s_kept_label : Stmt := topS 16
abbrev N_kept_label : List Str := ["thing", "part"]
theorem sc_kept_label : FnScope N_kept_label ["thing"] (defScope s_kept_label) := ⟨rfl, rfl, rfl, by decide +kernel, rfl, by decide +kernel, by decide +kernel⟩
abbrev s_judged_label : Stmt := topS 17
abbrev N_judged_label : List Str := ["thing", "label"]
theorem sc_judged_label : FnScope N_judged_label ["thing"] (defScope s_judged_label) := ⟨rfl, rfl, rfl, by decide +kernel, rfl, by decide +kernel, by decide +kernel⟩
abbrev s_write_label : Stmt := topS 18
abbrev N_write_label : List Str := ["label", "part"]
theorem sc_write_label : FnScope N_write_label ["label"] (defScope s_write_label) := ⟨rfl, rfl, rfl, by decide +kernel, rfl, by decide +kernel, by decide +kernel⟩
abbrev s_read_label : Stmt := topS 19
abbrev N_read_label : List Str := ["word", "part"]
theorem sc_read_label : FnScope N_read_label ["word"] (defScope s_read_label) := ⟨rfl, rfl, rfl, by decide +kernel, rfl, by decide +kernel, by decide +kernel⟩
abbrev s_write_page : Stmt := topS 20
abbrev N_write_page : List Str := ["page", "label", "side"]
theorem sc_write_page : FnScope N_write_page ["page"] (defScope s_write_page) := ⟨rfl, rfl, rfl, by decide +kernel, rfl, by decide +kernel, by decide +kernel⟩
abbrev s_read_page : Stmt := topS 21
abbrev N_read_page : List Str := ["word", "label"]
theorem sc_read_page : FnScope N_read_page ["word"] (defScope s_read_page) := ⟨rfl, rfl, rfl, by decide +kernel, rfl, by decide +kernel, by decide +kernel⟩
abbrev s_Format_init : Stmt := inClass (topS 23) 0
abbrev N_Format_init : List Str := ["self", "width", "height", "near"]
theorem sc_Format_init : FnScope N_Format_init ["self", "width", "height", "near"] (defScope s_Format_init) := ⟨rfl, rfl, rfl, by decide +kernel, rfl, by decide +kernel, by decide +kernel⟩
abbrev s_Format_eq : Stmt := inClass (topS 23) 1
abbrev N_Format_eq : List Str := ["self", "other"]
theorem sc_Format_eq : FnScope N_Format_eq ["self", "other"] (defScope s_Format_eq) := ⟨rfl, rfl, rfl, by decide +kernel, rfl, by decide +kernel, by decide +kernel⟩
abbrev s_source : Stmt := topS 25
abbrev N_source : List Str := ["_law_script", "_law_k", "_law_cell", "_law_number", "_law_great"]
theorem sc_source : FnScope N_source ["_law_script", "_law_k"] (defScope s_source) := ⟨rfl, rfl, rfl, by decide +kernel, rfl, by decide +kernel, by decide +kernel⟩
abbrev s_pick : Stmt := topS 26
abbrev N_pick : List Str := ["_law_source_here", "_law_many", "_law_taken"]
theorem sc_pick : FnScope N_pick ["_law_source_here", "_law_many"] (defScope s_pick) := ⟨rfl, rfl, rfl, by decide +kernel, rfl, by decide +kernel, by decide +kernel⟩
abbrev s_law_is_integer : Stmt := topS 27
abbrev N_law_is_integer : List Str := ["_law_actual"]
theorem sc_law_is_integer : FnScope N_law_is_integer ["_law_actual"] (defScope s_law_is_integer) := ⟨rfl, rfl, rfl, by decide +kernel, rfl, by decide +kernel, by decide +kernel⟩
abbrev s_label_word : Stmt := topS 28
abbrev N_label_word : List Str := ["_law_label_here", "_law_part"]
theorem sc_label_word : FnScope N_label_word ["_law_label_here"] (defScope s_label_word) := ⟨rfl, rfl, rfl, by decide +kernel, rfl, by decide +kernel, by decide +kernel⟩
abbrev s_page_word : Stmt := topS 29
abbrev N_page_word : List Str := ["_law_page"]
theorem sc_page_word : FnScope N_page_word ["_law_page"] (defScope s_page_word) := ⟨rfl, rfl, rfl, by decide +kernel, rfl, by decide +kernel, by decide +kernel⟩
abbrev s_law_read_label : Stmt := topS 30
abbrev N_law_read_label : List Str := ["_law_word", "_law_label_here", "_law_part", "_law_bad", "_law_sign_here"]
theorem sc_law_read_label : FnScope N_law_read_label ["_law_word"] (defScope s_law_read_label) := ⟨rfl, rfl, rfl, by decide +kernel, rfl, by decide +kernel, by decide +kernel⟩
abbrev s_law_read_page : Stmt := topS 31
abbrev N_law_read_page : List Str := ["_law_word", "_law_label_here"]
theorem sc_law_read_page : FnScope N_law_read_page ["_law_word"] (defScope s_law_read_page) := ⟨rfl, rfl, rfl, by decide +kernel, rfl, by decide +kernel, by decide +kernel⟩
abbrev s_signs : Stmt := topS 32
abbrev N_signs : List Str := []
theorem sc_signs : FnScope N_signs [] (defScope s_signs) := ⟨rfl, rfl, rfl, by decide +kernel, rfl, by decide +kernel, by decide +kernel⟩
abbrev s_figure : Stmt := topS 33
abbrev N_figure : List Str := ["_law_source_here", "_law_least", "_law_way"]
theorem sc_figure : FnScope N_figure ["_law_source_here", "_law_least"] (defScope s_figure) := ⟨rfl, rfl, rfl, by decide +kernel, rfl, by decide +kernel, by decide +kernel⟩
abbrev s_label : Stmt := topS 34
abbrev N_label : List Str := ["_law_source_here", "_law_size", "_law_parts", "_law_step"]
theorem sc_label : FnScope N_label ["_law_source_here"] (defScope s_label) := ⟨rfl, rfl, rfl, by decide +kernel, rfl, by decide +kernel, by decide +kernel⟩
abbrev s_sign : Stmt := topS 35
abbrev N_sign : List Str := ["_law_source_here"]
theorem sc_sign : FnScope N_sign ["_law_source_here"] (defScope s_sign) := ⟨rfl, rfl, rfl, by decide +kernel, rfl, by decide +kernel, by decide +kernel⟩
abbrev s_spoilt : Stmt := topS 36
abbrev N_spoilt : List Str := ["_law_source_here", "_law_word", "_law_turn", "_law_at", "_law_way"]
theorem sc_spoilt : FnScope N_spoilt ["_law_source_here", "_law_word"] (defScope s_spoilt) := ⟨rfl, rfl, rfl, by decide +kernel, rfl, by decide +kernel, by decide +kernel⟩
abbrev s_some_word : Stmt := topS 37
abbrev N_some_word : List Str := ["_law_source_here", "_law_word", "_law_step"]
theorem sc_some_word : FnScope N_some_word ["_law_source_here"] (defScope s_some_word) := ⟨rfl, rfl, rfl, by decide +kernel, rfl, by decide +kernel, by decide +kernel⟩
abbrev s_words : Stmt := topS 38
abbrev N_words : List Str := ["_law_source_here", "_law_label_here", "_law_side", "_law_page", "_law_words_here", "_law_turn"]
theorem sc_words : FnScope N_words ["_law_source_here", "_law_label_here", "_law_side"] (defScope s_words) := ⟨rfl, rfl, rfl, by decide +kernel, rfl, by decide +kernel, by decide +kernel⟩
abbrev s_is_label : Stmt := topS 39
abbrev N_is_label : List Str := ["_law_actual", "_law_due", "_law_part"]
theorem sc_is_label : FnScope N_is_label ["_law_actual", "_law_due"] (defScope s_is_label) := ⟨rfl, rfl, rfl, by decide +kernel, rfl, by decide +kernel, by decide +kernel⟩
abbrev s_is_page : Stmt := topS 40
abbrev N_is_page : List Str := ["_law_actual", "_law_due"]
theorem sc_is_page : FnScope N_is_page ["_law_actual", "_law_due"] (defScope s_is_page) := ⟨rfl, rfl, rfl, by decide +kernel, rfl, by decide +kernel, by decide +kernel⟩
abbrev s_odd_label : Stmt := topS 41
abbrev N_odd_label : List Str := ["_law_source_here", "_law_label_here", "_law_way", "_law_at"]
theorem sc_odd_label : FnScope N_odd_label ["_law_source_here", "_law_label_here"] (defScope s_odd_label) := ⟨rfl, rfl, rfl, by decide +kernel, rfl, by decide +kernel, by decide +kernel⟩
abbrev s_refused : Stmt := topS 42
abbrev N_refused : List Str := ["_law_thing", "_law_way", "e", "_law_kinds"]
theorem sc_refused : FnScope N_refused ["_law_thing", "_law_way"] (defScope s_refused) := ⟨rfl, rfl, rfl, by decide +kernel, rfl, by decide +kernel, by decide +kernel⟩
abbrev s_written : Stmt := topS 43
abbrev N_written : List Str := ["_law_label_here", "_law_side", "_law_told", "_law_listed"]
theorem sc_written : FnScope N_written ["_law_label_here", "_law_side"] (defScope s_written) := ⟨rfl, rfl, rfl, by decide +kernel, rfl, by decide +kernel, by decide +kernel⟩
abbrev s_odd_size : Stmt := topS 44
abbrev N_odd_size : List Str := ["_law_source_here", "_law_low", "_law_high", "_law_way"]
theorem sc_odd_size : FnScope N_odd_size ["_law_source_here", "_law_low", "_law_high"] (defScope s_odd_size) := ⟨rfl, rfl, rfl, by decide +kernel, rfl, by decide +kernel, by decide +kernel⟩
abbrev s_odd_near : Stmt := topS 45
abbrev N_odd_near : List Str := ["_law_source_here"]
theorem sc_odd_near : FnScope N_odd_near ["_law_source_here"] (defScope s_odd_near) := ⟨rfl, rfl, rfl, by decide +kernel, rfl, by decide +kernel, by decide +kernel⟩
abbrev s_format_refused : Stmt := topS 46
abbrev N_format_refused : List Str := ["_law_one", "_law_other", "_law_third", "_law_word", "e"]
theorem sc_format_refused : FnScope N_format_refused ["_law_one", "_law_other", "_law_third", "_law_word"] (defScope s_format_refused) := ⟨rfl, rfl, rfl, by decide +kernel, rfl, by decide +kernel, by decide +kernel⟩
abbrev s_formats_asked : Stmt := topS 47
abbrev N_formats_asked : List Str := ["_law_source_here", "_law_one", "_law_other", "_law_third", "_law_form", "_law_far", "_law_high", "_law_mask", "_law_word"]
theorem sc_formats_asked : FnScope N_formats_asked ["_law_source_here"] (defScope s_formats_asked) := ⟨rfl, rfl, rfl, by decide +kernel, rfl, by decide +kernel, by decide +kernel⟩
abbrev s_law : Stmt := topS 48
abbrev N_law : List Str := ["_law_script", "_law_seen", "_law_k", "_law_source_here", "_law_label_here", "_law_side", "_law_word", "_law_odd", "_law_way", "_law_page"]
theorem sc_law : FnScope N_law ["_law_script"] (defScope s_law) := ⟨rfl, rfl, rfl, by decide +kernel, rfl, by decide +kernel, by decide +kernel⟩
structure Tab (K : PySem.W.Frag) (mg : Str → Option Value) where
  C_AfterError : Addr
  C_BadForm : Addr
  C_NotThere : Addr
  C_BadLabel : Addr
  C_BadFormat : Addr
  C_Format : Addr
  f_BadLabel_init : Addr
  d_BadLabel_init : FuncData
  F_BadLabel_init : Fun K "__init__" "BadLabel.__init__" s_BadLabel_init f_BadLabel_init d_BadLabel_init
  b_BadLabel_init : Binds K d_BadLabel_init ["self", "label"] []
  g_BadLabel_init : PySem.W.findIn K (.ref C_BadLabel) "__init__" = some (some (.ref f_BadLabel_init))
  f_BadFormat_init : Addr
  d_BadFormat_init : FuncData
  F_BadFormat_init : Fun K "__init__" "BadFormat.__init__" s_BadFormat_init f_BadFormat_init d_BadFormat_init
  b_BadFormat_init : Binds K d_BadFormat_init ["self", "word"] []
  g_BadFormat_init : PySem.W.findIn K (.ref C_BadFormat) "__init__" = some (some (.ref f_BadFormat_init))
  f_is_integer : Addr
  d_is_integer : FuncData
  F_is_integer : Fun K "is_integer" "is_integer" s_is_integer f_is_integer d_is_integer
  b_is_integer : Binds K d_is_integer ["thing"] []
  g_is_integer : mg "is_integer" = some (.ref f_is_integer)
  f_is_within : Addr
  d_is_within : FuncData
  F_is_within : Fun K "is_within" "is_within" s_is_within f_is_within d_is_within
  b_is_within : Binds K d_is_within ["thing", "least", "most"] []
  g_is_within : mg "is_within" = some (.ref f_is_within)
  f_is_tuple : Addr
  d_is_tuple : FuncData
  F_is_tuple : Fun K "is_tuple" "is_tuple" s_is_tuple f_is_tuple d_is_tuple
  b_is_tuple : Binds K d_is_tuple ["thing"] []
  g_is_tuple : mg "is_tuple" = some (.ref f_is_tuple)
  f_is_sized : Addr
  d_is_sized : FuncData
  F_is_sized : Fun K "is_sized" "is_sized" s_is_sized f_is_sized d_is_sized
  b_is_sized : Binds K d_is_sized ["thing", "least", "most"] []
  g_is_sized : mg "is_sized" = some (.ref f_is_sized)
  f_read_integer : Addr
  d_read_integer : FuncData
  F_read_integer : Fun K "read_integer" "read_integer" s_read_integer f_read_integer d_read_integer
  b_read_integer : Binds K d_read_integer ["word", "least", "most"] []
  g_read_integer : mg "read_integer" = some (.ref f_read_integer)
  f_kept_label : Addr
  d_kept_label : FuncData
  F_kept_label : Fun K "kept_label" "kept_label" s_kept_label f_kept_label d_kept_label
  b_kept_label : Binds K d_kept_label ["thing"] []
  g_kept_label : mg "kept_label" = some (.ref f_kept_label)
  f_judged_label : Addr
  d_judged_label : FuncData
  F_judged_label : Fun K "judged_label" "judged_label" s_judged_label f_judged_label d_judged_label
  b_judged_label : Binds K d_judged_label ["thing"] []
  g_judged_label : mg "judged_label" = some (.ref f_judged_label)
  f_write_label : Addr
  d_write_label : FuncData
  F_write_label : Fun K "write_label" "write_label" s_write_label f_write_label d_write_label
  b_write_label : Binds K d_write_label ["label"] []
  g_write_label : mg "write_label" = some (.ref f_write_label)
  f_read_label : Addr
  d_read_label : FuncData
  F_read_label : Fun K "read_label" "read_label" s_read_label f_read_label d_read_label
  b_read_label : Binds K d_read_label ["word"] []
  g_read_label : mg "read_label" = some (.ref f_read_label)
  f_write_page : Addr
  d_write_page : FuncData
  F_write_page : Fun K "write_page" "write_page" s_write_page f_write_page d_write_page
  b_write_page : Binds K d_write_page ["page"] []
  g_write_page : mg "write_page" = some (.ref f_write_page)
  f_read_page : Addr
  d_read_page : FuncData
  F_read_page : Fun K "read_page" "read_page" s_read_page f_read_page d_read_page
  b_read_page : Binds K d_read_page ["word"] []
  g_read_page : mg "read_page" = some (.ref f_read_page)
  f_Format_init : Addr
  d_Format_init : FuncData
  F_Format_init : FunD K "__init__" "Format.__init__" (defArgs s_Format_init) (defBody s_Format_init) (defScope s_Format_init) [V.bl true] [] f_Format_init d_Format_init
  b_Format_init : Binds K d_Format_init ["self", "width", "height", "near"] []
  g_Format_init : PySem.W.findIn K (.ref C_Format) "__init__" = some (some (.ref f_Format_init))
  b3_Format_init : ∃ ds, Vals [V.bl true] ds ∧ Binds K d_Format_init ["self", "width", "height", "near"] ds
  kb_Format_init : ∃ its : List Value, KBn K d_Format_init ["self", "width", "height", "near"] 1 ["near", "height", "width"] (fun us ws => us ++ ws.reverse) (fun vs zs => vs ++ zs.reverse)
  f_Format_eq : Addr
  d_Format_eq : FuncData
  F_Format_eq : Fun K "__eq__" "Format.__eq__" s_Format_eq f_Format_eq d_Format_eq
  b_Format_eq : Binds K d_Format_eq ["self", "other"] []
  g_Format_eq : PySem.W.findIn K (.ref C_Format) "__eq__" = some (some (.ref f_Format_eq))
  f_source : Addr
  d_source : FuncData
  F_source : Fun K "_law_source" "_law_source" s_source f_source d_source
  b_source : Binds K d_source ["_law_script", "_law_k"] []
  g_source : mg "_law_source" = some (.ref f_source)
  f_pick : Addr
  d_pick : FuncData
  F_pick : Fun K "_law_pick" "_law_pick" s_pick f_pick d_pick
  b_pick : Binds K d_pick ["_law_source_here", "_law_many"] []
  g_pick : mg "_law_pick" = some (.ref f_pick)
  f_law_is_integer : Addr
  d_law_is_integer : FuncData
  F_law_is_integer : Fun K "_law_is_integer" "_law_is_integer" s_law_is_integer f_law_is_integer d_law_is_integer
  b_law_is_integer : Binds K d_law_is_integer ["_law_actual"] []
  g_law_is_integer : mg "_law_is_integer" = some (.ref f_law_is_integer)
  f_label_word : Addr
  d_label_word : FuncData
  F_label_word : Fun K "_law_label_word" "_law_label_word" s_label_word f_label_word d_label_word
  b_label_word : Binds K d_label_word ["_law_label_here"] []
  g_label_word : mg "_law_label_word" = some (.ref f_label_word)
  f_page_word : Addr
  d_page_word : FuncData
  F_page_word : Fun K "_law_page_word" "_law_page_word" s_page_word f_page_word d_page_word
  b_page_word : Binds K d_page_word ["_law_page"] []
  g_page_word : mg "_law_page_word" = some (.ref f_page_word)
  f_law_read_label : Addr
  d_law_read_label : FuncData
  F_law_read_label : Fun K "_law_read_label" "_law_read_label" s_law_read_label f_law_read_label d_law_read_label
  b_law_read_label : Binds K d_law_read_label ["_law_word"] []
  g_law_read_label : mg "_law_read_label" = some (.ref f_law_read_label)
  f_law_read_page : Addr
  d_law_read_page : FuncData
  F_law_read_page : Fun K "_law_read_page" "_law_read_page" s_law_read_page f_law_read_page d_law_read_page
  b_law_read_page : Binds K d_law_read_page ["_law_word"] []
  g_law_read_page : mg "_law_read_page" = some (.ref f_law_read_page)
  f_signs : Addr
  d_signs : FuncData
  F_signs : Fun K "_law_signs" "_law_signs" s_signs f_signs d_signs
  b_signs : Binds K d_signs [] []
  g_signs : mg "_law_signs" = some (.ref f_signs)
  f_figure : Addr
  d_figure : FuncData
  F_figure : Fun K "_law_figure" "_law_figure" s_figure f_figure d_figure
  b_figure : Binds K d_figure ["_law_source_here", "_law_least"] []
  g_figure : mg "_law_figure" = some (.ref f_figure)
  f_label : Addr
  d_label : FuncData
  F_label : Fun K "_law_label" "_law_label" s_label f_label d_label
  b_label : Binds K d_label ["_law_source_here"] []
  g_label : mg "_law_label" = some (.ref f_label)
  f_sign : Addr
  d_sign : FuncData
  F_sign : Fun K "_law_sign" "_law_sign" s_sign f_sign d_sign
  b_sign : Binds K d_sign ["_law_source_here"] []
  g_sign : mg "_law_sign" = some (.ref f_sign)
  f_spoilt : Addr
  d_spoilt : FuncData
  F_spoilt : Fun K "_law_spoilt" "_law_spoilt" s_spoilt f_spoilt d_spoilt
  b_spoilt : Binds K d_spoilt ["_law_source_here", "_law_word"] []
  g_spoilt : mg "_law_spoilt" = some (.ref f_spoilt)
  f_some_word : Addr
  d_some_word : FuncData
  F_some_word : Fun K "_law_some_word" "_law_some_word" s_some_word f_some_word d_some_word
  b_some_word : Binds K d_some_word ["_law_source_here"] []
  g_some_word : mg "_law_some_word" = some (.ref f_some_word)
  f_words : Addr
  d_words : FuncData
  F_words : Fun K "_law_words" "_law_words" s_words f_words d_words
  b_words : Binds K d_words ["_law_source_here", "_law_label_here", "_law_side"] []
  g_words : mg "_law_words" = some (.ref f_words)
  f_is_label : Addr
  d_is_label : FuncData
  F_is_label : Fun K "_law_is_label" "_law_is_label" s_is_label f_is_label d_is_label
  b_is_label : Binds K d_is_label ["_law_actual", "_law_due"] []
  g_is_label : mg "_law_is_label" = some (.ref f_is_label)
  f_is_page : Addr
  d_is_page : FuncData
  F_is_page : Fun K "_law_is_page" "_law_is_page" s_is_page f_is_page d_is_page
  b_is_page : Binds K d_is_page ["_law_actual", "_law_due"] []
  g_is_page : mg "_law_is_page" = some (.ref f_is_page)
  f_odd_label : Addr
  d_odd_label : FuncData
  F_odd_label : Fun K "_law_odd_label" "_law_odd_label" s_odd_label f_odd_label d_odd_label
  b_odd_label : Binds K d_odd_label ["_law_source_here", "_law_label_here"] []
  g_odd_label : mg "_law_odd_label" = some (.ref f_odd_label)
  f_refused : Addr
  d_refused : FuncData
  F_refused : Fun K "_law_refused" "_law_refused" s_refused f_refused d_refused
  b_refused : Binds K d_refused ["_law_thing", "_law_way"] []
  g_refused : mg "_law_refused" = some (.ref f_refused)
  f_written : Addr
  d_written : FuncData
  F_written : Fun K "_law_written" "_law_written" s_written f_written d_written
  b_written : Binds K d_written ["_law_label_here", "_law_side"] []
  g_written : mg "_law_written" = some (.ref f_written)
  f_odd_size : Addr
  d_odd_size : FuncData
  F_odd_size : Fun K "_law_odd_size" "_law_odd_size" s_odd_size f_odd_size d_odd_size
  b_odd_size : Binds K d_odd_size ["_law_source_here", "_law_low", "_law_high"] []
  g_odd_size : mg "_law_odd_size" = some (.ref f_odd_size)
  f_odd_near : Addr
  d_odd_near : FuncData
  F_odd_near : Fun K "_law_odd_near" "_law_odd_near" s_odd_near f_odd_near d_odd_near
  b_odd_near : Binds K d_odd_near ["_law_source_here"] []
  g_odd_near : mg "_law_odd_near" = some (.ref f_odd_near)
  f_format_refused : Addr
  d_format_refused : FuncData
  F_format_refused : Fun K "_law_format_refused" "_law_format_refused" s_format_refused f_format_refused d_format_refused
  b_format_refused : Binds K d_format_refused ["_law_one", "_law_other", "_law_third", "_law_word"] []
  g_format_refused : mg "_law_format_refused" = some (.ref f_format_refused)
  f_formats_asked : Addr
  d_formats_asked : FuncData
  F_formats_asked : Fun K "_law_formats_asked" "_law_formats_asked" s_formats_asked f_formats_asked d_formats_asked
  b_formats_asked : Binds K d_formats_asked ["_law_source_here"] []
  g_formats_asked : mg "_law_formats_asked" = some (.ref f_formats_asked)
  f_law : Addr
  d_law : FuncData
  F_law : Fun K "law" "law" s_law f_law d_law
  b_law : Binds K d_law ["_law_script"] []
  g_law : mg "law" = some (.ref f_law)
  cg_Format : mg "Format" = some (.ref C_Format)
  cg_AfterError : mg "AfterError" = some (.ref C_AfterError)
  cg_BadForm : mg "BadForm" = some (.ref C_BadForm)
  cg_NotThere : mg "NotThere" = some (.ref C_NotThere)
  cg_BadLabel : mg "BadLabel" = some (.ref C_BadLabel)
  cg_BadFormat : mg "BadFormat" = some (.ref C_BadFormat)
  hg_BadLabel : PySem.W.findIn K (.ref C_BadLabel) "__getattribute__" = some (some (.builtin "BaseException.__getattribute__"))
  hk_BadLabel : PySem.W.findIn K (.ref C_BadLabel) "__getattr__" = some none
  hs_BadLabel : PySem.W.subIn K (.ref C_BadLabel) (.type "BaseException") = some true
  hd_BadLabel : PySem.W.hasDictIn K C_BadLabel = true
  ha_BadLabel : PySem.W.findIn K (.ref C_BadLabel) "__class__" = some (some (.builtin "object.__class__"))
  hn_BadLabel : PySem.W.specialIn K (.builtin "object.__class__") "__get__" = some (some (.builtin "getset_descriptor.__get__"))
  ht_BadLabel : PySem.W.takesIn K (.builtin "object.__class__") = some true
  hm_BadLabel : PySem.W.mroIn K C_BadLabel (.type "object") = some true
  hg_BadFormat : PySem.W.findIn K (.ref C_BadFormat) "__getattribute__" = some (some (.builtin "BaseException.__getattribute__"))
  hk_BadFormat : PySem.W.findIn K (.ref C_BadFormat) "__getattr__" = some none
  hs_BadFormat : PySem.W.subIn K (.ref C_BadFormat) (.type "BaseException") = some true
  hd_BadFormat : PySem.W.hasDictIn K C_BadFormat = true
  ha_BadFormat : PySem.W.findIn K (.ref C_BadFormat) "__class__" = some (some (.builtin "object.__class__"))
  hn_BadFormat : PySem.W.specialIn K (.builtin "object.__class__") "__get__" = some (some (.builtin "getset_descriptor.__get__"))
  ht_BadFormat : PySem.W.takesIn K (.builtin "object.__class__") = some true
  hm_BadFormat : PySem.W.mroIn K C_BadFormat (.type "object") = some true
  o_BadLabel : OexC K C_BadLabel
  n_BadLabel_label : PySem.W.findIn K (.ref C_BadLabel) "label" = some none
  i_BadLabel : PySem.W.typeIn K (.ref f_BadLabel_init) = some (.type "function")
  o_BadFormat : OexC K C_BadFormat
  n_BadFormat_word : PySem.W.findIn K (.ref C_BadFormat) "word" = some none
  i_BadFormat : PySem.W.typeIn K (.ref f_BadFormat_init) = some (.type "function")
  cl_Format : Cls K C_Format
  ms_Format : PySem.W.makesIn K C_Format = true
  kc_Format : PySem.W.keepIn K (.ref C_Format) = true
  ca_Format : PySem.W.findIn K (.ref C_Format) "__class__" = some (some (.builtin "object.__class__"))
  cn_Format : PySem.W.specialIn K (.builtin "object.__class__") "__get__" = some (some (.builtin "getset_descriptor.__get__"))
  ct_Format : PySem.W.takesIn K (.builtin "object.__class__") = some true
  cm_Format : PySem.W.mroIn K C_Format (.type "object") = some true
  ic_Format : PySem.W.isClsIn K C_Format = true
  tc_Format : PySem.W.typeIn K (.ref C_Format) = some (.type "type")
  na_Format_width : NoAttr K C_Format "width"
  na_Format_height : NoAttr K C_Format "height"
  na_Format_near : NoAttr K C_Format "near"
  ns_Format_tuple : PySem.W.subIn K (.type "tuple") (.ref C_Format) = some false
  ns_Format_NoneType : PySem.W.subIn K (.type "NoneType") (.ref C_Format) = some false
  fn_Format_init : PySem.W.isFn K (.ref f_Format_init) = true
  fn_Format_eq : PySem.W.isFn K (.ref f_Format_eq) = true
  q_BadLabel_BadForm : PySem.W.kitOne K (.ref C_BadLabel) (.ref C_BadForm) = some true
  q_BadLabel_AfterError : PySem.W.kitOne K (.ref C_BadLabel) (.ref C_AfterError) = some true
  q_BadLabel_ValueError : PySem.W.kitOne K (.ref C_BadLabel) (.type "ValueError") = some true
  q_BadLabel_BadFormat : PySem.W.kitOne K (.ref C_BadLabel) (.ref C_BadFormat) = some false
  q_BadFormat_BadFormat : PySem.W.kitOne K (.ref C_BadFormat) (.ref C_BadFormat) = some true
  q_BadFormat_ValueError : PySem.W.kitOne K (.ref C_BadFormat) (.type "ValueError") = some true
  q_BadFormat_NotThere : PySem.W.kitOne K (.ref C_BadFormat) (.ref C_NotThere) = some false
  q_BadFormat_BadLabel : PySem.W.kitOne K (.ref C_BadFormat) (.ref C_BadLabel) = some false
  e_BadLabel_BadLabel : PySem.W.exmOne K (.ref C_BadLabel) (.ref C_BadLabel) = some true
  e_BadFormat_BadForm : PySem.W.exmOne K (.ref C_BadFormat) (.ref C_BadForm) = some true
  t_DIGITS : Tok
  c_DIGITS : mg "DIGITS" = some (.str "0123456789" t_DIGITS)
  t_MOST_PARTS : Tok
  c_MOST_PARTS : mg "MOST_PARTS" = some (.int 3 t_MOST_PARTS)
  t_SIDES : Tok
  c_SIDES : mg "SIDES" = some (.str "ab" t_SIDES)
  m_ValueError : mg "ValueError" = none
  m_abs : mg "abs" = none
  m_all : mg "all" = none
  m_bool : mg "bool" = none
  m_int : mg "int" = none
  m_isinstance : mg "isinstance" = none
  m_len : mg "len" = none
  m_list : mg "list" = none
  m_max : mg "max" = none
  m_min : mg "min" = none
  m_range : mg "range" = none
  m_repr : mg "repr" = none
  m_str : mg "str" = none
  m_sum : mg "sum" = none
  m_tuple : mg "tuple" = none
/-! ### heaps and sources -/
theorem un2 {k : Nat} {A : Around} (r : Room k A) : A.units + 65 < cLine := by have := r.un; omega
theorem same_upd {H : Hp} {p : Addr} {o : HO} (h : H p = none) : Same H (upd H p o) := fun b x e => by
  rw [upd_ne (ne_of_none e h)]
  exact e
/-- all but a stand as they stood -/
def But (a : Addr) (H H' : Hp) : Prop := ∀ b o, b ≠ a → H b = some o → H' b = some o
theorem But.refl (a : Addr) (H : Hp) : But a H H := fun _ _ _ e => e
theorem But.trans {a : Addr} {H H1 H2 : Hp} (x : But a H H1) (y : But a H1 H2) : But a H H2 := fun b o n e => y b o n (x b o n e)
theorem But.of {a : Addr} {H H1 : Hp} (x : Same H H1) : But a H H1 := fun b o _ e => x b o e
theorem But.upd {a : Addr} {H : Hp} (o : HO) : But a H (upd H a o) := fun b u n e => by
  rw [upd_ne n]
  exact e
/-- what changes is not there at first -/
theorem But.same {a : Addr} {H0 H H' : Hp} (n : H0 a = none) (s : Same H0 H) (x : But a H H') : Same H0 H' := fun b o e => x b o (ne_of_none e n) (s b o e)
/-- a source of numbers: three ints -/
def Src (H : Hp) (a : Addr) : Prop := ∃ g x c : Int, H a = some (.lst [.int g, .int x, .int c])
theorem cut_map (ns : List Int) (lo hi : Option Int) : ∃ ms : List Int, cutV (ns.map V.int) lo hi = ms.map V.int := by
  unfold cutV
  exact ⟨_, by rw [← List.map_drop, ← List.map_take]⟩
theorem at_of' {α : Type} {xs : List α} {z : Int} {j : Nat} {v : α} (e : z = (j : Int)) (h : xs[j]? = some v) : atI xs z = some v := by
  subst e
  exact atI_nat h
theorem str_len_snoc (z : Str) (c : Nat) : (z ++ (⟨#[c]⟩ : Str)).length = z.length + 1 := by
  show (z.cps ++ #[c]).size = z.cps.size + 1
  rw [Array.size_append]
  rfl
theorem But.none {a D : Addr} {H H3 : Hp} (x : But a H H3) (n : H3 D = .none) (h : D ≠ a) : H D = .none := by
  cases e : H D with
  | none => rfl
  | some o =>
    rw [x D o h e] at n
    cases n
theorem But.put {a D : Addr} {H H' : Hp} (x : But a H H') (n : H D = .none) (o : HO) : But a H (L2.upd H' D o) := fun b u nb e => by
  rw [upd_ne (ne_of_none e n)]
  exact x b u nb e
theorem Src.put {a D : Addr} {H : Hp} (x : Src H a) (n : a ≠ D) (o : HO) : Src (upd H D o) a := by
  obtain ⟨g, y, c, e⟩ := x
  exact ⟨g, y, c, by rw [upd_ne n]; exact e⟩
theorem Src.ne {a D : Addr} {H : Hp} (x : Src H a) (n : H D = .none) : a ≠ D := by
  obtain ⟨g, y, c, e⟩ := x
  exact ne_of_none e n
theorem get_map {xs : List Str} {i : Nat} {x : V} (h : (xs.map V.str)[i]? = some x) : ∃ z, x = .str z ∧ xs[i]? = some z := by
  rw [List.getElem?_map] at h
  cases e : xs[i]? with
  | none => rw [e] at h; cases h
  | some z => rw [e] at h; exact ⟨z, (Option.some.inj h).symm, rfl⟩
theorem get_mapR {xs : List Addr} {i : Nat} {x : V} (h : (xs.map V.ref)[i]? = some x) : ∃ z, x = .ref z ∧ z ∈ xs := by
  rw [List.getElem?_map] at h
  cases e : xs[i]? with
  | none => rw [e] at h; cases h
  | some z => rw [e] at h; exact ⟨z, (Option.some.inj h).symm, List.mem_of_getElem? e⟩
section
variable {X : Cx} {tg e : Expr} {w1 w2 : TI}
theorem pi_or (a : PI X tg e w1) (b : PI X tg e w2) : PI X tg e (fun σ H R => w1 σ H R ∨ w2 σ H R) :=
  ⟨fun pins s σ H R I h => h.elim (fun h => a.run pins s σ H R I h) (fun h => b.run pins s σ H R I h)⟩
theorem op_rep_str : OpR X (binaryOp .Mult) (fun x y H Q => ∃ z n, x = .str z ∧ y = .int n ∧ PySem.MulOk z n ∧ Q (.str (Txt.mul z n)) H) := by
  intro pins s σ H x y v u Q I rx ry h
  obtain ⟨z, n, rfl, rfl, hm, q⟩ := h
  obtain ⟨t, rfl⟩ := rx
  obtain ⟨t', rfl⟩ := ry
  exact PySem.SB.mul hm (fun t' tk => ⟨.str _, H, I.tok _, ⟨_, rfl⟩, q⟩)
end
theorem eq_strs {K : PySem.W.Frag} {H : Hp} : ∀ zs : List Str, Paired (EqV K H 1) (zs.map V.str) (zs.map V.str)
  | [] => .nil
  | z :: r => .cons (.inl ⟨rfl, rfl⟩) (eq_strs r)
theorem same_seqT {K : PySem.W.Frag} {H H' : Hp} {a : Addr} {xs : List V} (e : Same H H') (h : SqT K H a xs) : SqT K H' a xs :=
  h.elim (fun r => .inl (r.elim (fun e1 => .inl (e _ _ e1)) (fun ⟨o, e1⟩ => .inr ⟨o, e _ _ e1⟩))) .inr
theorem same_sq {K : PySem.W.Frag} {H H' : Hp} {a : Addr} {xs : List V} (e : Same H H') (h : SqL K H a xs ∨ SqT K H a xs) : SqL K H' a xs ∨ SqT K H' a xs :=
  h.elim (fun h => .inl (e.seq h)) (fun h => .inr (same_seqT e h))
theorem same_put {H H' : Hp} {b : Addr} (x : Same H H') (n : H b = .none) (o : HO) : Same H (upd H' b o) := fun c u e => by
  rw [upd_ne (ne_of_none e n)]
  exact x c u e
/-! ### == of rows of texts and of numbers -/
theorem dp_strs {K : PySem.W.Frag} {H : Hp} : ∀ zs : List Str, DpAll K H (zs.map V.str) (zs.map PyData.str)
  | [] => .nil
  | z :: r => .cons (.str z) (dp_strs r)
theorem dp_ints {K : PySem.W.Frag} {H : Hp} : ∀ zs : List Int, DpAll K H (zs.map V.int) (zs.map PyData.int)
  | [] => .nil
  | z :: r => .cons (.int z) (dp_ints r)
theorem can_strs : ∀ zs : List Str, (∀ z ∈ zs, PyData.strOk z = true) → PyData.canLayAll0 (zs.map PyData.str) = true
  | [], _ => rfl
  | z :: r, h => by
    show (PyData.strOk z && PyData.canLayAll0 (r.map PyData.str)) = true
    rw [can_strs r fun y hy => h y (List.mem_cons_of_mem _ hy), Bool.and_true]
    exact h z (List.mem_cons_self ..)
theorem can_ints : ∀ zs : List Int, PyData.canLayAll0 (zs.map PyData.int) = true
  | [] => rfl
  | z :: r => by
    show (true && PyData.canLayAll0 (r.map PyData.int)) = true
    rw [can_ints r]
    rfl
theorem depth_strs : ∀ zs : List Str, PyData.depthAll (zs.map PyData.str) = 0
  | [] => rfl
  | z :: r => by
    show max 0 (PyData.depthAll (r.map PyData.str)) = 0
    rw [depth_strs r]
    rfl
theorem depth_ints : ∀ zs : List Int, PyData.depthAll (zs.map PyData.int) = 0
  | [] => rfl
  | z :: r => by
    show max 0 (PyData.depthAll (r.map PyData.int)) = 0
    rw [depth_ints r]
    rfl
theorem shaped_l (zs : List Str) (h : ∀ z ∈ zs, PyData.strOk z = true) : SeqAt.shaped (.list (zs.map PyData.str)) = true := by
  unfold SeqAt.shaped
  rw [Bool.and_eq_true]
  refine ⟨can_strs zs h, decide_eq_true ?_⟩
  show PyData.depthAll (zs.map PyData.str) + 1 ≤ 64
  rw [depth_strs]
  decide
theorem shaped_t (zs : List Str) (h : ∀ z ∈ zs, PyData.strOk z = true) : SeqAt.shaped (.tuple (zs.map PyData.str)) = true := by
  unfold SeqAt.shaped
  rw [Bool.and_eq_true]
  refine ⟨can_strs zs h, decide_eq_true ?_⟩
  show PyData.depthAll (zs.map PyData.str) + 1 ≤ 64
  rw [depth_strs]
  decide
theorem shaped_il (zs : List Int) : SeqAt.shaped (.list (zs.map PyData.int)) = true := by
  unfold SeqAt.shaped
  rw [Bool.and_eq_true]
  refine ⟨can_ints zs, decide_eq_true ?_⟩
  show PyData.depthAll (zs.map PyData.int) + 1 ≤ 64
  rw [depth_ints]
  decide
theorem shaped_it (zs : List Int) : SeqAt.shaped (.tuple (zs.map PyData.int)) = true := by
  unfold SeqAt.shaped
  rw [Bool.and_eq_true]
  refine ⟨can_ints zs, decide_eq_true ?_⟩
  show PyData.depthAll (zs.map PyData.int) + 1 ≤ 64
  rw [depth_ints]
  decide
theorem eqv_strs : ∀ xs ys : List Str, PyData.eqvAll (xs.map PyData.str) (ys.map PyData.str) = decide (xs = ys)
  | [], [] => rfl
  | [], y :: s => rfl
  | x :: r, [] => rfl
  | x :: r, y :: s => by
    show ((x == y) && PyData.eqvAll (r.map PyData.str) (s.map PyData.str)) = decide (x :: r = y :: s)
    rw [eqv_strs r s]
    by_cases h : x = y
    · subst h
      simp
    · simp [h]
theorem eqv_ints : ∀ xs ys : List Int, PyData.eqvAll (xs.map PyData.int) (ys.map PyData.int) = decide (xs = ys)
  | [], [] => rfl
  | [], y :: s => rfl
  | x :: r, [] => rfl
  | x :: r, y :: s => by
    show ((x == y) && PyData.eqvAll (r.map PyData.int) (s.map PyData.int)) = decide (x :: r = y :: s)
    rw [eqv_ints r s]
    by_cases h : x = y
    · subst h
      simp
    · simp [h]
theorem ok_app (a b : Str) (ha : PyData.strOk a = true) (hb : PyData.strOk b = true) : PyData.strOk (a ++ b) = true := by
  show (a.cps ++ b.cps).all (· < 0x110000) = true
  rw [Array.all_append]
  exact Bool.and_eq_true_iff.mpr ⟨ha, hb⟩
/-! ### labels, pages, ranges as words -/
def rdN : List Nat → Option Int
  | [a] => if 48 ≤ a ∧ a ≤ 57 then some ((a : Int) - 48) else none
  | [a, b] => if (48 < a ∧ a ≤ 57) ∧ (48 ≤ b ∧ b ≤ 57) then some (((a : Int) - 48) * 10 + ((b : Int) - 48)) else none
  | _ => none
def rdI (z : Str) : Option Int := rdN z.cps.toList
def allSome : List (Option Int) → Option (List Int)
  | [] => some []
  | none :: _ => none
  | some i :: r => match allSome r with | some L => some (i :: L) | none => none
def keep (os : List (Option Int)) : Option (List Int) :=
  match allSome os with
  | some L => if L.length ≤ 3 ∧ L.getLastD 0 ≠ 0 then some L else none
  | none => none
def rdL (z : Str) : Option (List Int) := keep ((Txt.split z ".").map rdI)
abbrev Pg := List Int × Int
def rdP (z : Str) : Option Pg :=
  match z.cps.toList.getLast? with
  | some c => if c = 97 ∨ c = 98 then (match rdL (cutS z none (some (-1))) with | some L => some (L, (c : Int) - 97) | none => none) else none
  | none => none
def rdR (z : Str) : Option (Pg × Pg) :=
  match (Txt.split z "-").map rdP with
  | [some p] => some (p, p)
  | [some p, some q] => some (p, q)
  | _ => none
def rdR2 : List (Option Pg) → Option (Pg × Pg)
  | [some p] => some (p, p)
  | [some p, some q] => some (p, q)
  | _ => none
theorem rdR_eq (z : Str) : rdR z = rdR2 ((Txt.split z "-").map rdP) := by
  unfold rdR
  generalize (Txt.split z "-").map rdP = ps
  match ps with
  | [] => rfl
  | [none] => rfl
  | [some p] => rfl
  | [none, b] => rfl
  | [some p, none] => rfl
  | [some p, some q] => rfl
  | none :: b :: c :: r => rfl
  | some a :: none :: c :: r => rfl
  | some a :: some b :: c :: r => rfl
def okL (L : List Int) : Prop := L.length ≤ 3 ∧ L.getLastD 0 ≠ 0 ∧ ∀ i ∈ L, 0 ≤ i ∧ i ≤ 99
def okP (p : Pg) : Prop := okL p.1 ∧ (p.2 = 0 ∨ p.2 = 1)
def fL (L : List Int) : Str := Txt.join "." (L.map fun i => (toString i : Str))
def fP (p : Pg) : Str := fL p.1 ++ (if p.2 = 0 then ("a" : Str) else "b")
def fR (p q : Pg) : Str := if fP p = fP q then fP p else fP p ++ "-" ++ fP q
def dL (L : List Int) : PyData := .tuple (L.map PyData.int)
def dP (p : Pg) : PyData := .tuple [dL p.1, .int p.2]
def dR (r : Pg × Pg) : PyData := .tuple [dP r.1, dP r.2]
def oD {α : Type} (f : α → PyData) : Option α → PyData
  | none => .none
  | some x => f x
def optI : Option Int → V
  | none => .non
  | some i => .int i
theorem num_all : ((List.range 100).all fun i => decide (((toString (i : Int) : Str)).length ≤ 2) && decide (1 ≤ ((toString (i : Int) : Str)).length) && ((toString (i : Int) : Str)).cps.toList.all (fun c => decide (48 ≤ c ∧ c ≤ 57)) && decide (rdI (toString (i : Int)) = some (i : Int))) = true := by decide +kernel
theorem num_ok {i : Int} (h0 : 0 ≤ i) (h1 : i ≤ 99) : ((toString i : Str)).length ≤ 2 ∧ 1 ≤ ((toString i : Str)).length ∧ (∀ c ∈ ((toString i : Str)).cps.toList, 48 ≤ c ∧ c ≤ 57) ∧ rdI (toString i) = some i := by
  have h := List.all_eq_true.mp num_all i.toNat (List.mem_range.mpr (by omega))
  rw [Int.toNat_of_nonneg h0] at h
  simp only [Bool.and_eq_true, decide_eq_true_eq, List.all_eq_true] at h
  exact ⟨h.1.1.1, h.1.1.2, h.1.2, h.2⟩
theorem int_all : ((List.range 10).all fun i => decide (PySem.intText? (⟨#[48 + i]⟩ : Str) = some (i : Int)) && (List.range 10).all fun j => decide (PySem.intText? (⟨#[48 + i, 48 + j]⟩ : Str) = some ((i : Int) * 10 + (j : Int)))) = true := by decide +kernel
theorem int1 {a : Nat} (h : 48 ≤ a ∧ a ≤ 57) : PySem.intText? (⟨#[a]⟩ : Str) = some ((a : Int) - 48) := by
  have h1 := List.all_eq_true.mp int_all (a - 48) (List.mem_range.mpr (by omega))
  simp only [Bool.and_eq_true, decide_eq_true_eq] at h1
  have h2 := h1.1
  rw [show 48 + (a - 48) = a by omega] at h2
  rw [h2]
  congr 1
  omega
theorem int2 {a b : Nat} (h : 48 ≤ a ∧ a ≤ 57) (hb : 48 ≤ b ∧ b ≤ 57) : PySem.intText? (⟨#[a, b]⟩ : Str) = some (((a : Int) - 48) * 10 + ((b : Int) - 48)) := by
  have h1 := List.all_eq_true.mp int_all (a - 48) (List.mem_range.mpr (by omega))
  simp only [Bool.and_eq_true, decide_eq_true_eq] at h1
  have h2 := List.all_eq_true.mp h1.2 (b - 48) (List.mem_range.mpr (by omega))
  simp only [decide_eq_true_eq] at h2
  rw [show 48 + (a - 48) = a by omega, show 48 + (b - 48) = b by omega] at h2
  rw [h2]
  congr 1
  omega
theorem rd_bound {z : Str} {i : Int} (h : rdI z = some i) : 0 ≤ i ∧ i ≤ 99 := by
  unfold rdI at h
  match e : z.cps.toList with
  | [] => rw [e] at h; cases h
  | [a] =>
    rw [e] at h
    simp only [rdN] at h
    split at h
    · injection h with h; omega
    · cases h
  | [a, b] =>
    rw [e] at h
    simp only [rdN] at h
    split at h
    · injection h with h; omega
    · cases h
  | a :: b :: c :: r => rw [e] at h; cases h
theorem allSome_map (L : List Int) : allSome (L.map some) = some L := by
  induction L with
  | nil => rfl
  | cons i r ih => rw [List.map_cons]; unfold allSome; rw [ih]
theorem keep_ok {L : List Int} (h : okL L) : keep (L.map some) = some L := by
  unfold keep
  rw [allSome_map]
  simp only
  rw [if_pos ⟨h.1, h.2.1⟩]
theorem okL_ne {L : List Int} (h : okL L) : L ≠ [] := fun e => by
  subst e
  exact h.2.1 rfl
theorem rdL_fL {L : List Int} (h : okL L) : rdL (fL L) = some L := by
  unfold rdL fL
  rw [TL.split_join (s := 46) (S := []) (by rfl) (by decide +kernel) (fun e => okL_ne h (List.map_eq_nil_iff.mp e)) fun p hp => ?_]
  · rw [List.map_map]
    have e : L.map (rdI ∘ fun i => (toString i : Str)) = L.map some := List.map_congr_left fun i hi => (num_ok (h.2.2 i hi).1 (h.2.2 i hi).2).2.2.2
    rw [e, keep_ok h]
  · obtain ⟨i, hi, rfl⟩ := List.mem_map.mp hp
    intro hc
    have := (num_ok (h.2.2 i hi).1 (h.2.2 i hi).2).2.2.1 46 hc
    omega
theorem cut_m1 (z : Str) (c : Nat) : cutS (z ++ (⟨#[c]⟩ : Str)) none (some (-1)) = z := by
  unfold cutS
  have e : (z ++ (⟨#[c]⟩ : Str)).cps.toList = z.cps.toList ++ [c] := cps_toList_append z _
  have l : (z ++ (⟨#[c]⟩ : Str)).length = z.length + 1 := str_len_snoc z c
  rw [e, HT.sIx_none, List.drop_zero, l]
  rw [show HT.sIx (z.length + 1) (z.length + 1) (some (-1)) = z.length by
    show ((-1 : Int) + ((z.length + 1 : Nat) : Int)).toNat = z.length
    omega]
  rw [Nat.sub_zero, List.take_left' (show z.cps.toList.length = z.length from rfl)]
theorem rdP_fP {p : Pg} (h : okP p) : rdP (fP p) = some p := by
  obtain ⟨L, s⟩ := p
  obtain ⟨hL, hs⟩ := h
  have key : ∀ c : Nat, rdP (fL L ++ (⟨#[c]⟩ : Str)) = if c = 97 ∨ c = 98 then some (L, (c : Int) - 97) else none := fun c => by
    unfold rdP
    rw [show (fL L ++ (⟨#[c]⟩ : Str)).cps.toList = (fL L).cps.toList ++ [c] from cps_toList_append _ _, List.getLast?_append, cut_m1, rdL_fL hL]
    rfl
  rcases hs with rfl | rfl
  · exact key 97
  · exact key 98
theorem fP_inj {p q : Pg} (hp : okP p) (hq : okP q) (e : fP p = fP q) : p = q := by
  have h := rdP_fP hp
  rw [e, rdP_fP hq] at h
  exact (Option.some.inj h).symm
theorem fL_free {L : List Int} (h : okL L) : ∀ c ∈ (fL L).cps.toList, c ≠ 45 := by
  intro c hc e
  subst e
  unfold fL at hc
  rw [TL.join_eq] at hc
  rcases (mem_join _ _ _).mp hc with ⟨t, ht, h1⟩ | ⟨_, h1⟩
  · obtain ⟨i, hi, rfl⟩ := List.mem_map.mp ht
    have := (num_ok (h.2.2 i hi).1 (h.2.2 i hi).2).2.2.1 45 h1
    omega
  · revert h1
    decide +kernel
theorem fP_free {p : Pg} (h : okP p) : 45 ∉ TL.tl (fP p) := by
  intro hc
  have hc2 : 45 ∈ (fP p).cps.toList := hc
  unfold fP at hc2
  rw [cps_toList_append] at hc2
  rcases List.mem_append.mp hc2 with h1 | h1
  · exact fL_free h.1 45 h1 rfl
  · split at h1 <;> (revert h1; decide +kernel)
theorem rdR_two {p q : Pg} (hp : okP p) (hq : okP q) : rdR (fP p ++ "-" ++ fP q) = some (p, q) := by
  unfold rdR
  have e : fP p ++ "-" ++ fP q = Txt.join "-" [fP p, fP q] := by rw [TL.join_eq]; rfl
  rw [e, TL.split_join (s := 45) (S := []) (by rfl) (by decide +kernel) (by simp) fun z hz => ?_]
  · simp only [List.map_cons, List.map_nil, rdP_fP hp, rdP_fP hq]
  · rcases List.mem_cons.mp hz with h | h
    · rw [h]; exact fP_free hp
    · rw [List.mem_singleton.mp h]; exact fP_free hq
theorem rdR_one {p : Pg} (hp : okP p) : rdR (fP p) = some (p, p) := by
  unfold rdR
  have e : fP p = Txt.join "-" [fP p] := by rw [TL.join_eq]; rfl
  rw [e, TL.split_join (s := 45) (S := []) (by rfl) (by decide +kernel) (by simp) fun z hz => ?_]
  · simp only [List.map_cons, List.map_nil]
    rw [rdP_fP hp]
  · rw [List.mem_singleton.mp hz]; exact fP_free hp
theorem rdR_fR {p q : Pg} (hp : okP p) (hq : okP q) : rdR (fR p q) = some (p, q) := by
  unfold fR
  split
  · rename_i e
    rw [← fP_inj hp hq e]
    exact rdR_one hp
  · exact rdR_two hp hq
theorem fL_len {L : List Int} (h : okL L) : (fL L).length ≤ 8 ∧ 1 ≤ (fL L).length := by
  have hn := okL_ne h
  have l1 : ("." : Str).length = 1 := by decide +kernel
  have ap : ∀ x y : Str, (x ++ y).length = x.length + y.length := fun x y => by
    show (x.cps ++ y.cps).size = _
    rw [Array.size_append]; rfl
  have nn := fun i hi => num_ok (h.2.2 i hi).1 (h.2.2 i hi).2
  unfold fL
  rw [TL.join_eq]
  match L, h, hn, nn with
  | [a], _, _, nn =>
    have := nn a (List.mem_singleton.mpr rfl)
    show ((toString a : Str)).length ≤ 8 ∧ 1 ≤ ((toString a : Str)).length
    omega
  | [a, b], _, _, nn =>
    have h1 := nn a (by simp)
    have h2 := nn b (by simp)
    show ((toString a : Str) ++ "." ++ (toString b : Str)).length ≤ 8 ∧ 1 ≤ ((toString a : Str) ++ "." ++ (toString b : Str)).length
    rw [ap, ap, l1]
    omega
  | [a, b, c], _, _, nn =>
    have h1 := nn a (by simp)
    have h2 := nn b (by simp)
    have h3 := nn c (by simp)
    show ((toString a : Str) ++ "." ++ ((toString b : Str) ++ "." ++ (toString c : Str))).length ≤ 8 ∧ 1 ≤ ((toString a : Str) ++ "." ++ ((toString b : Str) ++ "." ++ (toString c : Str))).length
    rw [ap, ap, ap, ap, l1]
    omega
  | a :: b :: c :: d :: r, h, _, _ => have := h.1; simp only [List.length_cons] at this; omega
theorem fP_len {p : Pg} (h : okP p) : (fP p).length ≤ 9 ∧ 2 ≤ (fP p).length := by
  have h1 := fL_len h.1
  have ap : ∀ x y : Str, (x ++ y).length = x.length + y.length := fun x y => by
    show (x.cps ++ y.cps).size = _
    rw [Array.size_append]; rfl
  unfold fP
  rw [ap]
  have : (if p.2 = 0 then ("a" : Str) else "b").length = 1 := by split <;> decide +kernel
  omega
/-! ### data in the heap -/
def Seq (K : PySem.W.Frag) (H : Hp) (a : Addr) (xs : List V) : Prop := SqL K H a xs ∨ SqT K H a xs
def PageAt (K : PySem.W.Frag) (H : Hp) (v : V) (p : Pg) : Prop := ∃ a l : Addr, v = .ref a ∧ Seq K H a [.ref l, .int p.2] ∧ Seq K H l (p.1.map V.int)
theorem ty_L {K : PySem.W.Frag} {H : Hp} {a : Addr} {xs : List V} (h : SqL K H a xs) : TyX K H (.ref a) (.type "list") := by
  rcases h with (h | ⟨o, h⟩) | ⟨o, its, n, h, c, _⟩
  · exact .base (.lst h)
  · exact .base (.frz h)
  · exact .kList h c
theorem ty_T {K : PySem.W.Frag} {H : Hp} {a : Addr} {xs : List V} (h : SqT K H a xs) : TyX K H (.ref a) (.type "tuple") := by
  rcases h with (h | ⟨o, h⟩) | ⟨o, its, n, h, c, _⟩
  · exact .base (.tup h)
  · exact .fTuple h
  · exact .kTuple h c
theorem kit2_T {K : PySem.W.Frag} : PySem.W.kitAny K (.type "tuple") [.type "tuple", .type "list"] = some true :=
  kitAny_cons (kit_ty (r := true) (by decide +kernel)) (fun h => nomatch h) (fun _ => rfl)
theorem kit2_L {K : PySem.W.Frag} : PySem.W.kitAny K (.type "list") [.type "tuple", .type "list"] = some true :=
  kitAny_cons (kit_ty (r := false) (by decide +kernel)) (fun _ => kitAny_cons (kit_ty (r := true) (by decide +kernel)) (fun h => nomatch h) (fun _ => rfl)) (fun h => nomatch h)
mutual
theorem dp_same {K : PySem.W.Frag} {H H' : Hp} (e : Same H H') : ∀ {v : V} {d : PyData}, Dp K H v d → Dp K H' v d
  | _, _, .non => .non
  | _, _, .bl b => .bl b
  | _, _, .int i => .int i
  | _, _, .str x => .str x
  | _, _, .lst h a => .lst (e.seq h) (dpAll_same e a)
  | _, _, .tup h a => .tup (same_seqT e h) (dpAll_same e a)
theorem dpAll_same {K : PySem.W.Frag} {H H' : Hp} (e : Same H H') : ∀ {vs : List V} {ds : List PyData}, DpAll K H vs ds → DpAll K H' vs ds
  | _, _, .nil => .nil
  | _, _, .cons h a => .cons (dp_same e h) (dpAll_same e a)
end
theorem dpL {K : PySem.W.Frag} {H : Hp} {a : Addr} {L : List Int} (h : SqT K H a (L.map V.int)) : Dp K H (.ref a) (dL L) := .tup h (dp_ints L)
theorem dp_ints_inv {K : PySem.W.Frag} {H : Hp} : ∀ {L : List Int} {vs : List V}, DpAll K H vs (L.map PyData.int) → vs = L.map V.int
  | [], _, .nil => rfl
  | i :: r, _, .cons h a => by
    cases h
    rw [dp_ints_inv a]
    rfl
theorem dL_inv {K : PySem.W.Frag} {H : Hp} {v : V} {L : List Int} (h : Dp K H v (dL L)) : ∃ a, v = .ref a ∧ SqT K H a (L.map V.int) := by
  cases h with
  | tup h a =>
    rw [dp_ints_inv a] at h
    exact ⟨_, rfl, h⟩
theorem dP_inv {K : PySem.W.Frag} {H : Hp} {v : V} {p : Pg} (h : Dp K H v (dP p)) : ∃ a l, v = .ref a ∧ SqT K H a [.ref l, .int p.2] ∧ SqT K H l (p.1.map V.int) := by
  cases h with
  | tup h a =>
    cases a with
    | cons h1 a =>
      cases a with
      | cons h2 a =>
        cases a
        cases h2
        obtain ⟨l, rfl, hl⟩ := dL_inv h1
        exact ⟨_, l, rfl, h, hl⟩
theorem dR_inv {K : PySem.W.Frag} {H : Hp} {v : V} {r : Pg × Pg} (h : Dp K H v (dR r)) : ∃ a x y, v = .ref a ∧ SqT K H a [x, y] ∧ Dp K H x (dP r.1) ∧ Dp K H y (dP r.2) := by
  cases h with
  | tup h a =>
    cases a with
    | cons h1 a =>
      cases a with
      | cons h2 a =>
        cases a
        exact ⟨_, _, _, rfl, h, h1, h2⟩
theorem pageAt_of {K : PySem.W.Frag} {H : Hp} {v : V} {p : Pg} (h : Dp K H v (dP p)) : PageAt K H v p := by
  obtain ⟨a, l, rfl, h1, h2⟩ := dP_inv h
  exact ⟨a, l, rfl, .inr h1, .inr h2⟩
theorem pageAt_same {K : PySem.W.Frag} {H H' : Hp} (e : Same H H') {v : V} {p : Pg} (h : PageAt K H v p) : PageAt K H' v p := by
  obtain ⟨a, l, rfl, h1, h2⟩ := h
  exact ⟨a, l, rfl, same_sq e h1, same_sq e h2⟩
theorem dp_opt {K : PySem.W.Frag} {H : Hp} {v : V} {α : Type} {f : α → PyData} (h : Dp K H v (oD f none)) : v = .non := by
  cases h
  rfl
theorem log_small {n : Nat} (h : n ≤ 99) : n.log2 < 1920 := Nat.lt_of_le_of_lt (Nat.log2_le_self n) (by omega)
section
variable {X : Cx} {e : Expr} {t u : TG}
theorem pg_or (a : PG X e t) (b : PG X e u) : PG X e (fun v σ H Q => t v σ H Q ∨ u v σ H Q) :=
  ⟨fun pins s σ H v w Q I r h => h.elim (fun h => a.run pins s σ H v w Q I r h) (fun h => b.run pins s σ H v w Q I r h)⟩
end
def dg (c : Nat) : Bool := decide (48 ≤ c ∧ c ≤ 57)
theorem dig_in (c : Nat) : decide (c ∈ ("0123456789" : Str).cps.toList) = dg c := by
  have e : ("0123456789" : Str).cps.toList = [48, 49, 50, 51, 52, 53, 54, 55, 56, 57] := by decide +kernel
  unfold dg
  rw [e]
  apply decide_eq_decide.mpr
  simp only [List.mem_cons, List.not_mem_nil, or_false]
  omega
theorem str1 {z : Str} {a : Nat} (h : z.cps.toList = [a]) : z = ⟨#[a]⟩ := TL.ext_tl h
theorem str2 {z : Str} {a b : Nat} (h : z.cps.toList = [a, b]) : z = ⟨#[a, b]⟩ := TL.ext_tl h
theorem len_cps (z : Str) : z.length = z.cps.toList.length := rfl
theorem zero_ne2 (a b : Nat) : (V.str ⟨#[a, b]⟩ = V.str "0") = False := by
  apply propext
  refine ⟨fun h => ?_, False.elim⟩
  injection h with h
  have := congrArg (fun s : Str => s.cps.size) h
  cases this
theorem zero_eq1 (a : Nat) : (V.str ⟨#[a]⟩ = V.str "0") = (a = 48) := by
  apply propext
  refine ⟨fun h => ?_, fun h => by subst h; rfl⟩
  injection h with h
  injection h with h
  exact (List.cons.inj (congrArg Array.toList h)).1
theorem split_cnt (x y : Str) (hy : 1 ≤ y.length) : (Txt.split x y).length ≤ x.length + 1 := by
  have := split_weight x y hy
  omega
theorem mem_sum {zs : List Str} {z : Str} (h : z ∈ zs) : z.length + zs.length ≤ (zs.map (·.length)).sum + zs.length := by
  have : z.length ≤ (zs.map (·.length)).sum := by
    induction zs with
    | nil => cases h
    | cons y r ih =>
      rw [List.map_cons, List.sum_cons]
      rcases List.mem_cons.mp h with e | e
      · rw [e]; omega
      · have := ih e; omega
  omega
theorem split_part (x y : Str) (hy : 1 ≤ y.length) {z : Str} (h : z ∈ Txt.split x y) : z.length ≤ x.length := by
  have h1 := split_weight x y hy
  have h2 := mem_sum h
  have h3 : 1 ≤ (Txt.split x y).length := List.length_pos_of_mem h
  omega
theorem rdI_some {os : List Str} {i : Int} (h : some i ∈ os.map rdI) : 0 ≤ i ∧ i ≤ 99 := by
  obtain ⟨z, _, e⟩ := List.mem_map.mp h
  exact rd_bound e
theorem some_bound {L : List Int} (h : okL L) {i : Int} (hi : some i ∈ L.map some) : 0 ≤ i ∧ i ≤ 99 := by
  obtain ⟨j, hj, e⟩ := List.mem_map.mp hi
  injection e with e
  subst e
  exact h.2.2 _ hj
theorem optI_map (L : List Int) : (L.map some).map optI = L.map V.int := by
  rw [List.map_map]
  rfl
theorem num_fit {L : List Int} (h : okL L) : ((L.map fun i => (toString i : Str)).map (·.length)).sum + (L.map fun i => (toString i : Str)).length * ("." : Str).length ≤ 16777216 := by
  have l1 : ("." : Str).length = 1 := by decide +kernel
  have h1 : ((L.map fun i => (toString i : Str)).map (·.length)).sum ≤ 2 * L.length := by
    have hb := h.2.2
    clear h
    induction L with
    | nil => exact Nat.le_refl _
    | cons i r ih =>
      have hi := num_ok (hb i (List.mem_cons_self ..)).1 (hb i (List.mem_cons_self ..)).2
      have := ih fun j hj => hb j (List.mem_cons_of_mem _ hj)
      simp only [List.map_cons, List.sum_cons, List.length_cons]
      omega
  have h2 := h.1
  rw [l1, List.length_map]
  omega
theorem split_ne (x y : Str) : Txt.split x y ≠ [] := by
  unfold Txt.split
  split
  · simp
  · split
    · simp
    · rw [StrLaws.partsBetween_eq]
      intro h
      generalize Builtin.Str.occurrences x y 0 x.length (x.length + 1) = cuts at h
      cases cuts with
      | nil => cases h
      | cons c r => cases h
theorem seqT_but {K : PySem.W.Frag} {H H' : Hp} {a p : Addr} {xs ys : List V} (ha : H a = some (.lst xs)) (b : But a H H') (h : SqT K H p ys) : SqT K H' p ys :=
  h.elim (fun r => .inl (r.elim (fun e => .inl (b p _ (ne_of e ha (by intro z; cases z)) e)) (fun ⟨o, e⟩ => .inr ⟨o, b p _ (ne_of e ha (by intro z; cases z)) e⟩))) .inr
/-- nothing, ints, tuples -/
def Pn : Nat → PyData → Prop
  | _, .none => True
  | _, .int _ => True
  | n + 1, .tuple ds => ∀ d ∈ ds, Pn n d
  | _, _ => False
mutual
theorem dp_but {K : PySem.W.Frag} {H H' : Hp} {a : Addr} {xs : List V} (ha : H a = some (.lst xs)) (b : But a H H') : ∀ {v : V} {d : PyData}, Dp K H v d → (∃ n, Pn n d) → Dp K H' v d
  | _, _, .non, _ => .non
  | _, _, .bl b, _ => .bl b
  | _, _, .int i, _ => .int i
  | _, _, .str x, _ => .str x
  | _, _, .lst _ _, ⟨n, h⟩ => by cases n <;> exact h.elim
  | _, _, .tup h k, ⟨0, z⟩ => z.elim
  | _, _, .tup h k, ⟨n + 1, z⟩ => .tup (seqT_but ha b h) (dpAll_but ha b k fun d hd => ⟨n, z d hd⟩)
theorem dpAll_but {K : PySem.W.Frag} {H H' : Hp} {a : Addr} {xs : List V} (ha : H a = some (.lst xs)) (b : But a H H') : ∀ {vs : List V} {ds : List PyData}, DpAll K H vs ds → (∀ d ∈ ds, ∃ n, Pn n d) → DpAll K H' vs ds
  | _, _, .nil, _ => .nil
  | _, _, .cons h k, z => .cons (dp_but ha b h (z _ (List.mem_cons_self ..))) (dpAll_but ha b k fun d hd => z d (List.mem_cons_of_mem _ hd))
end
theorem dpAll_snoc {K : PySem.W.Frag} {H : Hp} : ∀ {vs : List V} {ds : List PyData} {v : V} {d : PyData}, DpAll K H vs ds → Dp K H v d → DpAll K H (vs ++ [v]) (ds ++ [d])
  | _, _, _, _, .nil, h => .cons h .nil
  | _, _, _, _, .cons k r, h => .cons k (dpAll_snoc r h)
theorem dpAll_len {K : PySem.W.Frag} {H : Hp} : ∀ {vs : List V} {ds : List PyData}, DpAll K H vs ds → vs.length = ds.length
  | _, _, .nil => rfl
  | _, _, .cons _ r => congrArg (· + 1) (dpAll_len r)
theorem pn_L (L : List Int) : Pn 1 (dL L) := fun d hd => by
  obtain ⟨i, _, rfl⟩ := List.mem_map.mp hd
  trivial
theorem pn_P (p : Pg) : Pn 2 (dP p) := fun d hd => by
  rcases List.mem_cons.mp hd with h | h
  · rw [h]; exact pn_L p.1
  · rw [List.mem_singleton.mp h]; trivial
theorem pn_oL : ∀ o : Option (List Int), Pn 1 (oD dL o)
  | none => trivial
  | some L => pn_L L
theorem pn_oP : ∀ o : Option Pg, Pn 2 (oD dP o)
  | none => trivial
  | some p => pn_P p
theorem lay_pn : ∀ (n : Nat) (d : PyData), Pn n d → d.canLay0 = true ∧ d.depth ≤ n
  | _, .none, _ => ⟨rfl, Nat.zero_le _⟩
  | _, .int _, _ => ⟨rfl, Nat.zero_le _⟩
  | 0, .tuple ds, h => h.elim
  | n + 1, .tuple ds, h => by
    have key : ∀ es : List PyData, (∀ d ∈ es, Pn n d) → PyData.canLayAll0 es = true ∧ PyData.depthAll es ≤ n := by
      intro es
      induction es with
      | nil => exact fun _ => ⟨rfl, Nat.zero_le _⟩
      | cons d r ih =>
        intro hh
        have h1 := lay_pn n d (hh d (List.mem_cons_self ..))
        have h2 := ih fun e he => hh e (List.mem_cons_of_mem _ he)
        refine ⟨?_, ?_⟩
        · show (d.canLay0 && PyData.canLayAll0 r) = true
          rw [h1.1, h2.1]
          rfl
        · show max d.depth (PyData.depthAll r) ≤ n
          omega
    have := key ds h
    exact ⟨this.1, Nat.succ_le_succ this.2⟩
  | _, .bool _, h => by simp [Pn] at h
  | _, .str _, h => by simp [Pn] at h
  | _, .list _, h => by simp [Pn] at h
  | _, .dict _, h => by simp [Pn] at h
theorem shaped_pn {n : Nat} {d : PyData} (h : Pn n d) (hn : n ≤ 64) : SeqAt.shaped d = true := by
  have := lay_pn n d h
  unfold SeqAt.shaped
  rw [Bool.and_eq_true]
  exact ⟨this.1, decide_eq_true (by omega)⟩
theorem shaped_pnl {n : Nat} {ds : List PyData} (h : ∀ d ∈ ds, Pn n d) (hn : n ≤ 63) : SeqAt.shaped (.list ds) = true := by
  have := lay_pn (n + 1) (.tuple ds) h
  unfold SeqAt.shaped
  rw [Bool.and_eq_true]
  exact ⟨this.1, decide_eq_true (by have := this.2; show PyData.depthAll ds + 1 ≤ 64; have e : (PyData.tuple ds).depth = PyData.depthAll ds + 1 := rfl; omega)⟩
theorem none_in (os : List (Option Pg)) : ((os.map (oD dP)).any fun z => PyData.eqv z .none) = os.any (·.isNone) := by
  induction os with
  | nil => rfl
  | cons o r ih =>
    rw [List.map_cons, List.any_cons, List.any_cons, ih]
    cases o <;> rfl
theorem cut_end (z : Str) : (z.cps.toList = [] ∧ cutS z (some (-1)) none = Str.empty) ∨ ∃ c, z.cps.toList.getLast? = some c ∧ cutS z (some (-1)) none = ⟨#[c]⟩ := by
  cases e : z.cps.toList.getLast? with
  | none =>
    have h := List.getLast?_eq_none_iff.mp e
    refine .inl ⟨h, ?_⟩
    unfold cutS
    rw [h]
    simp [Str.empty]
  | some c =>
    refine .inr ⟨c, rfl, ?_⟩
    obtain ⟨l, hl⟩ := List.getLast?_eq_some_iff.mp e
    unfold cutS
    have hz : z.length = l.length + 1 := by
      show z.cps.toList.length = _
      rw [hl, List.length_append]
      rfl
    rw [hz, HT.sIx_none, show HT.sIx (l.length + 1) 0 (some (-1)) = l.length by
      show ((-1 : Int) + ((l.length + 1 : Nat) : Int)).toNat = l.length
      omega, hl, List.drop_left' rfl]
    rw [show l.length + 1 - l.length = 1 by omega]
    rfl
theorem ab_in (y : Str) : inV (.str y) [.str "a", .str "b"] = decide (y = ⟨#[97]⟩ ∨ y = ⟨#[98]⟩) := by
  show ((("a" : Str) == y) || ((("b" : Str) == y) || false)) = _
  have ea : ("a" : Str) = ⟨#[97]⟩ := rfl
  have eb : ("b" : Str) = ⟨#[98]⟩ := rfl
  rw [ea, eb, Bool.or_false]
  by_cases h1 : y = ⟨#[97]⟩
  · subst h1; simp
  · by_cases h2 : y = ⟨#[98]⟩
    · subst h2; simp
    · have h1' : ¬ (⟨#[97]⟩ : Str) = y := fun e => h1 e.symm
      have h2' : ¬ (⟨#[98]⟩ : Str) = y := fun e => h2 e.symm
      simp [h1, h2, h1', h2']
theorem one_inj {a b : Nat} (h : (⟨#[a]⟩ : Str) = ⟨#[b]⟩) : a = b := by
  injection h with h
  exact (List.cons.inj (congrArg Array.toList h)).1
theorem eqv_dP (p q : Pg) : PyData.eqv (dP p) (dP q) = decide (p = q) := by
  show (PyData.eqvAll (p.1.map PyData.int) (q.1.map PyData.int) && ((p.2 == q.2) && true)) = _
  rw [eqv_ints, Bool.and_true]
  obtain ⟨a, b⟩ := p
  obtain ⟨c, d⟩ := q
  by_cases h1 : a = c
  · by_cases h2 : b = d
    · subst h1; subst h2; simp
    · simp [h1, h2]
  · simp [h1]
theorem allSome_none {os : List (Option Int)} (h : none ∈ os) : allSome os = none := by
  induction os with
  | nil => cases h
  | cons o r ih =>
    rcases o with _ | i
    · rfl
    · have h2 : none ∈ r := (List.mem_cons.mp h).resolve_left (by simp)
      unfold allSome
      rw [ih h2]
theorem keep_none {os : List (Option Int)} (h : none ∈ os) : keep os = none := by
  unfold keep
  rw [allSome_none h]
theorem keep_map (L : List Int) : keep (L.map some) = if L.length ≤ 3 ∧ L.getLastD 0 ≠ 0 then some L else none := by
  unfold keep
  rw [allSome_map]
/-! ### data that was laid since -/
mutual
inductive Fd (H0 H : Hp) : V → PyData → Prop
  | int (i : Int) : Fd H0 H (.int i) (.int i)
  | lst {a : Addr} {vs : List V} {ds : List PyData} (h : H a = some (.lst vs)) (n : H0 a = none) (r : FdAll H0 H vs ds) : Fd H0 H (.ref a) (.list ds)
inductive FdAll (H0 H : Hp) : List V → List PyData → Prop
  | nil : FdAll H0 H [] []
  | cons {v : V} {vs : List V} {d : PyData} {ds : List PyData} (h : Fd H0 H v d) (r : FdAll H0 H vs ds) : FdAll H0 H (v :: vs) (d :: ds)
end
mutual
theorem fd_to {H0 H H0' H' : Hp} (hm : ∀ a o, H0 a = none → H a = some o → H0' a = none ∧ H' a = some o) : ∀ {v : V} {d : PyData}, Fd H0 H v d → Fd H0' H' v d
  | _, _, .int i => .int i
  | _, _, .lst h n r => .lst (hm _ _ n h).2 (hm _ _ n h).1 (fdAll_to hm r)
theorem fdAll_to {H0 H H0' H' : Hp} (hm : ∀ a o, H0 a = none → H a = some o → H0' a = none ∧ H' a = some o) : ∀ {vs : List V} {ds : List PyData}, FdAll H0 H vs ds → FdAll H0' H' vs ds
  | _, _, .nil => .nil
  | _, _, .cons h r => .cons (fd_to hm h) (fdAll_to hm r)
end
mutual
theorem fd_dp {K : PySem.W.Frag} {H0 H : Hp} : ∀ {v : V} {d : PyData}, Fd H0 H v d → Dp K H v d
  | _, _, .int i => .int i
  | _, _, .lst h _ r => .lst (.inl (.inl h)) (fdAll_dp r)
theorem fdAll_dp {K : PySem.W.Frag} {H0 H : Hp} : ∀ {vs : List V} {ds : List PyData}, FdAll H0 H vs ds → DpAll K H vs ds
  | _, _, .nil => .nil
  | _, _, .cons h r => .cons (fd_dp h) (fdAll_dp r)
end
theorem fdAll_snoc {H0 H : Hp} : ∀ {vs : List V} {ds : List PyData} {v : V} {d : PyData}, FdAll H0 H vs ds → Fd H0 H v d → FdAll H0 H (vs ++ [v]) (ds ++ [d])
  | _, _, _, _, .nil, h => .cons h .nil
  | _, _, _, _, .cons k r, h => .cons k (fdAll_snoc r h)
theorem fdAll_len {H0 H : Hp} : ∀ {vs : List V} {ds : List PyData}, FdAll H0 H vs ds → vs.length = ds.length
  | _, _, .nil => rfl
  | _, _, .cons _ r => congrArg (· + 1) (fdAll_len r)
theorem fdAll_same {H0 H H' : Hp} (s : Same H H') {vs : List V} {ds : List PyData} (h : FdAll H0 H vs ds) : FdAll H0 H' vs ds := fdAll_to (fun a o n e => ⟨n, s a o e⟩) h
theorem dpAll_get {K : PySem.W.Frag} {H : Hp} : ∀ {vs : List V} {ds : List PyData} {i : Nat} {v : V}, DpAll K H vs ds → vs[i]? = some v → ∃ d, ds[i]? = some d ∧ Dp K H v d
  | _, _, _, _, .nil, e => nomatch e
  | _, _, 0, _, .cons h r, e => by
    injection e with e
    subst e
    exact ⟨_, rfl, h⟩
  | _, _, i + 1, _, .cons h r, e => by
    obtain ⟨d, e1, e2⟩ := dpAll_get (i := i) r e
    exact ⟨d, e1, e2⟩
theorem dpAll_get2 {K : PySem.W.Frag} {H : Hp} {vs : List V} {ds : List PyData} {i : Nat} {d : PyData} (h : DpAll K H vs ds) (e : ds[i]? = some d) : ∃ v, vs[i]? = some v ∧ Dp K H v d := by
  have hi := (List.getElem?_eq_some_iff.mp e).1
  rw [← dpAll_len h] at hi
  have e1 := List.getElem?_eq_getElem hi
  obtain ⟨d', e2, e3⟩ := dpAll_get h e1
  rw [e] at e2
  injection e2 with e2
  subst e2
  exact ⟨_, e1, e3⟩
theorem ixN_end (R : List Int) (x : Int) : ixN ((R ++ [x]).map V.int).length (-1) = some R.length := by
  unfold ixN
  rw [List.length_map, List.length_append, List.length_singleton, if_neg (by decide), if_pos (by omega)]
  congr 1
  omega
theorem set_end (R : List Int) (x v : Int) : ((R ++ [x]).map V.int).set R.length (.int v) = (R ++ [v]).map V.int := by
  rw [List.map_append, List.map_append, List.set_append_right _ _ (by rw [List.length_map]; exact Nat.le_refl _), List.length_map, Nat.sub_self]
  rfl
theorem at_end (R : List Int) (x : Int) : atI ((R ++ [x]).map V.int) (-1) = some (.int x) := by
  rw [List.map_append]
  exact atI_last _ _
/-- a page that was laid apart from a -/
def PT (a : Addr) (H : Hp) (o : Addr) (p : Pg) : Prop := ∃ l, l ≠ a ∧ o ≠ a ∧ H o = some (.tup [.ref l, .int p.2]) ∧ H l = some (.tup (p.1.map V.int))
theorem PT.but {a o : Addr} {H H' : Hp} {p : Pg} (h : PT a H o p) (b : But a H H') : PT a H' o p := by
  obtain ⟨l, h1, h2, h3, h4⟩ := h
  exact ⟨l, h1, h2, b _ _ h2 h3, b _ _ h1 h4⟩
theorem PT.dp {K : PySem.W.Frag} {a o : Addr} {H : Hp} {p : Pg} (h : PT a H o p) : Dp K H (.ref o) (dP p) := by
  obtain ⟨l, h1, h2, h3, h4⟩ := h
  exact .tup (.inl (.inl h3)) (.cons (dpL (.inl (.inl h4))) (.cons (.int _) .nil))
theorem cut_to (z : Str) (k : Int) (h0 : 0 ≤ k) (h1 : k ≤ (z.length : Int)) : (cutS z none (some k)).length = k.toNat := by
  obtain ⟨n, rfl⟩ := Int.eq_ofNat_of_zero_le h0
  show (((z.cps.toList.drop 0).take (HT.sIx z.length z.length (some (n : Int)) - 0)).toArray).size = _
  rw [HT.sIx_nat, List.size_toArray, List.length_take, List.drop_zero, Array.length_toList]
  show min (min n z.length - 0) z.length = _
  omega
theorem cut_from (z : Str) (k : Int) (h0 : 0 ≤ k) : (cutS z (some k) none).length = z.length - k.toNat := by
  obtain ⟨n, rfl⟩ := Int.eq_ofNat_of_zero_le h0
  show (((z.cps.toList.drop (HT.sIx z.length 0 (some (n : Int)))).take (z.length - HT.sIx z.length 0 (some (n : Int)))).toArray).size = _
  rw [HT.sIx_nat, List.size_toArray, List.length_take, List.length_drop, Array.length_toList]
  show min (z.length - min n z.length) (z.length - min n z.length) = _
  omega
theorem at_some {α : Type} (xs : List α) (k : Int) (h0 : 0 ≤ k) (h1 : k < (xs.length : Int)) : ∃ c, atI xs k = some c := by
  obtain ⟨n, rfl⟩ := Int.eq_ofNat_of_zero_le h0
  exact ⟨_, atI_nat (List.getElem?_eq_getElem (show n < xs.length by omega))⟩
/-! ### a def that is called where no object is being shown: its promise may count on that (repr) -/
structure GnOk (P : Program) (w : World) (K : PySem.W.Frag) (mg : Str → Option Value) (base : Heap) (CX : CXT) (k : Nat) (f : Addr) (fd : FuncData) (ps : List Str) (sp : Sp) : Prop where
  size : ∀ vs H Q E, sp vs H Q E → vs.length = ps.length
  go : ∀ (A : Around) (outer : List Env) (s : Shared) (H : Hp) (args : Args) (us : List Value) (vs : List V) (Q : VK) (E : XK), Room k A → A.guards = some [] → Env0 P w K mg base A outer s H →
    BindsTo s fd args (ps.zip us) → Vals vs us → sp vs H Q E → codeAny (model P w) A (.call (.ref f) args) (CR CX outer P w H s Q E) s
section
variable {P : Program} {w : World} {K : PySem.W.Frag} {mg : Str → Option Value} {base : Heap}
theorem ce_of {X : Cx} {Q : VK} {σ : L2.St} {H H1 : Hp} {s s1 : Shared} {v : V} {u : Value} (J : Inv X [] σ H1 s1) (r : RelV v u) (q : Q v H1) (e1 : s1.os = s.os) (e2 : Un (frs X.outer) [] H H1 s.heap s1.heap) :
    CE X.outer X.prog X.w H s Q u s1 := ⟨v, H1, e1, J.bare, e2, J.hok, r, q⟩
theorem gn_of {CX : CXT} {k : Nat} {x qual : Str} {st : Stmt} {f : Addr} {fd : FuncData} {N ps : List Str} {sp : Sp} (F : Fun K x qual st f fd) (S : FnScope N ps (defScope st)) (len : ∀ vs H Q E, sp vs H Q E → vs.length = ps.length)
    (body : ∀ (cdv : Value) (A : Around) (outer : List Env) (s : Shared) (H : Hp) (vs : List V) (Q : VK) (E : XK), Room k (A.deeper (envOfC qual (defScope st) s.heap.objs.size f cdv)) → A.guards = some [] → sp vs H Q E →
      ∃ t, PSs (cxOf CX P w K mg base N qual (defScope st) f cdv A outer s H E) (defBody st) t ∧ t { nx := fun _ H' => Q .non H', rt := Q } (start N vs) H) : GnOk P w K mg base CX (k + 1) f fd ps sp := by
  obtain ⟨oc, od, kV, doc, pm, an, cdv, ct, osl, rfl, lk, hcd⟩ := F.ex
  constructor
  · exact len
  intro A outer s H args us vs Q E hr hg env0 bind rel hsp
  have up := env0.bs
  have KX : K.In s.heap := env0.mod.kin.keeps (fun b o e => (up b o e).1)
  refine codeAny_call_function (hroom := hr.depth) (KX _ _ lk) rfl S.co S.gen rfl (PySem.W.codeRec_of KX hcd) (bind _ _ _ _ ?_)
  have kinds : ∀ y ∈ ps.zip us, (defScope st).names.lookup y.1 = some .local ∨
      ((defScope st).names.lookup y.1 = some .cell ∧ ((cellsFrom (s.heap.objs.size + 1) (defScope st).names []).lookup y.1).isSome = true) := by
    rintro ⟨n, v⟩ hy
    exact (S.par n (List.of_mem_zip hy).1).elim .inl (fun q => .inr ⟨q, PySem.W.cellsFrom_some _ _ _ (.inl q)⟩)
  refine wpAny_newFunctionEnv_cells S.kind kinds (fun env he s1 fresh => ?_)
  subst he
  refine ⟨(env0.mod.nolimit.keeps (fun b o e => (up b o e).1)).keeps fresh.toInCall.keep, codeAny_func ?_⟩
  obtain ⟨t, walk, want⟩ := body cdv A outer s H vs Q E (hr.deeper _) hg hsp
  have J := inv_start (CX := CX) (E := E) S hr.hd env0 (len _ _ _ _ hsp) rel fresh
  refine wpAny_mono (walk.run [] s1 (start N vs) H _ J want) ?_ (fun _ _ z => z)
  rintro (_ | _ | _ | u) s2 h
  · obtain ⟨σ2, H2, J2, q⟩ := h
    exact ⟨.non, H2, J2.os, J2.bare, J2.base, J2.hok, rfl, q⟩
  · obtain ⟨_, _, _, q⟩ := h
    exact q.elim
  · obtain ⟨_, _, _, q⟩ := h
    exact q.elim
  · obtain ⟨v, σ2, H2, J2, r, q⟩ := h
    exact ⟨v, H2, J2.os, J2.bare, J2.base, J2.hok, r, q⟩
end
section
variable {X : Cx} {CX : CXT} {k : Nat} {f : Addr} {fd : FuncData} {ps : List Str} {sp : Sp} {E : XK} {x : Str} {p pos : Pos} {e : Expr} {es : List Expr} {t : TA}
/-- such a def is called by its name -/
theorem pe_callG (F : GnOk X.prog X.w X.K X.mg X.base CX k f fd ps sp) (hr : Room k X.A) (hg : X.A.guards = some []) (gl : Gl X x) (hm : X.mg x = some (.ref f)) (hk : PySem.W.keepIn X.K (.ref f) = true) (hb : Binds X.K fd ps []) (hx : Passes CX X E)
    (ha : PA X (e :: es) t) (hdb : (x == ("__debug__" : Str)) = false := by decide) (he : starEach (e :: es) X.env = (false, eval e X.env) :: starEach es X.env := by rfl) (hpl : (backTo pos (starEach es X.env)).any (·.1) = false := by rfl) :
    PE X (.Call (.Name x p) (e :: es) [] pos) (tCall sp [] E t) := by
  constructor
  intro pins s σ H Q I h
  refine wpAny_Call_Name_kw (ld_glob I gl hm ?_ hdb)
  refine PySem.W.callWith_K (h₀ := X.base) I.ok.mod.kin hk ?_ he hpl
  refine thn (ha.run pos pins s σ H _ I h) ?_
  rintro us s1 ⟨vs, H1, I1, rel, q⟩
  refine ⟨I1.kIn, ?_⟩
  have q : sp vs H1 Q E := by rw [List.append_nil] at q; exact q
  have bd := hb s1 us I1.kIn (by rw [List.append_nil, ← rel.length]; exact F.size _ _ _ _ q)
  rw [List.append_nil] at bd
  refine wpAny_call (codeAny_mono (F.go X.A X.stack s1 H1 _ us vs Q E hr hg I1.env0 bd rel q) ?_)
  rintro (er | fl) s2 h2
  · exact hx pins σ H1 s1 er s2 I1 h2
  · rcases fl with _ | _ | _ | u
    · exact h2.elim
    · exact h2.elim
    · exact h2.elim
    · exact I1.after h2
end
section
variable {P : Program} {w : World} {K : PySem.W.Frag} {mg mb : Str → Option Value} {CX : CXT} {k : Nat} {fa a : Addr} {fd : FuncData} {x : Str} {sp : Sp} {s₁ : Shared} {vs : List Value} {ns : List Int}
/-- what the top asks of the law's call -/
def Ended (s₁ : Shared) (r : Result) (s' : Shared) : Prop := r = .ok (.ret (.bool true)) ∧ OldK s₁.heap s'.heap ∧ s'.os = s₁.os ∧ AllBare s'.gens
theorem only_at {H : Hp} (hA : ∀ b, H b ≠ none → b = a) {b : Addr} {u : HO} (q : H b = some u) : b = a := hA b (fun z => by rw [q] at z; cases z)
theorem go_with {H : Hp} (KX : K.In s₁.heap) (hns : s₁.heap.Ns mainGlobals mg) (hb : s₁.heap.Ns builtinsNs mb) (hbb : ∀ x : Str, x ≠ "__name__" → mb x = bootBuiltins x) (hlim : s₁.heap.NoLimit) (hg : s₁.gens = #[])
    (ha : s₁.heap.get? a = some { cls := .type "list", data := .seq vs.toArray }) (hr : Room k callerA) (F : ∀ base : Heap, K.In base → base.Ns mainGlobals mg → GnOk P w K mg base CX k fa fd [x] sp)
    (hbind : ∀ (s : Shared) (u : Value), BindsTo s fd ⟨[u], []⟩ [(x, u)]) (hO : Only H) (hok : HOk P w H s₁.heap) (hA : ∀ b, H b ≠ none → b = a) (hK : H a ≠ none → K.lookup a = none)
    (hsp : sp [.ref a] H (fun v _ => v = .bl true) fun _ _ _ => False) (hCX : ∀ e s', CX [] H s₁ (fun _ _ _ => False) e s' → False) : codeAny (model P w) callerA (.call (.ref fa) ⟨[.ref a], []⟩) (Ended s₁) s₁ := by
  -- a dict, and what is written, is not the script: it stands in the rest too
  have dicts : ∀ {b : Addr} {m : Str → Option Value}, s₁.heap.Ns b m → (hidT s₁.heap H).Ns b m := by
    rintro b m ⟨o, es, ep, e, d, r⟩
    refine ⟨o, es, ep, hidT_get e ?_, d, r⟩
    cases q : H b with
    | none => rfl
    | some u =>
      have z := only_at hA q
      rw [z, ha] at e
      cases e
      have d2 : Data.seq vs.toArray _ = Data.dict es ep := d
      cases d2
  have written : K.In (hidT s₁.heap H) := by
    intro b o e
    refine hidT_get (KX b o e) ?_
    cases q : H b with
    | none => rfl
    | some u =>
      have z := only_at hA q
      subst z
      rw [hK (fun z => by rw [q] at z; cases z)] at e
      cases e
  obtain ⟨mc, l1, l2⟩ := hlim
  have M : Mod K mg (hidT s₁.heap H) := ⟨written, dicts hns, ⟨mb, dicts hb, hbb⟩, ⟨mc, dicts l1, l2⟩⟩
  have env0 : Env0 P w K mg (hidT s₁.heap H) callerA [] s₁ H := { frames := rfl, mod := M, bs := fun b o e => of_hidT e, bsz := Nat.le_of_eq (hidT_size _ _), funs := trivial, frf := (fun b z => by cases z), hok := hok, bare := .of_eq hg }
  have run := (F _ written (dicts hns)).go callerA [] s₁ H ⟨[.ref a], []⟩ [.ref a] [.ref a] _ _ hr rfl env0 (hbind s₁ (.ref a)) (.cons rfl .nil) hsp
  refine codeAny_mono run ?_
  rintro (e | _ | _ | _ | u) s' h
  · exact (hCX e s' h).elim
  · exact h.elim
  · exact h.elim
  · exact h.elim
  obtain ⟨v, H', os, bare, un, hok', r', q⟩ := h
  obtain rfl : v = .bl true := q
  obtain rfl : u = Value.bool true := r'
  refine ⟨rfl, OldK.of_keep ?_, os, bare⟩
  intro b o e
  cases q : H b with
  | none => exact un.keep b o e q (fun z => by cases z) (fun z => by cases z)
  | some u =>
    rcases hO b with z | ⟨ob, xs, z⟩
    · rw [q] at z
      cases z
    · obtain ⟨e1, _⟩ := hok b _ z
      obtain ⟨e2, _⟩ := hok' b _ (un.frzs b ob _ z)
      rw [e] at e1
      cases e1
      exact e2
/-- the script alone is tracked -/
def script (a : Addr) (vs : List Value) (ns : List Int) : Hp := fun b => if b = a then some (.frz { cls := .type "list", data := .seq vs.toArray } (.lst (ns.map V.int))) else Option.none
theorem script_at : script a vs ns a = some (.frz { cls := .type "list", data := .seq vs.toArray } (.lst (ns.map V.int))) := if_pos rfl
theorem script_ne {b : Addr} (h : b ≠ a) : script a vs ns b = Option.none := if_neg h
theorem law_goG (KX : K.In s₁.heap) (hns : s₁.heap.Ns mainGlobals mg) (hb : s₁.heap.Ns builtinsNs mb) (hbb : ∀ x : Str, x ≠ "__name__" → mb x = bootBuiltins x) (hlim : s₁.heap.NoLimit) (hg : s₁.gens = #[])
    (ha : s₁.heap.get? a = some { cls := .type "list", data := .seq vs.toArray }) (hi : IntsAre vs ns) (hl : ns.length ≤ sizeLine) (hr : Room k callerA) (F : ∀ base : Heap, K.In base → base.Ns mainGlobals mg → GnOk P w K mg base CX k fa fd [x] sp)
    (hbind : ∀ (s : Shared) (u : Value), BindsTo s fd ⟨[u], []⟩ [(x, u)]) (hsp : ∀ H : Hp, Only H → SqL K H a (ns.map V.int) → sp [.ref a] H (fun v _ => v = .bl true) fun _ _ _ => False)
    (hCX : ∀ H e s', CX [] H s₁ (fun _ _ _ => False) e s' → False) : codeAny (model P w) callerA (.call (.ref fa) ⟨[.ref a], []⟩) (Ended s₁) s₁ := by
  have rv := vals_ints hi
  cases hk : K.lookup a with
  | some o =>
    have e := (KX a o hk).symm.trans ha
    cases e
    have hO : Only (fun _ => Option.none) := fun _ => .inl rfl
    have hS : SqL K (fun _ => Option.none) a (ns.map V.int) := .inr ⟨_, vs.toArray, _, hk, rfl, rfl, rfl, by rw [List.size_toArray, hi.length]; exact hl, by simpa using rv⟩
    exact go_with KX hns hb hbb hlim hg ha hr F hbind hO (fun b u z => by have z' : (Option.none : Option HO) = some u := z; cases z') (fun b z => absurd rfl z) (fun z => absurd rfl z) (hsp _ hO hS) (hCX _)
  | none =>
    have hO : Only (script a vs ns) := fun b => by
      by_cases q : b = a
      · subst q
        exact .inr ⟨_, _, script_at⟩
      · exact .inl (script_ne q)
    refine go_with KX hns hb hbb hlim hg ha hr F hbind hO ?_ ?_ (fun _ => hk) (hsp _ hO (.inl (.inr ⟨_, script_at⟩))) (hCX _)
    · intro b u z
      by_cases q : b = a
      · subst q
        rw [script_at] at z
        cases z
        exact ⟨ha, by rw [List.length_map]; exact hl, vs, _, rv, ha⟩
      · rw [script_ne q] at z
        cases z
    · intro b z
      by_cases q : b = a
      · exact q
      · exact absurd (script_ne q) z
end
/-- the goal behind k_head, for a law whose def counts on it -/
theorem walk_ofG {l : PySem.W.OpenLaw} {n k : Nat} {q : Program} {loose : List Str} {XP : (Str → Option Value) → Heap → Prop} {YP : World → Heap → Prop} {d : DefRec} {K : Params → PySem.W.Frag} {CX : World → CXT} {sp : World → Sp} {x : Str}
    (hn : l.most = some n) (hn2 : n ≤ sizeLine) (hdf : d.params.defaults = []) (hr : Room k callerA) (hY : ∀ (w : World) (h : Heap), YP w h → (K w.params).In h)
    (F : ∀ (w : World) (mg : Str → Option Value) (fa : Addr) (h : Heap), (K w.params).In h → h.Ns mainGlobals mg → mg d.name = some (.ref fa) → ∃ fd : FuncData, (∀ (s : Shared) (u : Value), BindsTo s fd ⟨[u], []⟩ [(x, u)]) ∧
      ∀ base : Heap, (K w.params).In base → base.Ns mainGlobals mg → GnOk l.prog w (K w.params) mg base (CX w) k fa fd [x] (sp w))
    (hsp : ∀ (w : World) (H : Hp) (a : Addr) (ns : List Int), ns.length ≤ n → Only H → SqL (K w.params) H a (ns.map V.int) → sp w [.ref a] H (fun v _ => v = .bl true) fun _ _ _ => False)
    (hCX : ∀ (w : World) (H : Hp) (s : Shared) (e : Value) (s' : Shared), CX w [] H s (fun _ _ _ => False) e s' → False) : PySem.W.WalkO q loose XP YP l.row.toRowW d [] (fun f vs => PySem.call f vs) := by
  refine Att.attach_call hn hdf ?_
  intro w s₀ s₁ mg mb fa o pm cd doc a vs ns G Y ho hd hcd hmg hobj hints hlen hg
  obtain ⟨fd, hb, hF⟩ := F w mg fa _ (hY w _ Y) G.T.g hmg
  exact law_goG (hY w _ Y) G.T.g G.T.b G.T.builtins G.T.nolimit hg hobj hints (Nat.le_trans hlen hn2) hr hF hb (fun H h1 h2 => hsp w H a ns hlen h1 h2) (fun H e s' => hCX w H s₁ e s')
/-- for a def that nothing leaves -/
theorem gn_ok {P : Program} {w : World} {K : PySem.W.Frag} {mg : Str → Option Value} {base : Heap} {k : Nat} {x qual : Str} {st : Stmt} {f : Addr} {fd : FuncData} {N ps : List Str} {sp : Sp} (F : Fun K x qual st f fd) (S : FnScope N ps (defScope st))
    (len : ∀ vs H Q E, sp vs H Q E → vs.length = ps.length) (body : ∀ (cdv : Value) (A : Around) (outer : List Env) (s : Shared) (H : Hp) (vs : List V) (Q : VK) (E : XK), Room k (A.deeper (envOfC qual (defScope st) s.heap.objs.size f cdv)) → A.guards = some [] → sp vs H Q E →
      ∃ t, PSs (cxOf CX0 P w K mg base N qual (defScope st) f cdv A outer s H E).nox (defBody st) t ∧ t { nx := fun _ H' => Q .non H', rt := Q } (start N vs) H) : GnOk P w K mg base CX0 (k + 1) f fd ps sp :=
  gn_of F S len (fun cdv A outer s H vs Q E hr hg h => (body cdv A outer s H vs Q E hr hg h).elim fun t z => ⟨t, z.1.nox, z.2⟩)
theorem un20 {k : Nat} {A : Around} (r : Room k A) : A.units + 20 < cLine := by have := r.un; omega
/-! ### repr of data, where no object is being shown -/
def rReprD (K : PySem.W.Frag) : List V → Hp → VK → Prop := fun xs H Q => ∃ (v : V) (d : PyData), xs = [v] ∧ Dp K H v d ∧ d.showable = true ∧ d.hasDict = false ∧ d.depth ≤ 8 ∧ d.shown.length ≤ sizeLine ∧ Q (.str d.shown) H
theorem call_reprD {X : Cx} (hg : X.A.guards = some []) (hu : X.A.units + 20 < cLine) : CallR X (.builtin "repr") (rReprD X.K) := by
  intro pins s σ H xs us Q I r h
  obtain ⟨v, d, rfl, hd, h1, h2, h3, h4, q⟩ := h
  obtain ⟨u, rfl, ru⟩ := vals1 r
  obtain ⟨as, R⟩ := Dp.reads I d v u hd ru
  cases v with
  | ref a =>
    obtain rfl : u = Value.ref a := ru
    refine repr_of_reads' R h1 (fun z => by rw [h2] at z; cases z) hg (by omega) (fun _ _ z => z) (fun h' u tk hk => ?_) h4
    exact ⟨.str _, H, I.kept (t' := tk) hk, ⟨_, rfl⟩, q⟩
  | non =>
    cases hd
    cases ru
    exact PySem.P.repr_of_none ⟨.str _, H, I.tok _, ⟨_, rfl⟩, q⟩
  | bl b =>
    cases hd
    cases ru
    exact PySem.P.repr_of_bool ⟨.str _, H, I.tok _, ⟨_, rfl⟩, q⟩
  | int i =>
    cases hd
    obtain ⟨t, rfl⟩ := ru
    have hz : i.natAbs.log2 < 1920 := of_decide_eq_true h1
    exact PySem.P.repr_of_int hz ⟨.str _, H, I.tok _, ⟨_, rfl⟩, q⟩
  | str z =>
    cases hd
    obtain ⟨t, rfl⟩ := ru
    exact PySem.P.repr_of_str ⟨.str _, H, I.tok _, ⟨_, rfl⟩, q⟩ h4
  | _ => cases hd
theorem call_reprS {X : Cx} {a : Addr} {oe : Obj} {pn : List (Addr × Obj)} (hg : X.A.guards = some []) (hu : X.A.units + 20 < cLine) : CallR (X.suite a ((a, oe) :: pn)) (.builtin "repr") (rReprD X.K) := call_reprD (X := X.suite a ((a, oe) :: pn)) hg hu
/-! ### own errors: made with nothing, asked for their classes -/
section
variable {X : Cx} {C : Addr} {bmB : List Value} {B newId initId : String}
/-- X() -/
theorem pmk_own0 {x : Str} {p pos : Pos} (F : ExcBaseFacts B newId initId bmB) (q : PySem.W.excIn X.K C bmB newId = true) (gC : X.mg x = some (.ref C)) (kC : PySem.W.keepIn X.K (.ref C) = true) (r : Raises X (.ref C)) (hg : Gl X x)
    (hdb : (x == ("__debug__" : Str)) = false := by decide) : PMk X (.Call (.Name x p) [] [] pos) (fun _ H Q => Q (.ref C) none H) := by
  intro pins s σ H Q I h
  refine wpAny_Call_Name_kw (ld_glob I hg gC ?_ hdb)
  refine PySem.W.callWith_K0 I.kIn kC ?_
  obtain ⟨bm, N, nm, qn, bs, hdct, sn, sub, ab, col, dd, k0, k1, k2, k3, k5, mN, hC, hN, hni, T⟩ := exc_obj I.kIn q
  obtain ⟨hp, g, dr, tk, os⟩ := s
  refine wpAny_call_exc_subT F T hC hN hni ?_ (by decide)
  exact fun h' e hm => mk_of I hm r h (I.hok.gone hm.new)
end
/-- isinstance(e, c), e the error that the suite holds, with a dict of its own or without -/
def rIsX (K : PySem.W.Frag) (cls : Value) (a : Addr) (d : Option Addr) : List V → Hp → VK → Prop := fun xs H Q => ∃ (D : Addr) (c : V) (cv : Value) (b : Bool), xs = [.ref a, c] ∧ cls = .ref D ∧ ExcC K D ∧ (∀ u, RelV c u → u = cv) ∧
  (d = Option.none ∨ ∃ dd fs, d = some dd ∧ H dd = some (.xd fs)) ∧ PySem.W.kitOne K (.ref D) cv = some b ∧ Q (.bl b) H
theorem call_isX {X : Cx} {a : Addr} {cls : Value} {d : Option Addr} {oe : Obj} {pn : List (Addr × Obj)} (hz : Zc cls d oe) (hf : ∃ vs, oe.data = .fields vs) : CallR (X.suite a ((a, oe) :: pn)) (.builtin "isinstance") (rIsX X.K cls a d) := by
  intro pins s σ H xs us Q I r h
  obtain ⟨D, c, cv, b, rfl, rfl, C, hcv, hd, e, q⟩ := h
  obtain ⟨u1, u2, rfl, r1, r2⟩ := vals2 r
  obtain rfl : u1 = Value.ref a := r1
  obtain rfl := hcv _ r2
  obtain ⟨at_, _⟩ := I.pin (a, oe) (List.mem_append_left _ List.mem_cons_self)
  obtain ⟨vs, hv⟩ := hf
  have fin : ∀ {od : Option Obj}, PySem.W.InstAt s.heap a oe D od → wpAny (model X.prog X.w) (X.suite a ((a, oe) :: pn)).A (call (.builtin "isinstance") [.ref a, u2]) (EP (X.suite a ((a, oe) :: pn)) pins σ Q) (X.suite a ((a, oe) :: pn)).xe s := fun J =>
    PySem.W.kia_one (PySem.W.kitx_exc (PySem.W.any_some C.hd |>.elim fun _ z => by rw [z.1]; rfl) C.hg C.hk C.hs C.ha C.hn C.ht C.hm) I.kIn J e (fun z => nomatch z) fun tk => ⟨.bl b, H, I.kept (t' := tk) (fun _ _ z => z), rfl, q⟩
  have nc : PySem.W.notCls oe = true := by
    unfold PySem.W.notCls
    rw [hv] <;> rfl
  rcases hd with rfl | ⟨dd, fs, rfl, hdd⟩
  · exact fin (od := Option.none) ⟨at_, hz.1, nc, by rw [hz.2]; trivial⟩
  · obtain ⟨mA, hns, _⟩ := I.hok dd _ hdd
    obtain ⟨od, ho, _⟩ := lookIn_ns hns
    exact fin (od := some od) ⟨at_, hz.1, nc, by rw [hz.2]; exact ho⟩
theorem kit_ref {K : PySem.W.Frag} {D C : Addr} {b : Bool} (h1 : PySem.W.isClsIn K C = true) (h2 : PySem.W.typeIn K (.ref C) = some (.type "type")) (h3 : PySem.W.subIn K (.ref D) (.ref C) = some b) (h4 : D = C → b = true) : PySem.W.kitOne K (.ref D) (.ref C) = some b := by
  unfold PySem.W.kitOne
  by_cases q : (Value.ref D == Value.ref C) = true
  · rw [if_pos q, h4 (Value.ref.inj (beq_iff_eq.mp q))]
  · rw [if_neg q]
    unfold PySem.W.kitCls
    have h1' : (PySem.W.clsIn K C).isSome = true := h1
    simp only [h1', h2, beq_self_eq_true, Bool.and_self, if_true]
    exact h3
theorem kit_rty {K : PySem.W.Frag} {D : Addr} {T : String} {b : Bool} (h3 : PySem.W.subIn K (.ref D) (.type T) = some b) (h : PySem.W.kitMeta T = true) : PySem.W.kitOne K (.ref D) (.type T) = some b := by
  unfold PySem.W.kitOne
  rw [if_neg (by simp)]
  unfold PySem.W.kitCls
  simp only [h, if_true]
  exact h3
/-! ### xs[::-1], xs a list -/
section
variable {X : Cx} {e st : Expr} {te : TE} {tq : TO} {p2 pos : Pos}
def tRevL (K : PySem.W.Frag) (te : TE) (tq : TO) : TE := fun σ H Q => te σ H fun x H1 => tq σ H1 fun k H2 => ∃ a xs, k = some (-1) ∧ x = .ref a ∧ SqL K H2 a xs ∧ ∀ p, H2 p = none → Q (.ref p) (upd H2 p (.lst xs.reverse))
theorem pe_revL (he : PE X e te) (hk : PO X (some st) tq) : PE X (.Subscript e (.Slice none none (some st) p2) pos) (tRevL X.K te tq) := by
  constructor
  intro pins s σ H Q I h
  refine Subscript_ (thn (he.run pins s σ H _ I h) ?_)
  rintro v s1 ⟨x, H1, I1, r1, q1⟩
  refine wpAny_Slice ?_
  rw [evalPart_none]
  refine wpAny_pure ?_
  refine wpAny_pure (thn (hk.run pins s1 σ H1 _ I1 q1) ?_)
  rintro vk s2 ⟨k, H2, I2, pk, a, xs, rfl, rfl, hx, q⟩
  cases r1
  have J : Inv X pins σ H2 { s2 with heap := s2.heap.push { cls := .type "slice", data := .fields #[.none, .none, vk] } } := I2.kept (t' := s2.toks) (fun b ob q => Heap.get?_push_of_some _ q)
  obtain ⟨its, r, isl, hz⟩ := J.list hx
  have hlen := r.length
  have step : wpAny (model X.prog X.w) X.A (getItem (.ref a) (.ref s2.heap.objs.size)) (EP X pins σ Q) X.xe { s2 with heap := s2.heap.push { cls := .type "slice", data := .fields #[.none, .none, vk] } } := by
    refine wpAny_getItem_list_slice isl.isList (Heap.IsSliceOf.new ..) .none .none pk (by decide) ?_ (by rw [List.size_toArray]; omega)
    have er : slicePick its.toArray none none (some (-1)) = its.reverse.toArray := PySem.W.krv_pick its.toArray
    rw [er]
    refine ⟨.ref (s2.heap.push { cls := .type "slice", data := .fields #[.none, .none, vk] }).objs.size, _, J.laid (t' := s2.toks) (o := .lst xs.reverse) (fun b ob q => Heap.get?_push_of_some _ q) (Nat.le_refl _) ?_, rfl, q _ (J.hok.fresh (Nat.le_refl _))⟩
    exact ⟨by rw [List.length_reverse]; exact hz, _, 0, r.reverse, Heap.get?_push_size _ rfl⟩
  exact tail_any (ops := [.ref a, .ref s2.heap.objs.size]) isl.isList.typeIs slot_list_getitem.lookup step (by with_unfolding_all rfl)
end
theorem ix_listK {X : Cx} {K : PySem.W.Frag} (h : X.K = K) : IxR X (rIxL K) := h ▸ ix_list
theorem ix_tupK {X : Cx} {K : PySem.W.Frag} (h : X.K = K) : IxR X (rIxT K) := h ▸ ix_tup
/-! ### objects: == by an own __eq__, whatever stands at its right; objects made within a try -/
section
variable {X : Cx}
def rEqOwn (K : PySem.W.Frag) (C : Addr) (sp : Sp) : R2 := fun x y H Q => ∃ (a dx : Addr) (fs : List (Str × V)) (t : Value), x = .ref a ∧ H a = some (.ins C dx fs) ∧ TyX K H y t ∧ PySem.W.notFirst K C t = true ∧ sp [.ref a, y] H (fun v H' => (∃ b, v = .bl b) ∧ Q v H') E0
theorem op_eqOwn {C f : Addr} {fd : FuncData} {ps : List Str} {sp : Sp} {n : Nat} (F : FnOk X.prog X.w X.K X.mg X.base CX0 n f fd ps sp) (hs : PySem.W.findIn X.K (.ref C) "__eq__" = some (some (.ref f))) (hf : PySem.W.isFn X.K (.ref f) = true) (hb : Binds X.K fd ps []) (hr : Room n X.A) :
    OpR X (compareOp .Eq) (rEqOwn X.K C sp) := by
  intro pins s σ H x y v u Q I rx ry h
  obtain ⟨a, dx, fs, t, rfl, ha, ty, nf, hsp⟩ := h
  obtain rfl : v = Value.ref a := rx
  obtain ⟨mA, J, _⟩ := ins_get I.hok ha
  obtain ⟨od, J, _⟩ := J.look
  obtain ⟨m, hF⟩ := I.fr
  obtain ⟨Pk, Z, hP, _⟩ := kit_of I ry ty
  show wpAny (model X.prog X.w) X.A (richCompare .Eq (.ref a) u) (EP X pins σ Q) X.xe s
  refine PySem.W.cmp_K (op := .Eq) (tb := t) hr.units0 hF I.ok.mod.kin J (Z.ty (model X.prog X.w) s.heap I.kIn hP) nf hs hf ?_
  have run := run_fn (Q := fun v H' => (∃ b, v = .bl b) ∧ Q v H') (dvs := []) (us := [.ref a, u]) (vs := [V.ref a, y]) F hr hb .nil pass0 I (show Vals [V.ref a, y] [Value.ref a, u] from .cons rfl (.cons ry .nil)) (by rw [List.append_nil]; exact hsp)
  refine wpAny_mono run ?_ (fun _ _ z => z)
  rintro w s' ⟨z, H', I', rz, ⟨b, rfl⟩, q⟩
  cases rz
  exact ⟨.bl b, H', I', rfl, q⟩
end
section
variable {X : Cx} {CX : CXT} {k : Nat} {f C : Addr} {fd : FuncData} {ps : List Str} {sp : Sp} {dvs : List V} {ds : List Value} {E : L2.St → XK} {x : Str} {p pos : Pos} {e : Expr} {es : List Expr} {t : TA}
/-- C(e, ..) within a try -/
def tMakeS (C : Addr) (sp : Sp) (dvs : List V) (E : L2.St → XK) (t : TA) : TE := fun σ H Q => t σ H fun vs H1 => ∀ x dx, H1 x = Option.none → H1 dx = Option.none → dx ≠ x → sp (.ref x :: (vs ++ dvs)) (upd (upd H1 dx (.own x)) x (.ins C dx [])) (fun v H2 => v = .non ∧ Q (.ref x) H2) (E σ)
theorem pe_makeS (M : Mk X.K C f) (F : FnOk X.prog X.w X.K X.mg X.base CX k f fd ps sp) (hr : Room (k + 1) X.A) (hg : Gl X x) (hm : X.mg x = some (.ref C)) (hb : Binds X.K fd ps ds) (hd : Vals dvs ds) (hx : ∀ σ, PassesAt CX X σ (E σ)) (ha : PA X (e :: es) t)
    (hdb : (x == ("__debug__" : Str)) = false := by decide) (he : starEach (e :: es) X.env = (false, eval e X.env) :: starEach es X.env := by rfl) (hpl : (backTo pos (starEach es X.env)).any (·.1) = false := by rfl) :
    PE X (.Call (.Name x p) (e :: es) [] pos) (tMakeS C sp dvs E t) := by
  constructor
  intro pins s σ H Q I h
  refine wpAny_Call_Name_kw (ld_glob I hg hm ?_ hdb)
  refine PySem.W.callWith_K (h₀ := X.base) I.ok.mod.kin M.kp ?_ he hpl
  refine thn (ha.run pos pins s σ H _ I h) ?_
  rintro us s1 ⟨vs, H1, I1, r, q⟩
  refine ⟨I1.kIn, ?_⟩
  have new := q (s1.heap.objs.size + 1) s1.heap.objs.size (I1.hok.fresh (Nat.le_succ _)) (I1.hok.fresh (Nat.le_refl _)) (Nat.ne_of_lt (Nat.lt_succ_self _))
  have J := Inv.made (C := C) I1
  have rel : Vals (V.ref (s1.heap.objs.size + 1) :: (vs ++ dvs)) (Value.ref (s1.heap.objs.size + 1) :: (us ++ ds)) := .cons rfl (r.append hd)
  have size : (Value.ref (s1.heap.objs.size + 1) :: us ++ ds).length = ps.length := rel.length.symm.trans (F.len _ _ _ _ new)
  refine wpAny_call (make_map (f := f) (kw := []) I1.kIn M.makes M.init (beq_iff_eq.mp M.fn) ?_)
  refine codeAny_mono (F.run _ X.stack _ _ ⟨Value.ref (s1.heap.objs.size + 1) :: us, []⟩ (Value.ref (s1.heap.objs.size + 1) :: (us ++ ds)) _ _ (E σ) (hr.make C us []) (J.env0.make C us []) (hb _ (Value.ref (s1.heap.objs.size + 1) :: us) J.kIn size) rel new) ?_
  rintro (er | fl) s2 h2
  · exact hx σ pins _ _ er s2 J h2
  · rcases fl with _ | _ | _ | u
    · exact h2.elim
    · exact h2.elim
    · exact h2.elim
    · obtain ⟨v, H', I3, rv, ev, q3⟩ := J.after h2
      subst ev
      exact ⟨rv, ⟨V.ref (s1.heap.objs.size + 1), H', I3, rfl, q3⟩⟩
end
/-! ### how a format's values are bound -/
section
variable {K : PySem.W.Frag} {f : Addr} {fd : FuncData}
abbrev FmtD (K : PySem.W.Frag) (f : Addr) (fd : FuncData) : Prop := FunD K "__init__" "Format.__init__" (defArgs s_Format_init) (defBody s_Format_init) (defScope s_Format_init) [V.bl true] [] f fd
theorem format_b4 (F : FmtD K f fd) : Binds K fd ["self", "width", "height", "near"] [] := by
  obtain ⟨ds, h1, h2⟩ := F.binds1 (ps := ["self", "width", "height", "near"]) 4 1 (by simp) rfl fun T kV doc pm an cdv ct us its hu hi => match us, its, hu, hi with
    | [_, _, _, _], [_], _, _ => ⟨_, rfl, rfl⟩
  cases h1
  exact h2
theorem format_b3 (F : FmtD K f fd) : ∃ ds, Vals [V.bl true] ds ∧ Binds K fd ["self", "width", "height", "near"] ds :=
  F.binds1 (ps := ["self", "width", "height", "near"]) 3 0 (by simp) rfl fun T kV doc pm an cdv ct us its hu hi => match us, its, hu, hi with
    | [_, _, _], [_], _, _ => ⟨_, rfl, rfl⟩
theorem format_kb (F : FmtD K f fd) : ∃ its : List Value, KBn K fd ["self", "width", "height", "near"] 1 ["near", "height", "width"] (fun us ws => us ++ ws.reverse) (fun vs zs => vs ++ zs.reverse) :=
  F.kbindsD (ps := ["self", "width", "height", "near"]) 1 ["near", "height", "width"] (fun us _ ws => us ++ ws.reverse) (by simp) (fun r1 _ r2 => r1.append r2.reverse) fun T kV doc pm an cdv ct us its ws hu hi hw => match us, its, ws, hu, hi, hw with
    | [_], [_], [_, _, _], _, _, _ => ⟨_, rfl, rfl⟩
end
/-! ### a label by its number -/
def num (L : List Int) : Nat → Int
  | 0 => 0
  | n + 1 => num L n * 100 + L.getD n 0
def bump (i : Int) : Int := if i % 100 = 0 then i + 1 else i
def dv (M : Int) : Nat → Int
  | 0 => M
  | n + 1 => dv M n / 100
def lsd (M : Int) : Nat → List Int
  | 0 => []
  | n + 1 => lsd M n ++ [dv M n % 100]
def least (L : List Int) (n : Nat) : Option (List Int) := if dv (bump (num L n + 1)) n = 0 then some (lsd (bump (num L n + 1)) n).reverse else none
def okHi (hi : Option (List Int)) (L : List Int) : Bool := match hi with
  | none => true
  | some h => HT.lexLt L h
def pickN (lo hi : Option (List Int)) : List Nat → Option (List Int)
  | [] => none
  | n :: r => match least (lo.getD []) n with
    | some L => if okHi hi L = true then some L else pickN lo hi r
    | none => pickN lo hi r
def btw (lo hi : Option (List Int)) : Option (List Int) := pickN lo hi [1, 2, 3]
theorem pickN_none {lo hi : Option (List Int)} {n : Nat} {r : List Nat} (h : least (lo.getD []) n = none) : pickN lo hi (n :: r) = pickN lo hi r := by
  show (match least (lo.getD []) n with | some L => if okHi hi L = true then some L else pickN lo hi r | none => pickN lo hi r) = _
  rw [h]
theorem pickN_no {lo hi : Option (List Int)} {n : Nat} {r : List Nat} {L : List Int} (h : least (lo.getD []) n = some L) (k : okHi hi L = false) : pickN lo hi (n :: r) = pickN lo hi r := by
  show (match least (lo.getD []) n with | some L => if okHi hi L = true then some L else pickN lo hi r | none => pickN lo hi r) = _
  rw [h]
  simp only [k, Bool.false_eq_true, if_false]
theorem pickN_yes {lo hi : Option (List Int)} {n : Nat} {r : List Nat} {L : List Int} (h : least (lo.getD []) n = some L) (k : okHi hi L = true) : pickN lo hi (n :: r) = some L := by
  show (match least (lo.getD []) n with | some L => if okHi hi L = true then some L else pickN lo hi r | none => pickN lo hi r) = _
  rw [h]
  simp only [k, if_true]
def ok99 (L : List Int) : Prop := ∀ i ∈ L, 0 ≤ i ∧ i ≤ 99
theorem getD_99 {L : List Int} (h : ok99 L) (n : Nat) : 0 ≤ L.getD n 0 ∧ L.getD n 0 ≤ 99 := by
  rw [List.getD_eq_getElem?_getD]
  cases e : L[n]? with
  | none => exact ⟨by decide, by decide⟩
  | some i => exact h i (List.mem_of_getElem? e)
theorem num_bd {L : List Int} (h : ok99 L) : ∀ n, 0 ≤ num L n ∧ num L n + 1 ≤ 100 ^ n
  | 0 => ⟨Int.le_refl 0, Int.le_refl 1⟩
  | n + 1 => by
    have ih := num_bd h n
    have d := getD_99 h n
    have e : (100 : Int) ^ (n + 1) = 100 ^ n * 100 := Int.pow_succ ..
    rw [e]
    show 0 ≤ num L n * 100 + L.getD n 0 ∧ num L n * 100 + L.getD n 0 + 1 ≤ _
    omega
theorem num_small {L : List Int} (h : ok99 L) {n : Nat} (hn : n ≤ 3) : 0 ≤ num L n ∧ num L n + 1 ≤ 1000000 := by
  have := num_bd h n
  have e : (100 : Int) ^ n ≤ 1000000 := by
    have : n = 0 ∨ n = 1 ∨ n = 2 ∨ n = 3 := by omega
    rcases this with rfl | rfl | rfl | rfl <;> decide
  omega
theorem bump_bd {i : Int} (h : 0 ≤ i) : i ≤ bump i ∧ bump i ≤ i + 1 := by
  unfold bump
  split <;> omega
theorem dv_nn {M : Int} (h : 0 ≤ M) : ∀ n, 0 ≤ dv M n
  | 0 => h
  | n + 1 => by
    have := dv_nn h n
    show 0 ≤ dv M n / 100
    omega
theorem dv_le {M : Int} (h : 0 ≤ M) : ∀ n, dv M n ≤ M
  | 0 => Int.le_refl _
  | n + 1 => by
    have := dv_le h n
    have := dv_nn h n
    show dv M n / 100 ≤ M
    omega
theorem lsd_len (M : Int) : ∀ n, (lsd M n).length = n
  | 0 => rfl
  | n + 1 => by
    show (lsd M n ++ [_]).length = _
    rw [List.length_append, lsd_len M n]
    rfl
/-- the law's way to the same number -/
theorem num_end {L : List Int} {n : Nat} (h : L.length ≤ n) : num L (n + 1) % 100 = 0 := by
  show (num L n * 100 + L.getD n 0) % 100 = 0
  rw [List.getD_eq_getElem?_getD, List.getElem?_eq_none h]
  show (num L n * 100 + 0) % 100 = 0
  omega
theorem bump_two {i : Int} (h : i % 100 = 0) : bump i = bump (i + 1) := by
  unfold bump
  rw [if_pos h, if_neg (by omega)]
theorem dv3 {M : Int} {n : Nat} (h : 0 ≤ M) (h1 : 1 ≤ n) (h3 : n ≤ 3) : (dv M n = 0) = ¬ ((if n = 1 then (100 : Int) else if n = 2 then 10000 else 1000000) ≤ M) := by
  apply propext
  have : n = 1 ∨ n = 2 ∨ n = 3 := by omega
  rcases this with rfl | rfl | rfl
  · show M / 100 = 0 ↔ ¬ (100 : Int) ≤ M
    omega
  · show M / 100 / 100 = 0 ↔ ¬ (10000 : Int) ≤ M
    omega
  · show M / 100 / 100 / 100 = 0 ↔ ¬ (1000000 : Int) ≤ M
    omega
theorem dv1000 {M : Int} {n : Nat} (h : 0 ≤ M) : dv M n = 0 ∨ 1 ≤ dv M n := by
  have := dv_nn h n
  omega
/-! ### data that may be a label, an end, a refused thing -/
def items : PyData → Option (List PyData)
  | .list ds => some ds
  | .tuple ds => some ds
  | _ => none
def isI : PyData → Bool
  | .int _ => true
  | _ => false
def toO : PyData → Option Int
  | .int i => if 0 ≤ i ∧ i ≤ 99 then some i else none
  | _ => none
def keptD (d : PyData) : Option (List Int) := match items d with
  | some ds => keep (ds.map toO)
  | none => none
def wI (l m : Int) : PyData → Bool
  | .int i => decide (l ≤ i ∧ i ≤ m)
  | _ => false
theorem toO_some (d : PyData) : (toO d).isSome = wI 0 99 d := by
  cases d with
  | int i =>
    show (if 0 ≤ i ∧ i ≤ 99 then some i else none).isSome = decide (0 ≤ i ∧ i ≤ 99)
    by_cases h : 0 ≤ i ∧ i ≤ 99
    · rw [if_pos h, decide_eq_true h]; rfl
    · rw [if_neg h, decide_eq_false h]; rfl
  | _ => rfl
theorem toO_ints {L : List Int} (h : ok99 L) : (L.map PyData.int).map toO = L.map some := by
  rw [List.map_map]
  exact List.map_congr_left fun i hi => if_pos (h i hi)
/-- a label may be a list too -/
def dLl (L : List Int) : PyData := .list (L.map PyData.int)
def dE (b : Bool) (o : Option (List Int)) : PyData := match o with
  | none => .none
  | some L => if b then dLl L else dL L
def okO (o : Option (List Int)) : Prop := ∀ L, o = some L → okL L
theorem kept_label_of {L : List Int} (h : okL L) (b : Bool) : keptD (dE b (some L)) = some L := by
  have e : keptD (dE b (some L)) = keep ((L.map PyData.int).map toO) := by cases b <;> rfl
  rw [e, toO_ints h.2.2, keep_ok h]
/-- what is refused -/
def Bad (d : PyData) : Prop := d ≠ .none ∧ keptD d = none
/-- what repr serves -/
def Shown (d : PyData) : Prop := d.showable = true ∧ d.hasDict = false ∧ d.depth ≤ 8 ∧ d.shown.length ≤ sizeLine
/-- no lists in it -/
def Nl : Nat → PyData → Prop
  | _, .none => True
  | _, .int _ => True
  | _, .bool _ => True
  | _, .str _ => True
  | n + 1, .tuple ds => ∀ d ∈ ds, Nl n d
  | _, _ => False
mutual
theorem dp_butN {K : PySem.W.Frag} {H H' : Hp} {a : Addr} {xs : List V} (ha : H a = some (.lst xs)) (b : But a H H') : ∀ {v : V} {d : PyData}, Dp K H v d → (∃ n, Nl n d) → Dp K H' v d
  | _, _, .non, _ => .non
  | _, _, .bl b, _ => .bl b
  | _, _, .int i, _ => .int i
  | _, _, .str x, _ => .str x
  | _, _, .lst _ _, ⟨n, h⟩ => by cases n <;> exact h.elim
  | _, _, .tup h k, ⟨0, z⟩ => z.elim
  | _, _, .tup h k, ⟨n + 1, z⟩ => .tup (seqT_but ha b h) (dpAll_butN ha b k fun d hd => ⟨n, z d hd⟩)
theorem dpAll_butN {K : PySem.W.Frag} {H H' : Hp} {a : Addr} {xs : List V} (ha : H a = some (.lst xs)) (b : But a H H') : ∀ {vs : List V} {ds : List PyData}, DpAll K H vs ds → (∀ d ∈ ds, ∃ n, Nl n d) → DpAll K H' vs ds
  | _, _, .nil, _ => .nil
  | _, _, .cons h k, z => .cons (dp_butN ha b h (z _ (List.mem_cons_self ..))) (dpAll_butN ha b k fun d hd => z d (List.mem_cons_of_mem _ hd))
end
theorem kit2_no {K : PySem.W.Frag} {t : String} (h1 : kitB t "tuple" = some false) (h2 : kitB t "list" = some false) : PySem.W.kitAny K (.type t) [.type "tuple", .type "list"] = some false :=
  kitAny_cons (kit_ty h1) (fun _ => kitAny_cons (kit_ty h2) (fun _ => rfl) (fun z => by cases z)) (fun z => by cases z)
theorem allSome_all : ∀ {os : List (Option Int)} {L : List Int}, allSome os = some L → os = L.map some
  | [], L, h => by
    cases h
    rfl
  | none :: r, L, h => by cases h
  | some i :: r, L, h => by
    unfold allSome at h
    split at h
    · rename_i L' e
      cases h
      rw [allSome_all e]
      rfl
    · cases h
theorem map_bl (ds : List PyData) : (ds.map fun d => V.bl (wI 0 99 d)) = (ds.map (wI 0 99)).map V.bl := (List.map_map ..).symm
theorem all_bl (ds : List PyData) : (ds.map (wI 0 99)).all id = ds.all (wI 0 99) := by
  rw [List.all_map]
  rfl
theorem all_ints : ∀ {ds : List PyData}, ds.all (wI 0 99) = true → ∃ L : List Int, ds = L.map PyData.int ∧ ok99 L
  | [], _ => ⟨[], rfl, fun _ h => nomatch h⟩
  | d :: r, h => by
    rw [List.all_cons, Bool.and_eq_true] at h
    obtain ⟨L, e, hL⟩ := all_ints h.2
    cases d with
    | int i =>
      have hi := of_decide_eq_true h.1
      refine ⟨i :: L, by rw [e]; rfl, fun j hj => ?_⟩
      rcases List.mem_cons.mp hj with z | z
      · rw [z]; exact hi
      · exact hL j z
    | _ => cases h.1
theorem not_all {ds : List PyData} (h : ds.all (wI 0 99) = false) : none ∈ ds.map toO := by
  obtain ⟨d, hd, e⟩ := List.all_eq_false.mp h
  refine List.mem_map.mpr ⟨d, hd, ?_⟩
  cases q : toO d with
  | none => rfl
  | some i =>
    have := toO_some d
    rw [q] at this
    exact absurd this.symm e
/-- what stands behind an own error that was made: its dict alone is new -/
theorem same_made {H0 H1 : Hp} {a dx C : Addr} {f : Str} {v : V} (s : Same H0 H1) (na : H1 a = none) (nd : upd H1 a (exo a C none) dx = none) (ne : dx ≠ a) :
    Same H0 (upd (del (upd (upd (upd H1 a (exo a C none)) dx (exd dx [(f, v)])) a (exo a C (some dx))) a) dx (.xd [(f, v)])) := fun b o e => by
  have e1 := s b o e
  have nd1 : H1 dx = none := by rw [upd_ne ne] at nd; exact nd
  have ba : b ≠ a := ne_of_none e1 na
  have bd : b ≠ dx := ne_of_none e1 nd1
  rw [upd_ne bd, del_ne ba, upd_ne ba, upd_ne bd, upd_ne ba]
  exact e1
theorem toO_bd {d : PyData} {i : Int} (h : toO d = some i) : 0 ≤ i ∧ i ≤ 99 := by
  cases d with
  | int j =>
    have h : (if 0 ≤ j ∧ j ≤ 99 then some j else none) = some i := h
    by_cases hj : 0 ≤ j ∧ j ≤ 99
    · rw [if_pos hj] at h
      cases h
      exact hj
    · rw [if_neg hj] at h
      cases h
  | _ => cases h
theorem keep_some {os : List (Option Int)} {L : List Int} (h : keep os = some L) : os = L.map some ∧ L.length ≤ 3 ∧ L.getLastD 0 ≠ 0 := by
  unfold keep at h
  cases e : allSome os with
  | none => rw [e] at h; cases h
  | some M =>
    rw [e] at h
    simp only at h
    split at h
    · rename_i hM
      cases h
      exact ⟨allSome_all e, hM⟩
    · cases h
theorem kept_okL {d : PyData} {L : List Int} (h : keptD d = some L) : okL L := by
  unfold keptD at h
  cases e : items d with
  | none => rw [e] at h; cases h
  | some ds =>
    rw [e] at h
    simp only at h
    obtain ⟨h1, h2, h3⟩ := keep_some h
    refine ⟨h2, h3, fun i hi => ?_⟩
    have : some i ∈ ds.map toO := by rw [h1]; exact List.mem_map_of_mem hi
    obtain ⟨d, _, q⟩ := List.mem_map.mp this
    exact toO_bd q
theorem kept_ok {d : PyData} {L : List Int} (h : keptD d = some L) : ok99 L ∧ L.length ≤ 3 ∧ L ≠ [] := by
  have := kept_okL h
  exact ⟨this.2.2, this.1, okL_ne this⟩
theorem cutV_to (xs : List V) (n : Nat) : cutV xs none (some (n : Int)) = xs.take n := by
  unfold cutV
  rw [HT.sIx_none, HT.sIx_nat, List.drop_zero, Nat.sub_zero]
  by_cases h : n ≤ xs.length
  · rw [Nat.min_eq_left h]
  · rw [Nat.min_eq_right (by omega), List.take_length, List.take_of_length_le (by omega)]
theorem pad_at (L : List Int) (n i : Nat) (h : i < n) : ((L ++ List.replicate n 0).take n)[i]? = some (L.getD i 0) := by
  rw [List.getElem?_take_of_lt h, List.getD_eq_getElem?_getD]
  by_cases hl : i < L.length
  · rw [List.getElem?_append_left hl, List.getElem?_eq_getElem hl]
    rfl
  · have e : L[i]? = none := List.getElem?_eq_none (by omega)
    rw [List.getElem?_append_right (by omega), e, List.getElem?_replicate, if_pos (by omega)]
    rfl
theorem pad_len (L : List Int) (n : Nat) : ((L ++ List.replicate n 0).take n).length = n := by
  rw [List.length_take, List.length_append, List.length_replicate]
  omega
theorem flat_one (n : Nat) : (List.replicate n [V.int 0]).flatten = (List.replicate n (0 : Int)).map V.int := by
  induction n with
  | zero => rfl
  | succ n ih =>
    rw [List.replicate_succ, List.flatten_cons, ih, List.replicate_succ]
    rfl
theorem num_foo (L : List Int) (n : Nat) : num L (n + 1) = num L n * 100 + L.getD n 0 := rfl
theorem dE_end {b : Bool} {o : Option (List Int)} (h : okO o) : ¬ Bad (dE b o) ∧ keptD (dE b o) = o := by
  cases o with
  | none => exact ⟨fun z => z.1 rfl, rfl⟩
  | some L =>
    have k := kept_label_of (h L rfl) b
    exact ⟨(fun z => by have z2 := z.2; rw [k] at z2; cases z2), k⟩
theorem dE_false (o : Option (List Int)) : dE false o = oD dL o := by cases o <;> rfl
theorem relRef {a : Addr} : ∀ u : Value, RelV (.ref a) u → u = .ref a := fun _ h => h
theorem relTy {s : String} : ∀ u : Value, RelV (.ty s) u → u = .type s := fun _ h => h
/-- what isinstance must know of the class -/
theorem excC_of {K : PySem.W.Frag} {D : Addr} (h1 : PySem.W.findIn K (.ref D) "__getattribute__" = some (some (.builtin "BaseException.__getattribute__"))) (h2 : PySem.W.findIn K (.ref D) "__getattr__" = some none) (h3 : PySem.W.subIn K (.ref D) (.type "BaseException") = some true)
    (h4 : PySem.W.hasDictIn K D = true) (h5 : PySem.W.findIn K (.ref D) "__class__" = some (some (.builtin "object.__class__"))) (h6 : PySem.W.specialIn K (.builtin "object.__class__") "__get__" = some (some (.builtin "getset_descriptor.__get__"))) (h7 : PySem.W.takesIn K (.builtin "object.__class__") = some true)
    (h8 : PySem.W.mroIn K D (.type "object") = some true) : ExcC K D := ⟨h1, h2, h3, h4, h5, h6, h7, h8⟩
theorem okL_snoc {R : List Int} {z : Int} (h : ok99 R) (l : R.length ≤ 2) (h1 : 1 ≤ z) (h9 : z ≤ 99) : okL (R ++ [z]) := by
  refine ⟨by rw [List.length_append]; show R.length + 1 ≤ 3; omega, ?_, fun i hi => ?_⟩
  · rw [List.getLastD_eq_getLast?, List.getLast?_append]
    show z ≠ 0
    omega
  · rcases List.mem_append.mp hi with e | e
    · exact h i e
    · rw [List.mem_singleton.mp e]; omega
theorem okL_split {L : List Int} (h : okL L) : ∃ R z, L = R ++ [z] ∧ ok99 R ∧ R.length ≤ 2 ∧ 1 ≤ z ∧ z ≤ 99 := by
  have hne := okL_ne h
  obtain ⟨R, z, rfl⟩ : ∃ R z, L = R ++ [z] := ⟨_, _, (List.dropLast_concat_getLast hne).symm⟩
  have hz := h.2.2 z (by simp)
  have hz0 : z ≠ 0 := by
    have := h.2.1
    rw [List.getLastD_eq_getLast?, List.getLast?_append] at this
    exact this
  have hl := h.1
  rw [List.length_append] at hl
  exact ⟨R, z, rfl, fun i hi => h.2.2 i (List.mem_append_left _ hi), by have : R.length + 1 ≤ 3 := hl; omega, by omega, hz.2⟩
theorem src_lst {H : Hp} {a : Addr} (s : Src H a) : ∃ xs, H a = some (.lst xs) := by
  obtain ⟨g, x, c, e⟩ := s
  exact ⟨_, e⟩
theorem sqT_src {K : PySem.W.Frag} {H H' : Hp} {a p : Addr} {ys : List V} (s : Src H a) (b : But a H H') (h : SqT K H p ys) : SqT K H' p ys := by
  obtain ⟨xs, e⟩ := src_lst s
  exact seqT_but e b h
theorem dpN_src {K : PySem.W.Frag} {H H' : Hp} {a : Addr} {v : V} {d : PyData} (s : Src H a) (b : But a H H') (h : Dp K H v d) (n : ∃ n, Nl n d) : Dp K H' v d := by
  obtain ⟨xs, e⟩ := src_lst s
  exact dp_butN e b h n
theorem nl_L (L : List Int) : ∃ n, Nl n (dL L) := ⟨1, fun d hd => by
  obtain ⟨i, _, rfl⟩ := List.mem_map.mp hd
  trivial⟩
theorem nl_O (o : Option (List Int)) : ∃ n, Nl n (oD dL o) := by
  cases o with
  | none => exact ⟨0, trivial⟩
  | some L => exact nl_L L
theorem srcN {H : Hp} {a p : Addr} (s : Src H a) (n : H p = none) (o : HO) : Src (upd H p o) a := s.put (s.ne n) o
theorem sIx_m1 (n : Nat) : HT.sIx n n (some (-1)) = n - 1 := by
  show ((-1 : Int) + (n : Int)).toNat = n - 1
  omega
theorem cut_last (xs : List V) : cutV xs none (some (-1)) = xs.dropLast := by
  unfold cutV
  rw [sIx_m1, HT.sIx_none, List.drop_zero, Nat.sub_zero, List.dropLast_eq_take]
/-! ### refused things: short, without lists -/
def Sm (B k : Nat) (d : PyData) : Prop := d.showable = true ∧ d.hasDict = false ∧ d.depth ≤ k ∧ d.shown.length ≤ B
theorem sm_all {B k : Nat} : ∀ {ds : List PyData}, (∀ d ∈ ds, Sm B k d) → PyData.showableAll ds = true ∧ PyData.hasDictAll ds = false ∧ PyData.depthAll ds ≤ k ∧ ((PyData.shownAll ds).map (·.length)).sum ≤ ds.length * B ∧ (PyData.shownAll ds).length = ds.length
  | [], _ => ⟨rfl, rfl, Nat.zero_le _, Nat.zero_le _, rfl⟩
  | d :: r, h => by
    obtain ⟨h1, h2, h3, h4⟩ := h d (List.mem_cons_self ..)
    obtain ⟨k1, k2, k3, k4, k5⟩ := sm_all fun e he => h e (List.mem_cons_of_mem _ he)
    refine ⟨?_, ?_, ?_, ?_, ?_⟩
    · show (d.showable && PyData.showableAll r) = true
      rw [h1, k1]
      rfl
    · show (d.hasDict || PyData.hasDictAll r) = false
      rw [h2, k2]
      rfl
    · show max d.depth (PyData.depthAll r) ≤ k
      omega
    · show ((d.shown :: PyData.shownAll r).map (·.length)).sum ≤ (r.length + 1) * B
      rw [List.map_cons, List.sum_cons, Nat.add_mul, Nat.one_mul]
      omega
    · show (d.shown :: PyData.shownAll r).length = r.length + 1
      rw [List.length_cons, k5]
theorem sm_tup {B k : Nat} {ds : List PyData} (hl : ds.length ≤ 5) (h : ∀ d ∈ ds, Sm B k d) : Sm (5 * B + 13) (k + 1) (.tuple ds) := by
  obtain ⟨k1, k2, k3, k4, k5⟩ := sm_all h
  refine ⟨k1, k2, Nat.succ_le_succ k3, ?_⟩
  have := tupleText_len_le (PyData.shownAll ds)
  have hm : ds.length * B ≤ 5 * B := Nat.mul_le_mul_right _ hl
  show (tupleText (PyData.shownAll ds)).length ≤ _
  omega
theorem sm_shown {B k : Nat} {d : PyData} (h : Sm B k d) (hB : B ≤ 20000) (hk : k ≤ 8) : Shown d := by
  obtain ⟨h1, h2, h3, h4⟩ := h
  refine ⟨h1, h2, by omega, ?_⟩
  rw [sizeLine_eq]
  omega
def Atom (d : PyData) : Prop := Sm 300 0 d ∧ Nl 0 d
theorem at_int {i : Int} (h : i.natAbs ≤ 200) : Atom (.int i) := by
  refine ⟨⟨decide_eq_true ?_, rfl, Nat.le_refl 0, ?_⟩, trivial⟩
  · exact Nat.lt_of_le_of_lt (Nat.log2_le_self _) (by omega)
  · have := len_str_of_int i
    show (Str.ofString (toString i)).length ≤ 300
    omega
theorem at_none : Atom .none := ⟨⟨rfl, rfl, Nat.le_refl 0, by decide +kernel⟩, trivial⟩
theorem at_true : Atom (.bool true) := ⟨⟨rfl, rfl, Nat.le_refl 0, by decide +kernel⟩, trivial⟩
theorem at_str {z : Str} (h : z.length ≤ 20) (hc : ∀ c ∈ z.cps.toList, c < 16 ^ 8) : Atom (.str z) := by
  refine ⟨⟨rfl, rfl, Nat.le_refl 0, ?_⟩, trivial⟩
  have := PySem.StrLaws.reprText_len z hc
  show (reprText z).length ≤ 300
  omega
def Od (d : PyData) : Prop := Bad d ∧ Shown d ∧ ∃ n, Nl n d
theorem od_row {ds : List PyData} (hl : ds.length ≤ 5) (ha : ∀ d ∈ ds, Atom d) (hk : keep (ds.map toO) = none) : Od (.tuple ds) :=
  ⟨⟨(fun z => nomatch z), hk⟩, sm_shown (sm_tup hl fun d hd => (ha d hd).1) (by decide) (by decide), 1, fun d hd => (ha d hd).2⟩
theorem at_ints {L : List Int} (h : ok99 L) : ∀ d ∈ L.map PyData.int, Atom d := fun d hd => by
  obtain ⟨i, hi, rfl⟩ := List.mem_map.mp hd
  have := h i hi
  exact at_int (by omega)
theorem od_rep {L : List Int} {k : Nat} {d : PyData} (hL : okL L) (hk : k < L.length) (ha : Atom d) (hn : toO d = none) : Od (.tuple (((L.take k).map PyData.int ++ [d]) ++ (L.drop (k + 1)).map PyData.int)) := by
  refine od_row ?_ (fun e he => ?_) (keep_none ?_)
  · have := hL.1
    simp only [List.length_append, List.length_map, List.length_take, List.length_drop, List.length_cons, List.length_nil]
    omega
  · rcases List.mem_append.mp he with h | h
    · rcases List.mem_append.mp h with h | h
      · exact at_ints (fun i hi => hL.2.2 i (List.mem_of_mem_take hi)) e h
      · rw [List.mem_singleton.mp h]; exact ha
    · exact at_ints (fun i hi => hL.2.2 i (List.mem_of_mem_drop hi)) e h
  · refine List.mem_map.mpr ⟨d, ?_, hn⟩
    exact List.mem_append_left _ (List.mem_append_right _ (List.mem_singleton.mpr rfl))
theorem keep_last0 {R : List Int} (h : ok99 R) : keep (((R ++ [0]).map PyData.int).map toO) = none := by
  have k0 : ok99 (R ++ [0]) := fun i hi => by
    rcases List.mem_append.mp hi with e | e
    · exact h i e
    · rw [List.mem_singleton.mp e]; exact ⟨by decide, by decide⟩
  rw [toO_ints k0, keep_map, if_neg ?_]
  rintro ⟨_, h2⟩
  apply h2
  rw [List.getLastD_eq_getLast?, List.getLast?_append]
  rfl
theorem fL_sign {L : List Int} (h : okL L) : ∀ c ∈ (fL L).cps.toList, c < 16 ^ 8 := by
  intro c hc
  have key : c ≤ 57 := by
    unfold fL at hc
    rw [TL.join_eq] at hc
    rcases (mem_join _ _ _).mp hc with ⟨t, ht, h1⟩ | ⟨_, h1⟩
    · obtain ⟨i, hi, rfl⟩ := List.mem_map.mp ht
      exact ((num_ok (h.2.2 i hi).1 (h.2.2 i hi).2).2.2.1 c h1).2
    · have e : ("." : Str).cps.toList = [46] := by decide +kernel
      rw [e] at h1
      rw [List.mem_singleton.mp h1]
      decide
  exact Nat.lt_of_le_of_lt key (by decide)
/-! ### t + u and t[i:j], told once for all ways -/
theorem cat_go {K : PySem.W.Frag} {H : Hp} {Q : VK} {a b : Addr} {xs ys : List V} (ha : SqT K H a xs) (hb : SqT K H b ys) (hl : xs.length + ys.length ≤ 1000) (h : ∀ c H', Same H H' → SqT K H' c (xs ++ ys) → Q (.ref c) H') : rCatA K (.ref a) (.ref b) H Q :=
  ⟨a, b, xs, ys, rfl, rfl, ha, hb, Nat.le_of_lt (small1000 hl), fun e => h b H (Same.refl H) (by rw [e]; exact hb), fun _ e => h a H (Same.refl H) (by rw [e, List.append_nil]; exact ha), fun _ _ p np => h p _ (same_upd np) (.inl (.inl upd_same))⟩
theorem cut_whole {xs : List V} {lo hi : Option Int} (h : HT.sIx xs.length 0 lo = 0 ∧ HT.sIx xs.length xs.length hi = xs.length) : cutV xs lo hi = xs := by
  unfold cutV
  rw [h.1, h.2, List.drop_zero, Nat.sub_zero, List.take_length]
theorem sl_go {K : PySem.W.Frag} {H : Hp} {Q : VK} {a : Addr} {xs : List V} {lo hi : Option Int} (ha : SqT K H a xs) (h : ∀ c H', Same H H' → SqT K H' c (cutV xs lo hi) → Q (.ref c) H') : rSlA K (.ref a) lo hi H Q :=
  ⟨a, xs, rfl, ha, fun e => h a H (Same.refl H) (by rw [cut_whole e]; exact ha), fun _ p np => h p _ (same_upd np) (.inl (.inl upd_same))⟩
theorem cutV_from (xs : List V) (k : Nat) : cutV xs (some (k : Int)) none = xs.drop k := by
  unfold cutV
  rw [HT.sIx_nat]
  have e : HT.sIx xs.length xs.length none = xs.length := HT.sIx_none ..
  rw [e]
  by_cases h : k ≤ xs.length
  · rw [Nat.min_eq_left h, List.take_of_length_le]
    rw [List.length_drop]
    omega
  · rw [Nat.min_eq_right (by omega), Nat.sub_self, List.take_zero, List.drop_eq_nil_of_le (by omega)]
theorem dpAll_app {K : PySem.W.Frag} {H : Hp} : ∀ {vs ws : List V} {ds es : List PyData}, DpAll K H vs ds → DpAll K H ws es → DpAll K H (vs ++ ws) (ds ++ es)
  | _, _, _, _, .nil, h => h
  | _, _, _, _, .cons k r, h => .cons k (dpAll_app r h)
/-- what the law has seen: two ends and what stands between them -/
def Elem (K : PySem.W.Frag) (H : Hp) (r : Addr) : Prop := ∃ (x y z : V) (lo hi : Option (List Int)), H r = some (.lst [x, y, z]) ∧ Dp K H x (oD dL lo) ∧ Dp K H y (oD dL hi) ∧ okO lo ∧ okO hi ∧ Dp K H z (oD dL (btw lo hi))
theorem Elem.same {K : PySem.W.Frag} {H H' : Hp} {r : Addr} (s : Same H H') (h : Elem K H r) : Elem K H' r := by
  obtain ⟨x, y, z, lo, hi, e, hx, hy, ko, kh, hz⟩ := h
  exact ⟨x, y, z, lo, hi, s _ _ e, dp_same s hx, dp_same s hy, ko, kh, dp_same s hz⟩
theorem Elem.put {K : PySem.W.Frag} {H : Hp} {r S : Addr} {ys : List V} {o : HO} (hS : H S = some (.lst ys)) (n : r ≠ S) (h : Elem K H r) : Elem K (upd H S o) r := by
  obtain ⟨x, y, z, lo, hi, e, hx, hy, ko, kh, hz⟩ := h
  exact ⟨x, y, z, lo, hi, by rw [upd_ne n]; exact e, dp_butN hS (But.upd o) hx (nl_O lo), dp_butN hS (But.upd o) hy (nl_O hi), ko, kh, dp_butN hS (But.upd o) hz (nl_O _)⟩
def oI : Option Int → PyData
  | none => .none
  | some i => .int i
theorem dp_optI {K : PySem.W.Frag} {H : Hp} : ∀ os : List (Option Int), DpAll K H (os.map optI) (os.map oI)
  | [] => .nil
  | none :: r => .cons .non (dp_optI r)
  | some i :: r => .cons (.int i) (dp_optI r)
theorem toO_oI : ∀ {os : List (Option Int)}, (∀ i, some i ∈ os → 0 ≤ i ∧ i ≤ 99) → (os.map oI).map toO = os
  | [], _ => rfl
  | none :: r, h => by
    rw [List.map_cons, List.map_cons, toO_oI fun i hi => h i (List.mem_cons_of_mem _ hi)]
    rfl
  | some i :: r, h => by
    rw [List.map_cons, List.map_cons, toO_oI fun i hi => h i (List.mem_cons_of_mem _ hi)]
    have e : toO (oI (some i)) = some i := if_pos (h i (List.mem_cons_self ..))
    rw [e]
section
variable {P : Program} {w : World} {K : PySem.W.Frag} {mg : Str → Option Value} {base : Heap}
/-! ### the promises -/
def sp_BadLabel_init (K : PySem.W.Frag) (C : Addr) : Sp := fun vs H Q _ => ∃ (a : Addr) (v : V), vs = [.ref a, v] ∧ OexC K C ∧ PySem.W.findIn K (.ref C) "label" = some none ∧ H a = some (exo a C none) ∧ ∀ dx, H dx = none → dx ≠ a → Q .non (upd (upd H dx (exd dx [("label", v)])) a (exo a C (some dx)))
def sp_is_integer (K : PySem.W.Frag) : Sp := fun vs H Q _ => ∃ (v : V) (d : PyData), vs = [v] ∧ Dp K H v d ∧ Q (.bl (isI d)) H
def sp_is_within (K : PySem.W.Frag) : Sp := fun vs H Q _ => ∃ (v : V) (d : PyData) (l m : Int), vs = [v, .int l, .int m] ∧ Dp K H v d ∧ Q (.bl (wI l m d)) H
def sp_is_tuple (K : PySem.W.Frag) : Sp := fun vs H Q _ => ∃ (v : V) (d : PyData), vs = [v] ∧ Dp K H v d ∧ ∀ H', Same H H' → Q (.bl (items d).isSome) H'
def sz (l m : Int) (d : PyData) : Bool := match items d with
  | some ds => decide (l ≤ (ds.length : Int) ∧ (ds.length : Int) ≤ m)
  | none => false
def sp_is_sized (K : PySem.W.Frag) : Sp := fun vs H Q _ => ∃ (v : V) (d : PyData) (l m : Int), vs = [v, .int l, .int m] ∧ Dp K H v d ∧ ∀ H', Same H H' → Q (.bl (sz l m d)) H'
def sp_kept_label (K : PySem.W.Frag) : Sp := fun vs H Q _ => ∃ (v : V) (d : PyData), vs = [v] ∧ Dp K H v d ∧ ∀ y H', Same H H' → Dp K H' y (oD dL (keptD d)) → Q y H'
def sp_judged_label (K : PySem.W.Frag) (C : Addr) : Sp := fun vs H Q E => ∃ (v : V) (d : PyData), vs = [v] ∧ Dp K H v d ∧
  (keptD d = none → ∀ H' dd, Same H H' → H' dd = some (.xd [("label", v)]) → E (.ref C) (some dd) H') ∧ (∀ L, keptD d = some L → ∀ y H', Same H H' → Dp K H' y (dL L) → Q y H')
def sp_source (K : PySem.W.Frag) : Sp := fun vs H Q _ => ∃ (a : Addr) (ns : List Int) (k : Nat), vs = [.ref a, .int k] ∧ SqL K H a (ns.map V.int) ∧ ∀ p H', Same H H' → H p = none → Src H' p → Q (.ref p) H'
def sp_pick (K : PySem.W.Frag) : Sp := fun vs H Q _ => ∃ (a : Addr) (m : Int), vs = [.ref a, .int m] ∧ Src H a ∧ 1 ≤ m ∧ m ≤ 1000000 ∧ ∀ r H', Src H' a → But a H H' → 0 ≤ r → r < m → Q (.int r) H'
def sp_law_is_integer (K : PySem.W.Frag) : Sp := fun vs H Q _ => ∃ i : Int, vs = [.int i] ∧ Q (.bl true) H
def sp_figure (K : PySem.W.Frag) : Sp := fun vs H Q _ => ∃ (a : Addr) (l : Int), vs = [.ref a, .int l] ∧ Src H a ∧ 0 ≤ l ∧ l ≤ 1 ∧ ∀ r H', Src H' a → But a H H' → l ≤ r → r ≤ 99 → Q (.int r) H'
def sp_label (K : PySem.W.Frag) : Sp := fun vs H Q _ => ∃ a : Addr, vs = [.ref a] ∧ Src H a ∧ ∀ v (L : List Int) H', Src H' a → But a H H' → Dp K H' v (dL L) → okL L → Q v H'
def sp_read_integer (K : PySem.W.Frag) : Sp := fun vs H Q _ => ∃ z : Str, vs = [.str z, .int 0, .int 99] ∧ z.length ≤ 1000 ∧ ∀ H', Same H H' → Q (optI (rdI z)) H'
def sp_read_label (K : PySem.W.Frag) : Sp := fun vs H Q _ => ∃ z : Str, vs = [.str z] ∧ z.length ≤ 500 ∧ ∀ v H', Same H H' → Dp K H' v (oD dL (rdL z)) → Q v H'
def sp_read_page (K : PySem.W.Frag) : Sp := fun vs H Q _ => ∃ z : Str, vs = [.str z] ∧ z.length ≤ 500 ∧ ∀ v H', Same H H' → Dp K H' v (oD dP (rdP z)) → Q v H'
def sp_label_word (K : PySem.W.Frag) : Sp := fun vs H Q _ => ∃ (a : Addr) (L : List Int), vs = [.ref a] ∧ SqT K H a (L.map V.int) ∧ okL L ∧ ∀ H', Same H H' → Q (.str (fL L)) H'
def sp_page_word (K : PySem.W.Frag) : Sp := fun vs H Q _ => ∃ (v : V) (p : Pg), vs = [v] ∧ Dp K H v (dP p) ∧ okP p ∧ ∀ H', Same H H' → Q (.str (fP p)) H'
def sp_law_read_label (K : PySem.W.Frag) : Sp := fun vs H Q _ => ∃ z : Str, vs = [.str z] ∧ z.length ≤ 500 ∧ ∀ v H', Same H H' → Dp K H' v (oD dL (rdL z)) → Q v H'
def sp_law_read_page (K : PySem.W.Frag) : Sp := fun vs H Q _ => ∃ z : Str, vs = [.str z] ∧ z.length ≤ 500 ∧ ∀ v H', Same H H' → Dp K H' v (oD dP (rdP z)) → Q v H'
def sp_BadFormat_init (K : PySem.W.Frag) (C : Addr) : Sp := fun vs H Q _ => ∃ (a : Addr) (v : V), vs = [.ref a, v] ∧ OexC K C ∧ PySem.W.findIn K (.ref C) "word" = some none ∧ H a = some (exo a C none) ∧ ∀ dx, H dx = none → dx ≠ a → Q .non (upd (upd H dx (exd dx [("word", v)])) a (exo a C (some dx)))
def sp_write_label (K : PySem.W.Frag) (C : Addr) : Sp := fun vs H Q E => ∃ (v : V) (d : PyData), vs = [v] ∧ Dp K H v d ∧
  (keptD d = none → ∀ H' dd, Same H H' → H' dd = some (.xd [("label", v)]) → E (.ref C) (some dd) H') ∧ (∀ L, keptD d = some L → ∀ H', Same H H' → Q (.str (fL L)) H')
def sp_write_page (K : PySem.W.Frag) (C : Addr) : Sp := fun vs H Q E => ∃ (a : Addr) (l : V) (d : PyData) (s : Int), vs = [.ref a] ∧ Seq K H a [l, .int s] ∧ Dp K H l d ∧ (s = 0 ∨ s = 1) ∧
  (keptD d = none → ∀ H' dd, Same H H' → H' dd = some (.xd [("label", l)]) → E (.ref C) (some dd) H') ∧ (∀ L, keptD d = some L → ∀ H', Same H H' → Q (.str (fP (L, s))) H')
def isB : PyData → Bool
  | .bool _ => true
  | _ => false
def fF (w h n : V) : List (Str × V) := [("width", w), ("height", h), ("near", n)]
/-- which of the three is bad first -/
def badF (dw dh dn : PyData) : Option Str := if wI 20 60 dw = false then some "width" else if wI 2 12 dh = false then some "height" else if isB dn = false then some "near" else none
def sp_Format_init (K : PySem.W.Frag) (C CF : Addr) : Sp := fun vs H Q E => ∃ (x dx : Addr) (w h n : V) (dw dh dn : PyData), vs = [.ref x, w, h, n] ∧ H x = some (.ins C dx []) ∧ Dp K H w dw ∧ Dp K H h dh ∧ Dp K H n dn ∧
  (∀ z, badF dw dh dn = some z → ∀ H' dd, Same H H' → H' dd = some (.xd [("word", .str z)]) → E (.ref CF) (some dd) H') ∧
  (badF dw dh dn = none → ∀ H', H' x = some (.ins C dx (fF w h n)) → (∀ b o, b ≠ x → H b = some o → H' b = some o) → Q .non H')
def sp_Format_eq (K : PySem.W.Frag) (C : Addr) : Sp := fun vs H Q _ => ∃ (a dx : Addr) (y : V) (w h : Int) (n : Bool), vs = [.ref a, y] ∧ H a = some (.ins C dx (fF (.int w) (.int h) (.bl n))) ∧
  ((∃ (b dy : Addr) (w' h' : Int) (n' : Bool), y = .ref b ∧ H b = some (.ins C dy (fF (.int w') (.int h') (.bl n'))) ∧ Q (.bl (decide (w = w' ∧ h = h' ∧ n = n'))) H) ∨ (∃ t, TyX K H y t ∧ PySem.W.kitOne K t (.ref C) = some false ∧ Q (.bl false) H))
def signsS : Str := " !#$&'()*+,-./0123456789:;<=>?@ABCDEFGHIJKLMNOPQRSTUVWXYZ[]^_abcdefghijklmnopqrstuvwxyz{|}~"
def sp_signs (K : PySem.W.Frag) : Sp := fun vs H Q _ => vs = [] ∧ Q (.str signsS) H
def sp_sign (K : PySem.W.Frag) : Sp := fun vs H Q _ => ∃ a : Addr, vs = [.ref a] ∧ Src H a ∧ ∀ (y : Str) H', Src H' a → But a H H' → y.length = 1 → Q (.str y) H'
def sp_spoilt (K : PySem.W.Frag) : Sp := fun vs H Q _ => ∃ (a : Addr) (z : Str), vs = [.ref a, .str z] ∧ Src H a ∧ z.length ≤ 200 ∧ ∀ (y : Str) H', Src H' a → But a H H' → y.length ≤ z.length + 2 → Q (.str y) H'
def sp_some_word (K : PySem.W.Frag) : Sp := fun vs H Q _ => ∃ a : Addr, vs = [.ref a] ∧ Src H a ∧ ∀ (y : Str) H', Src H' a → But a H H' → y.length ≤ 9 → Q (.str y) H'
def sp_words (K : PySem.W.Frag) : Sp := fun vs H Q _ => ∃ (a : Addr) (v : V) (L : List Int) (s : Int), vs = [.ref a, v, .int s] ∧ Src H a ∧ Dp K H v (dL L) ∧ okL L ∧ (s = 0 ∨ s = 1) ∧ ∀ p (zs : List Str) H', Src H' a → But a H H' → H p = none → H' p = some (.lst (zs.map V.str)) → (∀ z ∈ zs, z.length ≤ 100) → Q (.ref p) H'
def sp_is_label (K : PySem.W.Frag) : Sp := fun vs H Q _ => ∃ (x y : V) (o : Option (List Int)), vs = [x, y] ∧ Dp K H x (oD dL o) ∧ Dp K H y (oD dL o) ∧ Q (.bl true) H
def sp_is_page (K : PySem.W.Frag) : Sp := fun vs H Q _ => ∃ (x y : V) (o : Option Pg), vs = [x, y] ∧ Dp K H x (oD dP o) ∧ Dp K H y (oD dP o) ∧ Q (.bl true) H
def sp_odd_label (K : PySem.W.Frag) : Sp := fun vs H Q _ => ∃ (a : Addr) (v : V) (L : List Int), vs = [.ref a, v] ∧ Src H a ∧ Dp K H v (dL L) ∧ okL L ∧ ∀ y (d : PyData) H', Src H' a → But a H H' → Dp K H' y d → keptD d = none → Shown d → (∃ n, Nl n d) → Q y H'
def sp_refused (K : PySem.W.Frag) : Sp := fun vs H Q _ => ∃ (x : V) (d : PyData) (k : Int), vs = [x, .int k] ∧ Dp K H x d ∧ keptD d = none ∧ Shown d ∧ 0 ≤ k ∧ k ≤ 2 ∧ ∀ H', Same H H' → Q (.bl true) H'
def sp_written (K : PySem.W.Frag) : Sp := fun vs H Q _ => ∃ (x : V) (L : List Int) (s : Int), vs = [x, .int s] ∧ Dp K H x (dL L) ∧ okL L ∧ (s = 0 ∨ s = 1) ∧ ∀ H', Same H H' → Q (.bl true) H'
def sp_odd_size (K : PySem.W.Frag) : Sp := fun vs H Q _ => ∃ (a : Addr) (l m : Int), vs = [.ref a, .int l, .int m] ∧ Src H a ∧ 0 ≤ l ∧ l ≤ 100 ∧ 0 ≤ m ∧ m ≤ 100 ∧ l ≤ m ∧ ∀ y (d : PyData) H', Src H' a → But a H H' → Dp K H' y d → wI l m d = false → (∃ n, Nl n d) → Q y H'
def sp_odd_near (K : PySem.W.Frag) : Sp := fun vs H Q _ => ∃ a : Addr, vs = [.ref a] ∧ Src H a ∧ ∀ y (d : PyData) H', Src H' a → But a H H' → Dp K H' y d → isB d = false → (∃ n, Nl n d) → Q y H'
def sp_format_refused (K : PySem.W.Frag) : Sp := fun vs H Q _ => ∃ (x y z : V) (dx dy dz : PyData) (u : Str), vs = [x, y, z, .str u] ∧ Dp K H x dx ∧ Dp K H y dy ∧ Dp K H z dz ∧ badF dx dy dz = some u ∧ ∀ H', Same H H' → Q (.bl true) H'
def sp_formats_asked (K : PySem.W.Frag) : Sp := fun vs H Q _ => ∃ a : Addr, vs = [.ref a] ∧ Src H a ∧ ∀ H', Src H' a → But a H H' → Q (.bl true) H'
def sp_law (K : PySem.W.Frag) : Sp := fun vs H Q _ => ∃ (a : Addr) (ns : List Int), vs = [.ref a] ∧ SqL K H a (ns.map V.int) ∧ ns.length ≤ 63 ∧ ∀ H', Q (.bl true) H'
theorem fF_w (w h n : V) : (fF w h n).lookup ("width" : Str) = some w := by
  have e : (("width" : Str) == ("width" : Str)) = true := beq_self_eq_true _
  simp only [fF, List.lookup, e]
theorem fF_h (w h n : V) : (fF w h n).lookup ("height" : Str) = some h := by
  have e : (("height" : Str) == ("width" : Str)) = false := by decide +kernel
  have e2 : (("height" : Str) == ("height" : Str)) = true := beq_self_eq_true _
  simp only [fF, List.lookup, e, e2]
theorem fF_n (w h n : V) : (fF w h n).lookup ("near" : Str) = some n := by
  have e : (("near" : Str) == ("width" : Str)) = false := by decide +kernel
  have e2 : (("near" : Str) == ("height" : Str)) = false := by decide +kernel
  have e3 : (("near" : Str) == ("near" : Str)) = true := beq_self_eq_true _
  simp only [fF, List.lookup, e, e2, e3]
theorem kit_self {K : PySem.W.Frag} {C : Addr} : PySem.W.kitOne K (.ref C) (.ref C) = some true := if_pos (beq_self_eq_true _)
theorem kit_not {K : PySem.W.Frag} {C : Addr} {t : String} (h1 : PySem.W.isClsIn K C = true) (h2 : PySem.W.typeIn K (.ref C) = some (.type "type")) (h3 : PySem.W.subIn K (.type t) (.ref C) = some false) : PySem.W.kitOne K (.type t) (.ref C) = some false := by
  unfold PySem.W.kitOne
  rw [if_neg (by simp)]
  unfold PySem.W.kitCls
  have h1' : (PySem.W.clsIn K C).isSome = true := h1
  simp only [h1', h2, beq_self_eq_true, Bool.and_self, if_true]
  exact h3
theorem nf_self {K : PySem.W.Frag} {C : Addr} : PySem.W.notFirst K C (.ref C) = true := by
  unfold PySem.W.notFirst
  simp
theorem nf_ty {K : PySem.W.Frag} {C : Addr} {t : String} (h : PySem.W.subIn K (.type t) (.ref C) = some false) : PySem.W.notFirst K C (.type t) = true := by
  unfold PySem.W.notFirst
  rw [h]
  simp
theorem badF_none {w h : Int} {n : Bool} (hw : 20 ≤ w ∧ w ≤ 60) (hh : 2 ≤ h ∧ h ≤ 12) : badF (.int w) (.int h) (.bool n) = none := by
  have e1 : wI 20 60 (.int w) = true := decide_eq_true hw
  have e2 : wI 2 12 (.int h) = true := decide_eq_true hh
  unfold badF
  have e3 : isB (.bool n) = true := rfl
  rw [e1, e2, e3]
  rfl
theorem make_ok {K : PySem.W.Frag} {C CF : Addr} {H : Hp} {x dx : Addr} {w h : Int} {n : Bool} {Q : VK} {E : XK} (hw : 20 ≤ w ∧ w ≤ 60) (hh : 2 ≤ h ∧ h ≤ 12) (nx : H x = none) (nd : H dx = none) (ne : dx ≠ x)
    (q : ∀ H', Same H H' → H' x = some (.ins C dx (fF (.int w) (.int h) (.bl n))) → Q (.ref x) H') : sp_Format_init K C CF [.ref x, .int w, .int h, .bl n] (upd (upd H dx (.own x)) x (.ins C dx [])) (fun v H2 => v = .non ∧ Q (.ref x) H2) E := by
  refine ⟨x, dx, .int w, .int h, .bl n, .int w, .int h, .bool n, rfl, upd_same, .int _, .int _, .bl _, fun z ez => ?_, fun _ H' e k => ⟨rfl, q H' (fun b o eb => k b o (ne_of_none eb nx) ?_) e⟩⟩
  · rw [badF_none hw hh] at ez
    cases ez
  · rw [upd_ne (ne_of_none eb nx), upd_ne (ne_of_none eb nd)]
    exact eb
theorem srcS {H H' : Hp} {a : Addr} (s : Src H a) (m : Same H H') : Src H' a := by
  obtain ⟨g1, g2, g3, e⟩ := s
  exact ⟨g1, g2, g3, m _ _ e⟩
theorem kno {d : PyData} {L : List Int} {P : Prop} (h : keptD d = some L) (e : keptD d = none) : P := by rw [h] at e; cases e
theorem kyes {d : PyData} {L : List Int} {P : List Int → Prop} (h : keptD d = some L) (q : P L) : ∀ L', keptD d = some L' → P L' := fun L' e => by
  rw [h] at e
  cases e
  exact q
theorem badno {w h : Int} {n : Bool} {P : Str → Prop} (hw : 20 ≤ w ∧ w ≤ 60) (hh : 2 ≤ h ∧ h ≤ 12) : ∀ z, badF (.int w) (.int h) (.bool n) = some z → P z := fun z e => by
  rw [badF_none hw hh] at e
  cases e
theorem mk_same {H H' : Hp} {x dx C : Addr} (nx : H x = none) (nd : H dx = none) (k : ∀ b o, b ≠ x → upd (upd H dx (.own x)) x (.ins C dx []) b = some o → H' b = some o) : Same H H' := fun b o eb =>
  k b o (ne_of_none eb nx) (by rw [upd_ne (ne_of_none eb nx), upd_ne (ne_of_none eb nd)]; exact eb)
def Row (K : PySem.W.Frag) (H : Hp) (r : Addr) : Prop := ∃ (l : Addr) (L : List Int) (s : Int), H r = some (.tup [.ref l, .int s]) ∧ SqT K H l (L.map V.int) ∧ okL L ∧ (s = 0 ∨ s = 1)
theorem Row.same {K : PySem.W.Frag} {H H' : Hp} {r : Addr} (m : Same H H') (h : Row K H r) : Row K H' r := by
  obtain ⟨l, L, s, e, hl, k1, k2⟩ := h
  exact ⟨l, L, s, m _ _ e, same_seqT m hl, k1, k2⟩
theorem Row.put {K : PySem.W.Frag} {H : Hp} {r D : Addr} {ys : List V} {o : HO} (hD : H D = some (.lst ys)) (n : r ≠ D) (h : Row K H r) : Row K (upd H D o) r := by
  obtain ⟨l, L, s, e, hl, k1, k2⟩ := h
  exact ⟨l, L, s, by rw [upd_ne n]; exact e, seqT_but hD (But.upd _) hl, k1, k2⟩
theorem ok_BadLabel_init (T : Tab K mg) : FnOk P w K mg base CX0 1 T.f_BadLabel_init T.d_BadLabel_init ["self", "label"] (sp_BadLabel_init K T.C_BadLabel) := by
  refine T.F_BadLabel_init.ok sc_BadLabel_init (fun vs H Q E h => ?_) (fun cdv A outer s H vs Q E hr h => ?_)
  · obtain ⟨a, v, rfl, _⟩ := h
    rfl
  · obtain ⟨a, v, rfl, hO, hN, ha, q⟩ := h
    refine ⟨_, (pss_one (ps_ost (pv 0) (pv 1))), ?_⟩
    exact ⟨_, rfl, _, rfl, a, _, rfl, hO, hN, .inl ⟨ha, fun dx h1 h2 => q dx h1 h2⟩⟩
theorem ok_BadFormat_init (T : Tab K mg) : FnOk P w K mg base CX0 1 T.f_BadFormat_init T.d_BadFormat_init ["self", "word"] (sp_BadFormat_init K T.C_BadFormat) := by
  refine T.F_BadFormat_init.ok sc_BadFormat_init (fun vs H Q E h => ?_) (fun cdv A outer s H vs Q E hr h => ?_)
  · obtain ⟨a, v, rfl, _⟩ := h
    rfl
  · obtain ⟨a, v, rfl, hO, hN, ha, q⟩ := h
    refine ⟨_, (pss_one (ps_ost (pv 0) (pv 1))), ?_⟩
    exact ⟨_, rfl, _, rfl, a, _, rfl, hO, hN, .inl ⟨ha, fun dx h1 h2 => q dx h1 h2⟩⟩
theorem ok_is_integer (T : Tab K mg) : FnOk P w K mg base CX0 1 T.f_is_integer T.d_is_integer ["thing"] (sp_is_integer K) := by
  refine T.F_is_integer.ok sc_is_integer (fun vs H Q E h => ?_) (fun cdv A outer s H vs Q E hr h => ?_)
  · obtain ⟨v, d, rfl, _⟩ := h
    rfl
  · obtain ⟨v, d, rfl, hd, q⟩ := h
    refine ⟨_, (pss_one (ps_ret (pe_and (pe_callB call_isi (by rfl) T.m_isinstance (by decide +kernel) (pa_cons (pv 0) (pa_cons (pe_bltn (v := .ty "int") (u := .type "int") (by rfl) T.m_int (by decide +kernel) rfl) pa_nil))) (pe_one (pe_not (pe_callB call_isi (by rfl) T.m_isinstance (by decide +kernel) (pa_cons (pv 0) (pa_cons (pe_bltn (v := .ty "bool") (u := .type "bool") (by rfl) T.m_bool (by decide +kernel) rfl) pa_nil)))))))), ?_⟩
    cases hd with
    | non => exact ⟨_, rfl, _, _, _, _, _, rfl, .ty "int", .base .non, kit_ty (r := false) (by decide +kernel), false, rfl, q⟩
    | bl b =>
      refine ⟨_, rfl, _, _, _, _, _, rfl, .ty "int", .base (.bl b), kit_ty (by decide +kernel), true, rfl, iteT ?_⟩
      exact ⟨_, rfl, _, _, _, _, _, rfl, .ty "bool", .base (.bl b), kit_ty (r := true) (by decide +kernel), true, rfl, q⟩
    | int i =>
      refine ⟨_, rfl, _, _, _, _, _, rfl, .ty "int", .base (.int i), kit_ty (by decide +kernel), true, rfl, iteT ?_⟩
      exact ⟨_, rfl, _, _, _, _, _, rfl, .ty "bool", .base (.int i), kit_ty (r := false) (by decide +kernel), false, rfl, q⟩
    | str z => exact ⟨_, rfl, _, _, _, _, _, rfl, .ty "int", .base (.str z), kit_ty (r := false) (by decide +kernel), false, rfl, q⟩
    | lst h _ => exact ⟨_, rfl, _, _, _, _, _, rfl, .ty "int", ty_L h, kit_ty (r := false) (by decide +kernel), false, rfl, q⟩
    | tup h _ => exact ⟨_, rfl, _, _, _, _, _, rfl, .ty "int", ty_T h, kit_ty (r := false) (by decide +kernel), false, rfl, q⟩
theorem ok_is_tuple (T : Tab K mg) : FnOk P w K mg base CX0 1 T.f_is_tuple T.d_is_tuple ["thing"] (sp_is_tuple K) := by
  refine T.F_is_tuple.ok sc_is_tuple (fun vs H Q E h => ?_) (fun cdv A outer s H vs Q E hr h => ?_)
  · obtain ⟨v, d, rfl, _⟩ := h
    rfl
  · obtain ⟨v, d, rfl, hd, q⟩ := h
    refine ⟨_, (pss_one (ps_ret (pe_callB call_isiT (by rfl) T.m_isinstance (by decide +kernel) (pa_cons (pv 0) (pa_cons (pe_tup (pa_cons (pe_bltn (v := .ty "tuple") (u := .type "tuple") (by rfl) T.m_tuple (by decide +kernel) rfl) (pa_cons (pe_bltn (v := .ty "list") (u := .type "list") (by rfl) T.m_list (by decide +kernel) rfl) pa_nil))) pa_nil))))), ?_⟩
    refine ⟨_, rfl, (by show 2 ≤ sizeLine; decide), fun tp ntp => ?_⟩
    have s1 := same_upd (o := .tup [.ty "tuple", .ty "list"]) ntp
    have q1 := q _ s1
    cases hd with
    | lst h _ => exact ⟨_, tp, _, _, _, true, rfl, upd_same, .cons (.ty "tuple") (.cons (.ty "list") .nil), ty_L (s1.seq h), kit2_L, q1⟩
    | tup h _ => exact ⟨_, tp, _, _, _, true, rfl, upd_same, .cons (.ty "tuple") (.cons (.ty "list") .nil), ty_T (same_seqT s1 h), kit2_T, q1⟩
    | non => exact ⟨_, tp, _, _, _, false, rfl, upd_same, .cons (.ty "tuple") (.cons (.ty "list") .nil), .base .non, kit2_no (by decide +kernel) (by decide +kernel), q1⟩
    | bl b => exact ⟨_, tp, _, _, _, false, rfl, upd_same, .cons (.ty "tuple") (.cons (.ty "list") .nil), .base (.bl b), kit2_no (by decide +kernel) (by decide +kernel), q1⟩
    | int i => exact ⟨_, tp, _, _, _, false, rfl, upd_same, .cons (.ty "tuple") (.cons (.ty "list") .nil), .base (.int i), kit2_no (by decide +kernel) (by decide +kernel), q1⟩
    | str z => exact ⟨_, tp, _, _, _, false, rfl, upd_same, .cons (.ty "tuple") (.cons (.ty "list") .nil), .base (.str z), kit2_no (by decide +kernel) (by decide +kernel), q1⟩
theorem ok_read_integer (T : Tab K mg) : FnOk P w K mg base CX0 1 T.f_read_integer T.d_read_integer ["word", "least", "most"] (sp_read_integer K) := by
  refine T.F_read_integer.ok sc_read_integer (fun vs H Q E h => ?_) (fun cdv A outer s H vs Q E hr h => ?_)
  · obtain ⟨z, rfl, _⟩ := h
    rfl
  · obtain ⟨z, rfl, hz, q⟩ := h
    refine ⟨_, (pss_cons (ps_if (pt_not (pt_chain op_le op_le pe_int (pe_callB call_len_str (by rfl) T.m_len PySem.boot_len (pa_cons (pv 0) pa_nil)) (pe_callB call_len_str (by rfl) T.m_len PySem.boot_len (pa_cons (pe_callTy call_str_int (by rfl) T.m_str (by decide +kernel) (pa_cons (pv 2) pa_nil)) pa_nil))))
      (pss_one (ps_ret pe_non))
      pss_nil)
      (pss_cons (ps_if (PW.pt (pw_or (pt_not (pt_val (pe_callB (cr_all rfl) (by rfl) T.m_all (by decide +kernel) (pa_cons (pe_lc (own := [("digit", 4)]) (g := gName 4) (by rfl) sc_read_integer.nd (pi_str (pv 0)) (blkOk_by (own := [("digit", 4)]) (N := N_read_integer) (sc := defScope s_read_integer) (by decide +kernel)) (fun _ _ _ _ _ => pg_name (i := 4) sc_read_integer.nd rfl (.inl rfl)) (fun _ _ _ _ _ => pts_nil) (fun _ _ _ _ _ => (pe_cmpR op_in_sign (pv 4) (pe_glob (v := .str "0123456789") (by rfl) T.c_DIGITS ⟨_, rfl⟩) rfl))) pa_nil)))) (pw_or1 (PW.pt (pw_and (pt_cmpR op_eq (pe_ix ix_str (pv 0) pe_int (fun _ _ => rfl)) pe_str (nomark _)) (pw_and1 (pt_cmpR op_ne (pv 0) pe_str (nomark _))))))))
      (pss_one (ps_ret pe_non))
      pss_nil)
      (pss_cons (ps_set (i := 3) sc_read_integer.nd rfl (.inl rfl) (pe_callTy call_int_str (by rfl) T.m_int (by decide +kernel) (pa_cons (pv 0) pa_nil)))
      (pss_one (ps_ret (pe_ifExp (pt_chain op_le op_le (pv 1) (pv 3) (pv 2)) (pv 3) pe_non)))))), ?_⟩
    have hz2 : z.length ≤ sizeLine := Nat.le_of_lt (small1000 hz)
    have l99 : ((toString (99 : Int) : Str)).length = 2 := by decide +kernel
    have lg : (99 : Int).natAbs.log2 < 1920 := by decide
    have hl : z.length = z.cps.toList.length := rfl
    refine ⟨_, rfl, z, rfl, hz2, _, _, rfl, rfl, _, rfl, ite2 (fun e => ?_) (fun e => ?_)⟩
    · have h1 : (1 : Int) ≤ (z.length : Int) := of_decide_eq_true e
      refine ⟨_, rfl, 99, rfl, lg, _, rfl, (by rw [l99]; decide), _, _, rfl, rfl, _, rfl, ?_⟩
      rw [l99]
      by_cases h2 : (z.length : Int) ≤ ((2 : Nat) : Int)
      · rw [decide_eq_true h2]
        show if (!true) = true then _ else _
        refine iteF ?_
        refine ⟨_, rfl, z, rfl, fun D nD => ?_⟩
        refine lc_it walk_str (fun i H' => Same H H' ∧ ∃ bs : List Bool, H' D = some (.lst (bs.map V.bl)) ∧ bs = (z.cps.toList.take i).map dg) ⟨same_upd nD, [], upd_same, rfl⟩ (fun _ _ _ _ => trivial) ?_ ?_
        · rintro i x H' H'' hi ⟨sm, bs, eD, eb⟩ ⟨rfl, c, hc, rfl⟩
          have hc2 : z.cps.toList[i]? = some c := by
            rw [Array.getElem?_toList]; exact hc
          have hi2 := (List.getElem?_eq_some_iff.mp hc2).1
          refine ⟨rfl, ?_⟩
          refine ⟨_, rfl, c, _, rfl, rfl, _, eD, ?_, same_put sm nD _, bs ++ [dg c], ?_, ?_⟩
          · rw [List.length_map, eb, List.length_map, List.length_take]
            exact small1000 (by omega)
          · rw [upd_same, dig_in, List.map_append]; rfl
          · rw [eb, List.take_add_one, hc2, List.map_append]; rfl
        · rintro H' ⟨sm, bs, eD, eb⟩
          have eb2 : bs = z.cps.toList.map dg := by
            rw [eb]
            congr 1
            exact List.take_of_length_le (by rw [Array.length_toList]; exact Nat.le_refl _)
          have q' := q H' sm
          refine ⟨D, bs, rfl, .inl (.inl eD), _, rfl, ?_⟩
          subst eb2
          match e : z.cps.toList with
          | [] => rw [e] at hl; rw [hl] at h1; simp at h1
          | a :: b :: c :: r => rw [e] at hl; simp only [List.length_cons] at hl; omega
          | [a] =>
            have ez := str1 e
            by_cases ha : 48 ≤ a ∧ a ≤ 57
            · have hd : ([a].map dg).all id = true := by simp [dg, ha]
              have hn : rdI z = some ((a : Int) - 48) := by
                unfold rdI
                rw [e]
                exact if_pos ha
              have hb := rd_bound hn
              rw [hn] at q'
              rw [hd]
              have hat : atI z.cps.toList (0 : Int) = some a := by rw [e]; rfl
              refine ⟨_, rfl, _, _, a, rfl, rfl, hz2, hat, rfl, _, rfl, ?_⟩
              by_cases h48 : a = 48
              · rw [decide_eq_true (show V.str ⟨#[a]⟩ = V.str "0" by rw [zero_eq1]; exact h48)]
                refine ⟨_, rfl, rfl, _, rfl, ?_⟩
                rw [decide_eq_true (show V.str z = V.str "0" by rw [ez, zero_eq1]; exact h48)]
                refine ⟨_, rfl, _, _, rfl, (by rw [ez]; exact int1 ha), (by rw [hl, e]; simp), ?_⟩
                refine ⟨_, rfl, _, rfl, _, _, rfl, rfl, _, rfl, ite2 (fun _ => ?_) (fun h => absurd (decide_eq_true hb.1) h)⟩
                exact ⟨_, rfl, _, _, rfl, rfl, _, rfl, ite2 (fun _ => ⟨_, rfl, q'⟩) (fun h => absurd (decide_eq_true hb.2) h)⟩
              · rw [decide_eq_false (show ¬ V.str ⟨#[a]⟩ = V.str "0" by rw [zero_eq1]; exact h48)]
                refine ⟨_, rfl, _, _, rfl, (by rw [ez]; exact int1 ha), (by rw [hl, e]; simp), ?_⟩
                refine ⟨_, rfl, _, rfl, _, _, rfl, rfl, _, rfl, ite2 (fun _ => ?_) (fun h => absurd (decide_eq_true hb.1) h)⟩
                exact ⟨_, rfl, _, _, rfl, rfl, _, rfl, ite2 (fun _ => ⟨_, rfl, q'⟩) (fun h => absurd (decide_eq_true hb.2) h)⟩
            · have hd : ([a].map dg).all id = false := by simp [dg]; omega
              have hn : rdI z = none := by
                unfold rdI
                rw [e]
                exact if_neg ha
              rw [hn] at q'
              rw [hd]
              exact q'
          | [a, b] =>
            have ez := str2 e
            by_cases hab : (48 ≤ a ∧ a ≤ 57) ∧ (48 ≤ b ∧ b ≤ 57)
            · have hd : ([a, b].map dg).all id = true := by simp [dg, hab]
              rw [hd]
              have hat : atI z.cps.toList (0 : Int) = some a := by rw [e]; rfl
              refine ⟨_, rfl, _, _, a, rfl, rfl, hz2, hat, rfl, _, rfl, ?_⟩
              by_cases h48 : a = 48
              · have hn : rdI z = none := by
                  unfold rdI
                  rw [e]
                  exact if_neg (by omega)
                rw [hn] at q'
                rw [decide_eq_true (show V.str ⟨#[a]⟩ = V.str "0" by rw [zero_eq1]; exact h48)]
                refine ⟨_, rfl, rfl, _, rfl, ?_⟩
                rw [decide_eq_false (show ¬ V.str z = V.str "0" by rw [ez, zero_ne2]; exact id)]
                exact q'
              · have hn : rdI z = some (((a : Int) - 48) * 10 + ((b : Int) - 48)) := by
                  unfold rdI
                  rw [e]
                  exact if_pos (by omega)
                have hb := rd_bound hn
                rw [hn] at q'
                rw [decide_eq_false (show ¬ V.str ⟨#[a]⟩ = V.str "0" by rw [zero_eq1]; exact h48)]
                refine ⟨_, rfl, _, _, rfl, (by rw [ez]; exact int2 hab.1 hab.2), (by rw [hl, e]; simp), ?_⟩
                refine ⟨_, rfl, _, rfl, _, _, rfl, rfl, _, rfl, ite2 (fun _ => ?_) (fun h => absurd (decide_eq_true hb.1) h)⟩
                exact ⟨_, rfl, _, _, rfl, rfl, _, rfl, ite2 (fun _ => ⟨_, rfl, q'⟩) (fun h => absurd (decide_eq_true hb.2) h)⟩
            · have hd : ([a, b].map dg).all id = false := by
                simp [dg]
                omega
              have hn : rdI z = none := by
                unfold rdI
                rw [e]
                exact if_neg (by omega)
              rw [hn] at q'
              rw [hd]
              exact q'
      · rw [decide_eq_false h2]
        show if (!false) = true then _ else _
        refine iteT ?_
        have hn : rdI z = none := by
          unfold rdI
          match e : z.cps.toList with
          | [] => rfl
          | [a] => rw [e] at hl; simp only [List.length_cons, List.length_nil] at hl; omega
          | [a, b] => rw [e] at hl; simp only [List.length_cons, List.length_nil] at hl; omega
          | a :: b :: c :: r => rfl
        have q' := q H (Same.refl H)
        rw [hn] at q'
        exact q'
    · have h1 : ¬ (1 : Int) ≤ (z.length : Int) := fun h => e (decide_eq_true h)
      have hn : rdI z = none := by
        unfold rdI
        match e : z.cps.toList with
        | [] => rfl
        | a :: r => rw [e] at hl; simp only [List.length_cons] at hl; omega
      have q' := q H (Same.refl H)
      rw [hn] at q'
      exact ⟨_, rfl, q'⟩
theorem ok_Format_eq (T : Tab K mg) : FnOk P w K mg base CX0 1 T.f_Format_eq T.d_Format_eq ["self", "other"] (sp_Format_eq K T.C_Format) := by
  refine T.F_Format_eq.ok sc_Format_eq (fun vs H Q E h => ?_) (fun cdv A outer s H vs Q E hr h => ?_)
  · obtain ⟨a, dx, y, w, h', n, rfl, _⟩ := h
    rfl
  · obtain ⟨a, dx, y, w, h', n, rfl, ha, q⟩ := h
    refine ⟨_, (pss_one (ps_ret (pe_and (pe_callB call_isi (by rfl) T.m_isinstance (by decide +kernel) (pa_cons (pv 1) (pa_cons (pe_glob (v := .ref T.C_Format) (by rfl) T.cg_Format rfl) pa_nil))) (pe_and (pe_cmpR op_eq (pe_fld (pv 0) rfl) (pe_fld (pv 1) rfl) (nomark _)) (pe_and (pe_cmpR op_eq (pe_fld (pv 0) rfl) (pe_fld (pv 1) rfl) (nomark _)) (pe_one (pe_cmpR op_eq (pe_fld (pv 0) rfl) (pe_fld (pv 1) rfl) (nomark _)))))))), ?_⟩
    rcases q with ⟨b, dy, w2, h2, n2, rfl, hb, q⟩ | ⟨t, ty, hk, q⟩
    · refine ⟨_, rfl, _, _, _, _, _, rfl, .own T.C_Format, .base (.ins hb T.cl_Format T.ca_Format T.cn_Format T.ct_Format T.cm_Format), kit_self, true, rfl, iteT ?_⟩
      refine ⟨_, rfl, a, _, dx, _, _, rfl, ha, T.cl_Format, T.na_Format_width, fF_w _ _ _, _, rfl, b, _, dy, _, _, rfl, hb, T.cl_Format, T.na_Format_width, fF_w _ _ _, rfl, _, rfl, ite2 (fun e => ?_) (fun e => ?_)⟩
      · have e1 : w = w2 := V.int.inj (of_decide_eq_true e)
        refine ⟨_, rfl, a, _, dx, _, _, rfl, ha, T.cl_Format, T.na_Format_height, fF_h _ _ _, _, rfl, b, _, dy, _, _, rfl, hb, T.cl_Format, T.na_Format_height, fF_h _ _ _, rfl, _, rfl, ite2 (fun e => ?_) (fun e => ?_)⟩
        · have e2 : h' = h2 := V.int.inj (of_decide_eq_true e)
          refine ⟨_, rfl, a, _, dx, _, _, rfl, ha, T.cl_Format, T.na_Format_near, fF_n _ _ _, _, rfl, b, _, dy, _, _, rfl, hb, T.cl_Format, T.na_Format_near, fF_n _ _ _, rfl, ?_⟩
          have e3 : decide (V.bl n = V.bl n2) = decide (w = w2 ∧ h' = h2 ∧ n = n2) := by simp [e1, e2]
          rw [e3]
          exact q
        · have e2 : ¬ h' = h2 := fun z => e (decide_eq_true (congrArg V.int z))
          rw [decide_eq_false (fun z => e2 z.2.1)] at q
          exact q
      · have e1 : ¬ w = w2 := fun z => e (decide_eq_true (congrArg V.int z))
        rw [decide_eq_false (fun z => e1 z.1)] at q
        exact q
    · exact ⟨_, rfl, _, _, _, _, _, rfl, .own T.C_Format, ty, hk, false, rfl, q⟩
theorem ok_source (T : Tab K mg) : FnOk P w K mg base CX0 1 T.f_source T.d_source ["_law_script", "_law_k"] (sp_source K) := by
  refine T.F_source.ok sc_source (fun vs H Q E h => ?_) (fun cdv A outer s H vs Q E hr h => ?_)
  · obtain ⟨a, ns, k, rfl, _⟩ := h
    rfl
  · obtain ⟨a, ns, k, rfl, hS, q⟩ := h
    refine ⟨_, (C8.pss_cut (ps_set (i := 2) sc_source.nd rfl (.inl rfl) (pe_ifExp (pt_cmpR op_lt (pv 1) (pe_callB call_len_seq (by rfl) T.m_len PySem.boot_len (pa_cons (pv 0) pa_nil)) (nomark _)) (pe_ix ix_list (pv 0) (pv 1) (fun _ _ => rfl)) (pe_op op_add (pe_op op_mod (pe_callTy call_int1 (by rfl) T.m_int (by decide +kernel) (pa_cons (pe_op op_add (pe_callB (cr_sum rfl) (by rfl) T.m_sum (by decide +kernel) (pa_cons (pe_slice sl_list (pv 0) po_none (po_some pe_int)) pa_nil)) (pe_op op_mul pe_int (pe_callB (cr_sum rfl) (by rfl) T.m_sum (by decide +kernel) (pa_cons (pe_slice sl_list (pv 0) (po_some pe_int) (po_some pe_int)) pa_nil)))) pa_nil)) pe_int) (pe_op op_mul pe_int (pv 1)))))
      (pss_cons (ps_set (i := 3) sc_source.nd rfl (.inl rfl) (pe_callB call_abs (by rfl) T.m_abs (by decide +kernel) (pa_cons (pv 2) pa_nil)))
      (C8.pss_cut (ps_set (i := 4) sc_source.nd rfl (.inl rfl) (pe_ifExp (pt_cmpR op_ge (pv 3) pe_int (nomark _)) (pv 3) pe_int))
      (pss_one (ps_ret (pe_lst (pa_cons (pv 4) (pa_cons (pe_op op_mod (pe_callTy call_int1 (by rfl) T.m_int (by decide +kernel) (pa_cons (pe_op op_add (pe_op op_add (pe_op op_add (pe_op op_mul (pv 3) pe_int) (pe_callTy call_int1 (by rfl) T.m_int (by decide +kernel) (pa_cons (pe_cmpR op_lt (pv 2) pe_int (nomark _)) pa_nil))) (pe_op op_mul pe_int (pv 1))) pe_int) pa_nil)) pe_int) (pa_cons pe_int pa_nil))))))))), ?_⟩
    refine ⟨fun σ' H' => ∃ c : Int, σ' = [some (.ref a), some (.int k), some (.int c), none, none] ∧ Same H H', ?_, ?_⟩
    · refine ⟨_, rfl, _, rfl, _, _, rfl, .inl hS, _, _, rfl, rfl, _, rfl, ite2 (fun e => ?_) (fun e => ?_)⟩
      · have e1 : (k : Int) < ((ns.map V.int).length : Int) := of_decide_eq_true e
        rw [List.length_map] at e1
        have hk : k < ns.length := by omega
        have g : (ns.map V.int)[k]? = some (.int ns[k]) := by
          rw [List.getElem?_map, List.getElem?_eq_getElem hk]
          rfl
        exact ⟨_, rfl, _, rfl, _, _, _, _, rfl, rfl, hS, atI_nat g, _, rfl, Same.refl H⟩
      · refine ⟨_, rfl, 1, rfl, _, _, rfl, hS, fun p1 n1 => ?_⟩
        obtain ⟨m1, c1⟩ := cut_map ns none (some 1)
        rw [c1]
        have s1 : Same H (upd H p1 (.lst (m1.map V.int))) := same_upd n1
        refine ⟨_, m1, rfl, .inl (.inl upd_same), _, rfl, 1, rfl, 2, rfl, _, _, rfl, s1.seq hS, fun p2 n2 => ?_⟩
        obtain ⟨m2, c2⟩ := cut_map ns (some 1) (some 2)
        rw [c2]
        refine ⟨_, m2, rfl, .inl (.inl upd_same), _, _, rfl, rfl, .inl ⟨by decide, by decide⟩, _, _, rfl, rfl, .inl ⟨_, rfl, _, _, rfl, rfl, (by show (0 : Int) < 1000003; decide), _, rfl, _, _, rfl, rfl, .inl ⟨by decide, by decide⟩, _, _, rfl, rfl, _, rfl, s1.trans (same_upd n2)⟩⟩
    · rintro σ' H1 ⟨c, rfl, s1⟩
      refine ⟨_, rfl, _, rfl, ?_⟩
      refine ⟨fun σ' H' => ∃ n g : Int, σ' = [some (.ref a), some (.int k), some (.int c), some (.int n), some (.int g)] ∧ H' = H1, ?_, ?_⟩
      · refine ⟨_, rfl, _, _, rfl, rfl, _, rfl, ite2 (fun e => ?_) (fun e => ?_)⟩
        · exact ⟨_, rfl, _, _, rfl, rfl⟩
        · exact ⟨_, _, rfl, rfl⟩
      · rintro σ' H' ⟨n, g, rfl, rfl⟩
        refine ⟨_, rfl, _, rfl, _, _, rfl, rfl, .inr ⟨by decide, by decide⟩, _, rfl, _, _, rfl, rfl, .inr ⟨_, rfl, _, _, rfl, rfl, _, rfl, _, _, rfl, rfl, .inl ⟨by decide, by decide⟩, _, _, rfl, rfl, _, _, rfl, rfl, .inl ⟨_, rfl, _, _, rfl, rfl, (by show (0 : Int) < 2147483647; decide), ?_⟩⟩⟩
        refine ⟨(by show 3 ≤ sizeLine; decide), fun p np => ?_⟩
        exact q p _ (s1.trans (same_upd np)) (s1.free np) ⟨_, _, _, upd_same⟩
theorem ok_pick (T : Tab K mg) : FnOk P w K mg base CX0 1 T.f_pick T.d_pick ["_law_source_here", "_law_many"] (sp_pick K) := by
  refine T.F_pick.ok sc_pick (fun vs H Q E h => ?_) (fun cdv A outer s H vs Q E hr h => ?_)
  · obtain ⟨a, m, rfl, _⟩ := h
    rfl
  · obtain ⟨a, m, rfl, ⟨g, x, c, hs⟩, h1, h2, q⟩ := h
    refine ⟨_, (pss_cons (ps_if (pt_cmpR op_lt (pv 1) pe_int (nomark _))
      (pss_one (ps_ret pe_int))
      pss_nil)
      (pss_cons (ps_if (pt_cmpR op_gt (pe_ix ix_list (pv 0) pe_int (fun _ _ => rfl)) pe_int (nomark _))
      (pss_cons (ps_set (i := 2) sc_pick.nd rfl (.inl rfl) (pe_op op_mod (pe_callTy call_int1 (by rfl) T.m_int (by decide +kernel) (pa_cons (pe_ix ix_list (pv 0) pe_int (fun _ _ => rfl)) pa_nil)) (pv 1)))
        (pss_cons (ps_asg (pe_op op_fdiv (pe_ix ix_list (pv 0) pe_int (fun _ _ => rfl)) (pv 1)) (pg_sub (pv 0) pe_int set_list))
        (pss_one (ps_ret (pv 2)))))
      pss_nil)
      (pss_cons (ps_asg (pe_op op_add (pe_ix ix_list (pv 0) pe_int (fun _ _ => rfl)) pe_int) (pg_sub (pv 0) pe_int set_list))
      (pss_cons (ps_asg (pe_op op_mod (pe_callTy call_int1 (by rfl) T.m_int (by decide +kernel) (pa_cons (pe_op op_add (pe_op op_add (pe_op op_mul (pe_ix ix_list (pv 0) pe_int (fun _ _ => rfl)) pe_int) (pe_op op_mul (pe_ix ix_list (pv 0) pe_int (fun _ _ => rfl)) pe_int)) pe_int) pa_nil)) pe_int) (pg_sub (pv 0) pe_int set_list))
      (pss_one (ps_ret (pe_op op_mod (pe_callTy call_int1 (by rfl) T.m_int (by decide +kernel) (pa_cons (pe_op op_fdiv (pe_op op_mod (pe_callTy call_int1 (by rfl) T.m_int (by decide +kernel) (pa_cons (pe_op op_add (pe_op op_add (pe_op op_mul (pe_ix ix_list (pv 0) pe_int (fun _ _ => rfl)) pe_int) (pe_op op_mul (pe_ix ix_list (pv 0) pe_int (fun _ _ => rfl)) pe_int)) pe_int) pa_nil)) pe_int) pe_int) pa_nil)) (pv 1)))))))), ?_⟩
    refine ⟨_, rfl, _, _, rfl, rfl, _, rfl, ite2 (fun e => ?_) (fun e => ?_)⟩
    · exact q 0 H ⟨g, x, c, hs⟩ (But.refl a H) (by decide) (by omega)
    · have hm : ¬ m < 2 := fun z => e (decide_eq_true z)
      refine ⟨_, rfl, _, _, _, _, rfl, rfl, .inl (.inl hs), rfl, _, _, rfl, rfl, _, rfl, ite2 (fun e => ?_) (fun e => ?_)⟩
      · refine ⟨_, rfl, _, _, _, _, rfl, rfl, .inl (.inl hs), rfl, .inl ⟨_, rfl, _, rfl, _, _, rfl, rfl, (by omega), ?_⟩⟩
        refine ⟨_, rfl, _, _, _, _, rfl, rfl, .inl (.inl hs), rfl, _, rfl, _, _, rfl, rfl, ⟨by omega, by omega⟩, ?_⟩
        refine ⟨_, rfl, _, _, _, _, rfl, rfl, hs, rfl, ?_⟩
        refine ⟨_, rfl, ?_⟩
        exact q _ _ ⟨_, _, _, upd_same⟩ (But.upd _) (Int.emod_nonneg _ (by omega)) (Int.emod_lt_of_pos _ (by omega))
      · refine ⟨_, rfl, _, _, _, _, rfl, rfl, .inl (.inl hs), rfl, _, _, rfl, rfl, _, rfl, _, _, _, _, rfl, rfl, hs, rfl, ?_⟩
        refine ⟨_, rfl, _, _, _, _, rfl, rfl, .inl (.inl upd_same), rfl, _, _, rfl, rfl, .inr ⟨by decide, by decide⟩, _, rfl, _, _, _, _, rfl, rfl, .inl (.inl upd_same), rfl, _, _, rfl, rfl, .inr ⟨by decide, by decide⟩, _, _, rfl, rfl, _, _, rfl, rfl, .inl ⟨_, rfl, _, _, rfl, rfl, (by show (0 : Int) < 2147483647; decide), ?_⟩⟩
        refine ⟨_, rfl, _, _, _, _, rfl, rfl, upd_same, rfl, ?_⟩
        refine ⟨_, rfl, _, _, _, _, rfl, rfl, .inl (.inl upd_same), rfl, _, _, rfl, rfl, .inr ⟨by decide, by decide⟩, _, rfl, _, _, _, _, rfl, rfl, .inl (.inl upd_same), rfl, _, _, rfl, rfl, .inr ⟨by decide, by decide⟩, _, _, rfl, rfl, _, _, rfl, rfl, .inl ⟨_, rfl, _, _, rfl, rfl, (by show (0 : Int) < 2147483629; decide), _, _, rfl, rfl, ⟨by decide, by decide⟩, .inl ⟨_, rfl, _, rfl, _, _, rfl, rfl, (by omega), ?_⟩⟩⟩
        exact q _ _ ⟨_, _, _, upd_same⟩ (((But.upd _).trans (But.upd _))) (Int.emod_nonneg _ (by omega)) (Int.emod_lt_of_pos _ (by omega))
theorem ok_law_is_integer (T : Tab K mg) : FnOk P w K mg base CX0 1 T.f_law_is_integer T.d_law_is_integer ["_law_actual"] (sp_law_is_integer K) := by
  refine T.F_law_is_integer.ok sc_law_is_integer (fun vs H Q E h => ?_) (fun cdv A outer s H vs Q E hr h => ?_)
  · obtain ⟨i, rfl, _⟩ := h
    rfl
  · obtain ⟨i, rfl, q⟩ := h
    refine ⟨_, (pss_one (ps_ret (pe_and (pe_callB call_isi (by rfl) T.m_isinstance (by decide +kernel) (pa_cons (pv 0) (pa_cons (pe_bltn (v := .ty "int") (u := .type "int") (by rfl) T.m_int (by decide +kernel) rfl) pa_nil))) (pe_one (pe_not (pe_callB call_isi (by rfl) T.m_isinstance (by decide +kernel) (pa_cons (pv 0) (pa_cons (pe_bltn (v := .ty "bool") (u := .type "bool") (by rfl) T.m_bool (by decide +kernel) rfl) pa_nil)))))))), ?_⟩
    refine ⟨_, rfl, _, _, _, _, _, rfl, .ty "int", .base (.int i), kit_ty (by decide +kernel), true, rfl, iteT ?_⟩
    exact ⟨_, rfl, _, _, _, _, _, rfl, .ty "bool", .base (.int i), kit_ty (r := false) (by decide +kernel), false, rfl, q⟩
theorem ok_label_word (T : Tab K mg) : FnOk P w K mg base CX0 1 T.f_label_word T.d_label_word ["_law_label_here"] (sp_label_word K) := by
  refine T.F_label_word.ok sc_label_word (fun vs H Q E h => ?_) (fun cdv A outer s H vs Q E hr h => ?_)
  · obtain ⟨a, L, rfl, _⟩ := h
    rfl
  · obtain ⟨a, L, rfl, hp, hL, q⟩ := h
    refine ⟨_, (pss_one (ps_ret (pe_join pe_str (pe_lc (own := [("_law_part", 1)]) (g := gName 1) (by rfl) sc_label_word.nd (pi_tup (pv 0)) (blkOk_by (own := [("_law_part", 1)]) (N := N_label_word) (sc := defScope s_label_word) (by decide +kernel)) (fun _ _ _ _ _ => pg_name (i := 1) sc_label_word.nd rfl (.inl rfl)) (fun _ _ _ _ _ => pts_nil) (fun _ _ _ _ _ => (pe_callTy call_str_int (by rfl) T.m_str (by decide +kernel) (pa_cons (pv 1) pa_nil))))))), ?_⟩
    have s1 := Same.refl H
    refine ⟨⟨_, rfl⟩, _, rfl, a, rfl, ⟨_, hp⟩, fun D nD => ?_⟩
    refine lc_tup (xs := L.map V.int) (fun i H' => Same _ H' ∧ H' D = some (.lst (((L.take i).map fun i => (toString i : Str)).map V.str))) ⟨same_upd nD, upd_same⟩ (fun i H' _ hh => same_seqT hh.1 hp) ?_ ?_
    · rintro i x H' hx ⟨sm, eD⟩
      obtain ⟨n, rfl, hn⟩ : ∃ n, x = V.int n ∧ L[i]? = some n := by
        rw [List.getElem?_map] at hx
        cases e : L[i]? with
        | none => rw [e] at hx; cases hx
        | some n => rw [e] at hx; exact ⟨n, (Option.some.inj hx).symm, rfl⟩
      have hb := hL.2.2 n (List.mem_of_getElem? hn)
      have hl := hL.1
      refine ⟨rfl, ?_⟩
      refine ⟨_, rfl, n, rfl, log_small (by omega), _, eD, ?_, same_put sm nD _, ?_⟩
      · rw [List.length_map, List.length_map, List.length_take]; exact small1000 (by omega)
      · rw [upd_same, List.take_add_one, hn, List.map_append, List.map_append]; rfl
    rintro H' ⟨sm, eD⟩
    rw [List.length_map, List.take_length] at eD
    refine ⟨_, D, _, rfl, rfl, .inl (.inl (.inl eD)), ?_, q H' (s1.trans sm)⟩
    exact num_fit hL
theorem ok_law_read_label (T : Tab K mg) : FnOk P w K mg base CX0 1 T.f_law_read_label T.d_law_read_label ["_law_word"] (sp_law_read_label K) := by
  refine T.F_law_read_label.ok sc_law_read_label (fun vs H Q E h => ?_) (fun cdv A outer s H vs Q E hr h => ?_)
  · obtain ⟨z, rfl, _⟩ := h
    rfl
  · obtain ⟨z, rfl, hz, q⟩ := h
    refine ⟨_, (pss_cons (ps_set (i := 1) sc_law_read_label.nd rfl (.inl rfl) (pe_lst pa_nil))
      (pss_cons (ps_for PassesOwn.never rfl (pi_list (pe_split (pv 0) pe_str)) (pg_name (i := 2) sc_law_read_label.nd rfl (.inl rfl))
      (pss_cons (ps_set (i := 3) sc_law_read_label.nd rfl (.inl rfl) (pe_cmpR op_gt (pe_callB call_len_seq (by rfl) T.m_len PySem.boot_len (pa_cons (pe_lc (own := [("_law_sign_here", 4)]) (g := gName 4) (by rfl) sc_law_read_label.nd (pi_str (pv 2)) (blkOk_by (own := [("_law_sign_here", 4)]) (N := N_law_read_label) (sc := defScope s_law_read_label) (by decide +kernel)) (fun _ _ _ _ _ => pg_name (i := 4) sc_law_read_label.nd rfl (.inl rfl)) (fun _ _ _ _ _ => (pts_one (pt_cmpR op_notIn_sign (pv 4) pe_str rfl))) (fun _ _ _ _ _ => (pv 4))) pa_nil)) pe_int (nomark _)))
        (pss_cons (ps_if (PW.pt (pw_or (pt_val (pv 3)) (pw_or (pt_not (pt_chain op_le op_le pe_int (pe_callB call_len_str (by rfl) T.m_len PySem.boot_len (pa_cons (pv 2) pa_nil)) pe_int)) (pw_or1 (PW.pt (pw_and (pt_cmpR op_eq (pe_callB call_len_str (by rfl) T.m_len PySem.boot_len (pa_cons (pv 2) pa_nil)) pe_int (nomark _)) (pw_and1 (pt_cmpR op_eq (pe_ix ix_str (pv 2) pe_int (fun _ _ => rfl)) pe_str (nomark _)))))))))
        (pss_one (ps_ret pe_non))
        pss_nil)
        (pss_one (ps_expr (pe_bm PySem.F.plainAttrs_list PySem.F.slot_list_append PySem.F.type_list_append mt_append (pv 1) (pa_cons (pe_callTy call_int_str (by rfl) T.m_int (by decide +kernel) (pa_cons (pv 2) pa_nil)) pa_nil)))))))
      (pss_one (ps_ret (pe_ifExp (PW.pt (pw_and (pt_cmpR op_le (pe_callB call_len_seq (by rfl) T.m_len PySem.boot_len (pa_cons (pv 1) pa_nil)) pe_int (nomark _)) (pw_and1 (pt_cmpR op_ge (pe_ix ix_list (pv 1) (pe_un un_neg pe_int) (fun _ _ => rfl)) pe_int (nomark _))))) (pe_callTy call_tuple_of (by rfl) T.m_tuple (by decide +kernel) (pa_cons (pv 1) pa_nil)) pe_non))))), ?_⟩
    have hd1 : 1 ≤ ("." : Str).length := by decide +kernel
    have hcnt := split_cnt z "." hd1
    refine ⟨Nat.zero_le _, fun D nD => ?_⟩
    have sD : Same H (upd H D (.lst [])) := same_upd nD
    have eD0 : (upd H D (.lst [])) D = some (.lst []) := upd_same
    generalize upd H D (.lst []) = H0 at sD eD0
    refine ⟨_, rfl, ⟨_, rfl⟩, z, _, rfl, rfl, (by decide +kernel), ?_, fun p np => ?_⟩
    · have e2 : sizeLine = 16777216 := by decide
      omega
    have npD : p ≠ D := (ne_of_none eD0 np).symm
    have ep : (upd H0 p (.lst ((Txt.split z ".").map V.str))) p = some (.lst ((Txt.split z ".").map V.str)) := upd_same
    have s1 := sD.trans (same_upd (o := .lst ((Txt.split z ".").map V.str)) np)
    have eD1 : (upd H0 p (.lst ((Txt.split z ".").map V.str))) D = some (.lst []) := same_upd np _ _ eD0
    generalize upd H0 p (.lst ((Txt.split z ".").map V.str)) = H1 at ep s1 eD1
    refine ⟨p, rfl, ⟨_, .inl (.inl ep)⟩, for_list (xs := (Txt.split z ".").map V.str) (fun i σ' H' => ∃ (L : List Int) (y2 y3 : Option V), σ' = [some (.str z), some (.ref D), y2, y3, none] ∧ Same H H' ∧ H' p = some (.lst ((Txt.split z ".").map V.str)) ∧ H' D = some (.lst (L.map V.int)) ∧ ((Txt.split z ".").take i).map rdI = L.map some) ⟨[], none, none, rfl, s1, ep, eD1, rfl⟩ (fun i σ' H' _ hh => ?_) ?_ ?_⟩
    · obtain ⟨_, _, _, _, _, e, _⟩ := hh
      exact .inl (.inl e)
    · rintro i x σ' Hx hx ⟨L, y2, y3, rfl, sm, eP, eD, eL⟩
      obtain ⟨y, rfl, hy⟩ := get_map hx
      have hmem := List.mem_of_getElem? hy
      have hy1 := split_part z "." hd1 hmem
      have hy2 : y.length ≤ sizeLine := Nat.le_of_lt (small1000 (by omega))
      have hi := (List.getElem?_eq_some_iff.mp hy).1
      have hL : L.length = i := by
        have := congrArg List.length eL
        rw [List.length_map, List.length_map, List.length_take] at this
        omega
      have hlen : y.length = y.cps.toList.length := rfl
      have non : rdI y = none → ∀ H', Same H H' → Q .non H' := fun e H' s => q .non H' s (by
        have : rdL z = none := keep_none (List.mem_map.mpr ⟨y, hmem, e⟩)
        rw [this]; exact .non)
      refine ⟨_, rfl, y, rfl, fun D2 nD2 => ?_⟩
      refine lc_it walk_str (fun i H' => Same Hx H' ∧ ∃ xs : List V, H' D2 = some (.lst xs) ∧ xs.length = (y.cps.toList.take i).countP (fun c => !dg c)) ⟨same_upd nD2, [], upd_same, rfl⟩ (fun _ _ _ _ => trivial) ?_ ?_
      · rintro j x H' H'' hj ⟨sm2, xs, eD2, eb⟩ ⟨rfl, c, hc, rfl⟩
        have hc2 : y.cps.toList[j]? = some c := by
          rw [Array.getElem?_toList]; exact hc
        have hj2 := (List.getElem?_eq_some_iff.mp hc2).1
        refine ⟨rfl, ?_⟩
        have hk : (y.cps.toList.take (j + 1)).countP (fun c => !dg c) = (y.cps.toList.take j).countP (fun c => !dg c) + (if (!dg c) = true then 1 else 0) := by
          rw [List.take_add_one, hc2, List.countP_append]
          congr 1
          show List.countP (fun c => !dg c) [c] = _
          cases h : dg c <;> simp [List.countP_cons, h]
        refine ⟨_, rfl, c, _, rfl, rfl, _, rfl, ite2 (fun e => ?_) (fun e => ?_)⟩
        · rw [dig_in] at e
          refine ⟨_, rfl, _, eD2, ?_, same_put sm2 nD2 _, _, upd_same, ?_⟩
          · rw [eb]
            have := List.countP_le_length (p := fun c => !dg c) (l := y.cps.toList.take j)
            rw [List.length_take] at this
            exact small1000 (by omega)
          · rw [hk, if_pos e, List.length_append, eb]
            rfl
        · rw [dig_in] at e
          refine ⟨sm2, xs, eD2, ?_⟩
          rw [hk, if_neg e, eb]
          rfl
      · rintro H2 ⟨sm2, xs, eD2, eb⟩
        have eb2 : xs.length = y.cps.toList.countP (fun c => !dg c) := by
          rw [eb]
          congr 1
          exact List.take_of_length_le (by rw [Array.length_toList]; exact Nat.le_refl _)
        have s2 := sm.trans sm2
        have eD3 := sm2 _ _ eD
        have eP3 := sm2 _ _ eP
        refine ⟨D2, xs, rfl, .inl (.inl (.inl eD2)), _, _, rfl, rfl, ?_⟩
        have bad : ∀ b : Bool, b = decide ((0 : Int) < (xs.length : Int)) → ((∀ c ∈ y.cps.toList, dg c = true) ∧ b = false) ∨ ((∃ c ∈ y.cps.toList, dg c = false) ∧ b = true) := fun b hb => by
          subst hb
          by_cases h0 : y.cps.toList.countP (fun c => !dg c) = 0
          · refine .inl ⟨fun c hc => ?_, decide_eq_false (by rw [eb2, h0]; decide)⟩
            have := List.countP_eq_zero.mp h0 c hc
            simpa using this
          · refine .inr ⟨?_, decide_eq_true (by rw [eb2]; omega)⟩
            obtain ⟨c, hc, h1⟩ := List.countP_pos_iff.mp (Nat.pos_of_ne_zero h0)
            exact ⟨c, hc, by simpa using h1⟩
        refine ⟨_, rfl, _, rfl, ?_⟩
        rcases bad _ rfl with ⟨hall, hb⟩ | ⟨⟨c, hc, hdc⟩, hb⟩
        · rw [hb]
          refine iteF ?_
          refine ⟨_, rfl, y, rfl, hy2, _, _, rfl, rfl, _, rfl, ite2 (fun e => ?_) (fun e => ?_)⟩
          · have h1 : (1 : Int) ≤ (y.length : Int) := of_decide_eq_true e
            refine ⟨_, _, rfl, rfl, _, rfl, ?_⟩
            by_cases h2 : (y.length : Int) ≤ 2
            · rw [decide_eq_true h2]
              show if (!true) = true then _ else _
              refine iteF ?_
              have tk : ∀ k : Int, rdI y = some k → ((Txt.split z ".").take (i + 1)).map rdI = (L ++ [k]).map some := fun k hk => by
                rw [List.take_add_one, hy, List.map_append, List.map_append, eL]
                congr 1
                show [rdI y] = [some k]
                rw [hk]
              have sN : ∀ o, Same H (upd H2 D o) := same_put s2 nD
              have pP : ∀ o, (upd H2 D o) p = some (.lst ((Txt.split z ".").map V.str)) := fun o => by
                rw [upd_ne npD]
                exact eP3
              have pD : ∀ k : Int, (upd H2 D (.lst (L.map V.int ++ [.int k]))) D = some (.lst ((L ++ [k]).map V.int)) := fun k => by
                rw [upd_same, List.map_append]
                rfl
              have small : (L.map V.int).length < sizeLine := by rw [List.length_map]; exact small1000 (by omega)
              refine ⟨_, rfl, y, rfl, hy2, rfl, _, rfl, ?_⟩
              match e : y.cps.toList with
              | [] => rw [e] at hlen; rw [hlen] at h1; simp at h1
              | a :: b :: c :: r => rw [e] at hlen; simp only [List.length_cons] at hlen; omega
              | [a] =>
                have ha : 48 ≤ a ∧ a ≤ 57 := of_decide_eq_true (hall a (by rw [e]; exact List.mem_singleton.mpr rfl))
                have hn : rdI y = some ((a : Int) - 48) := by
                  unfold rdI
                  rw [e]
                  exact if_pos ha
                rw [decide_eq_false (fun h => by have := V.int.inj h; rw [hlen, e] at this; simp at this)]
                refine ⟨_, rfl, .inl ⟨rfl, _, .inl (.inl eD3)⟩, _, rfl, _, _, rfl, (by rw [str1 e]; exact int1 ha), (by rw [hlen, e]; simp), ?_⟩
                refine ⟨D, _, _, rfl, rfl, eD3, small, L ++ [(a : Int) - 48], _, _, rfl, sN _, pP _, pD _, tk _ hn⟩
              | [a, b] =>
                have ha : 48 ≤ a ∧ a ≤ 57 := of_decide_eq_true (hall a (by rw [e]; simp))
                have hb : 48 ≤ b ∧ b ≤ 57 := of_decide_eq_true (hall b (by rw [e]; simp))
                have hat : atI y.cps.toList (0 : Int) = some a := by rw [e]; rfl
                rw [decide_eq_true (by rw [hlen, e]; rfl)]
                refine ⟨_, rfl, _, _, a, rfl, rfl, hy2, hat, rfl, _, rfl, ?_⟩
                by_cases h48 : a = 48
                · rw [decide_eq_true (show V.str ⟨#[a]⟩ = V.str "0" by rw [zero_eq1]; exact h48)]
                  have hn : rdI y = none := by
                    unfold rdI
                    rw [e]
                    exact if_neg (by omega)
                  exact non hn H2 s2
                · rw [decide_eq_false (show ¬ V.str ⟨#[a]⟩ = V.str "0" by rw [zero_eq1]; exact h48)]
                  have hn : rdI y = some (((a : Int) - 48) * 10 + ((b : Int) - 48)) := by
                    unfold rdI
                    rw [e]
                    exact if_pos (by omega)
                  refine ⟨_, rfl, .inl ⟨rfl, _, .inl (.inl eD3)⟩, _, rfl, _, _, rfl, (by rw [str2 e]; exact int2 ha hb), (by rw [hlen, e]; simp), ?_⟩
                  refine ⟨D, _, _, rfl, rfl, eD3, small, L ++ [((a : Int) - 48) * 10 + ((b : Int) - 48)], _, _, rfl, sN _, pP _, pD _, tk _ hn⟩
            · rw [decide_eq_false h2]
              show if (!false) = true then _ else _
              refine iteT ?_
              have hn : rdI y = none := by
                unfold rdI
                match e : y.cps.toList with
                | [] => rfl
                | [a] => rw [e] at hlen; simp only [List.length_cons, List.length_nil] at hlen; omega
                | [a, b] => rw [e] at hlen; simp only [List.length_cons, List.length_nil] at hlen; omega
                | a :: b :: c :: r => rfl
              exact non hn H2 s2
          · have h1 : ¬ (1 : Int) ≤ (y.length : Int) := fun h => e (decide_eq_true h)
            have hn : rdI y = none := by
              unfold rdI
              match e : y.cps.toList with
              | [] => rfl
              | a :: r => rw [e] at hlen; simp only [List.length_cons] at hlen; omega
            exact ⟨_, rfl, non hn H2 s2⟩
        · rw [hb]
          refine iteT ?_
          have hn : rdI y = none := by
            unfold rdI
            match e : y.cps.toList with
            | [] => rfl
            | [a] =>
              rw [e] at hc
              rw [List.mem_singleton.mp hc] at hdc
              exact if_neg (of_decide_eq_false hdc)
            | [a, b] =>
              refine if_neg (fun h => ?_)
              rw [e] at hc
              have := of_decide_eq_false hdc
              rcases List.mem_cons.mp hc with h1 | h1
              · rw [h1] at this; omega
              · rw [List.mem_singleton.mp h1] at this; omega
            | a :: b :: c :: r => rfl
          exact non hn H2 s2
    · rintro σ' H' ⟨L, y2, y3, rfl, sm, eP, eD, eL⟩
      rw [List.length_map, List.take_length] at eL
      have hLn : L ≠ [] := fun e => split_ne z "." (by rw [e] at eL; exact List.map_eq_nil_iff.mp eL)
      have hk : rdL z = if L.length ≤ 3 ∧ L.getLastD 0 ≠ 0 then some L else none := by
        unfold rdL
        rw [eL, keep_map]
      have hgl : L.getLastD 0 = L.getLast hLn := by
        rw [List.getLastD_eq_getLast?, List.getLast?_eq_getLast hLn]
        rfl
      have hat : atI (L.map V.int) (-1) = some (.int (L.getLast hLn)) := by
        have : L.map V.int = (L.dropLast.map V.int) ++ [V.int (L.getLast hLn)] := by
          rw [← List.map_singleton, ← List.map_append, List.dropLast_concat_getLast]
        rw [this]
        exact atI_last _ _
      have hpos : 0 ≤ L.getLast hLn := by
        have : some (L.getLast hLn) ∈ L.map some := List.mem_map.mpr ⟨_, List.getLast_mem hLn, rfl⟩
        rw [← eL] at this
        exact (rdI_some this).1
      have hl : ((L.map V.int).length : Int) = (L.length : Int) := by rw [List.length_map]
      refine ⟨_, rfl, _, _, rfl, .inl (.inl (.inl eD)), _, _, rfl, rfl, _, rfl, ite2 (fun e => ?_) (fun e => ?_)⟩
      · have h3 : ((L.map V.int).length : Int) ≤ 3 := of_decide_eq_true e
        refine ⟨_, rfl, 1, rfl, _, _, -1, _, rfl, rfl, .inl (.inl eD), hat, _, _, rfl, rfl, _, rfl, ite2 (fun e => ?_) (fun e => ?_)⟩
        · have h1 : (1 : Int) ≤ L.getLast hLn := of_decide_eq_true e
          rw [if_pos ⟨by omega, by omega⟩] at hk
          refine ⟨_, rfl, D, _, rfl, .inl ⟨.inl (.inl eD), fun l nl => ?_⟩⟩
          exact q _ _ (sm.trans (same_upd nl)) (by rw [hk]; exact dpL (.inl (.inl upd_same)))
        · have h1 : ¬ (1 : Int) ≤ L.getLast hLn := fun h => e (decide_eq_true h)
          rw [if_neg (fun h => by omega)] at hk
          exact q .non H' sm (by rw [hk]; exact .non)
      · have h3 : ¬ ((L.map V.int).length : Int) ≤ 3 := fun h => e (decide_eq_true h)
        rw [if_neg (fun h => by omega)] at hk
        exact q .non H' sm (by rw [hk]; exact .non)
theorem ok_signs (T : Tab K mg) : FnOk P w K mg base CX0 1 T.f_signs T.d_signs [] (sp_signs K) := by
  refine T.F_signs.ok sc_signs (fun vs H Q E h => ?_) (fun cdv A outer s H vs Q E hr h => ?_)
  · obtain ⟨rfl, _⟩ := h
    rfl
  · obtain ⟨rfl, q⟩ := h
    refine ⟨_, (pss_one (ps_ret pe_str)), ?_⟩
    exact q
theorem ok_is_within (T : Tab K mg) : FnOk P w K mg base CX0 2 T.f_is_within T.d_is_within ["thing", "least", "most"] (sp_is_within K) := by
  refine T.F_is_within.ok sc_is_within (fun vs H Q E h => ?_) (fun cdv A outer s H vs Q E hr h => ?_)
  · obtain ⟨v, d, l, m, rfl, _⟩ := h
    rfl
  · obtain ⟨v, d, l, m, rfl, hd, q⟩ := h
    refine ⟨_, (pss_one (ps_ret (pe_and (pe_call (ok_is_integer T) (hr.mono (by decide)) (by rfl) T.g_is_integer T.F_is_integer.kp T.b_is_integer .nil pass0 (pa_cons (pv 0) pa_nil)) (pe_one (pe_chain op_le op_le (pv 1) (pv 0) (pv 2)))))), ?_⟩
    refine ⟨_, rfl, _, d, rfl, hd, ?_⟩
    cases hd with
    | int i =>
      refine ⟨true, rfl, iteT ?_⟩
      refine ⟨_, rfl, _, rfl, _, _, rfl, rfl, _, rfl, ite2 (fun e => ?_) (fun e => ?_)⟩
      · have h1 : l ≤ i := of_decide_eq_true e
        refine ⟨_, rfl, _, _, rfl, rfl, ?_⟩
        have : wI l m (.int i) = decide (i ≤ m) := by
          show decide (l ≤ i ∧ i ≤ m) = _
          simp [h1]
        rw [this] at q
        exact q
      · have h1 : ¬ l ≤ i := fun h => e (decide_eq_true h)
        have : wI l m (.int i) = false := by
          show decide (l ≤ i ∧ i ≤ m) = _
          simp [h1]
        rw [this] at q
        exact q
    | non => exact ⟨false, rfl, q⟩
    | bl b => exact ⟨false, rfl, q⟩
    | str z => exact ⟨false, rfl, q⟩
    | lst h _ => exact ⟨false, rfl, q⟩
    | tup h _ => exact ⟨false, rfl, q⟩
theorem ok_is_sized (T : Tab K mg) : FnOk P w K mg base CX0 2 T.f_is_sized T.d_is_sized ["thing", "least", "most"] (sp_is_sized K) := by
  refine T.F_is_sized.ok sc_is_sized (fun vs H Q E h => ?_) (fun cdv A outer s H vs Q E hr h => ?_)
  · obtain ⟨v, d, l, m, rfl, _⟩ := h
    rfl
  · obtain ⟨v, d, l, m, rfl, hd, q⟩ := h
    refine ⟨_, (pss_one (ps_ret (pe_and (pe_call (ok_is_tuple T) (hr.mono (by decide)) (by rfl) T.g_is_tuple T.F_is_tuple.kp T.b_is_tuple .nil pass0 (pa_cons (pv 0) pa_nil)) (pe_one (pe_chain op_le op_le (pv 1) (pe_callB call_len_seq (by rfl) T.m_len PySem.boot_len (pa_cons (pv 0) pa_nil)) (pv 2)))))), ?_⟩
    refine ⟨_, rfl, _, d, rfl, hd, fun H1 s1 => ?_⟩
    have q1 := q H1 s1
    have cut : ∀ ds : List PyData, items d = some ds → ∀ e : Bool, (l ≤ (ds.length : Int)) → (decide ((ds.length : Int) ≤ m) = e) → sz l m d = e := fun ds hi e h1 h2 => by
      unfold sz
      rw [hi]
      simp only
      rw [← h2]
      simp [h1]
    have cut0 : ∀ ds : List PyData, items d = some ds → ¬ (l ≤ (ds.length : Int)) → sz l m d = false := fun ds hi h1 => by
      unfold sz
      rw [hi]
      simp [h1]
    cases hd with
    | lst h k =>
      rename_i a xs ds
      have el := dpAll_len k
      refine ⟨true, rfl, iteT ?_⟩
      refine ⟨_, rfl, _, rfl, _, _, rfl, .inl (s1.seq h), _, _, rfl, rfl, _, rfl, ite2 (fun e => ?_) (fun e => ?_)⟩
      · have h1 := of_decide_eq_true e
        rw [el] at h1 ⊢
        refine ⟨_, rfl, _, _, rfl, rfl, ?_⟩
        rw [cut ds rfl _ h1 rfl] at q1
        exact q1
      · have h1 : ¬ (l ≤ (ds.length : Int)) := fun z => e (by rw [el]; exact decide_eq_true z)
        rw [cut0 ds rfl h1] at q1
        exact q1
    | tup h k =>
      rename_i a xs ds
      have el := dpAll_len k
      refine ⟨true, rfl, iteT ?_⟩
      refine ⟨_, rfl, _, rfl, _, _, rfl, .inr (same_seqT s1 h), _, _, rfl, rfl, _, rfl, ite2 (fun e => ?_) (fun e => ?_)⟩
      · have h1 := of_decide_eq_true e
        rw [el] at h1 ⊢
        refine ⟨_, rfl, _, _, rfl, rfl, ?_⟩
        rw [cut ds rfl _ h1 rfl] at q1
        exact q1
      · have h1 : ¬ (l ≤ (ds.length : Int)) := fun z => e (by rw [el]; exact decide_eq_true z)
        rw [cut0 ds rfl h1] at q1
        exact q1
    | non => exact ⟨false, rfl, q1⟩
    | bl b => exact ⟨false, rfl, q1⟩
    | int i => exact ⟨false, rfl, q1⟩
    | str z => exact ⟨false, rfl, q1⟩
theorem ok_page_word (T : Tab K mg) : FnOk P w K mg base CX0 2 T.f_page_word T.d_page_word ["_law_page"] (sp_page_word K) := by
  refine T.F_page_word.ok sc_page_word (fun vs H Q E h => ?_) (fun cdv A outer s H vs Q E hr h => ?_)
  · obtain ⟨v, p, rfl, _⟩ := h
    rfl
  · obtain ⟨v, p, rfl, hv, hp, q⟩ := h
    refine ⟨_, (pss_one (ps_ret (pe_op op_add_str (pe_call (ok_label_word T) (hr.mono (by decide)) (by rfl) T.g_label_word T.F_label_word.kp T.b_label_word .nil pass0 (pa_cons (pe_ix ix_tup (pv 0) pe_int (fun _ _ => rfl)) pa_nil)) (pe_ifExp (pt_cmpR op_eq (pe_ix ix_tup (pv 0) pe_int (fun _ _ => rfl)) pe_int (nomark _)) pe_str pe_str)))), ?_⟩
    obtain ⟨a, l, rfl, h1, h2⟩ := dP_inv hv
    have l1 := fL_len hp.1
    refine ⟨_, rfl, a, _, 0, .ref l, rfl, rfl, h1, rfl, l, p.1, rfl, h2, hp.1, fun H1 s1 => ?_⟩
    have qq := q H1 s1
    unfold fP at qq
    refine ⟨_, rfl, a, _, 1, .int p.2, rfl, rfl, same_seqT s1 h1, rfl, rfl, _, rfl, ite2 (fun e => ?_) (fun e => ?_)⟩
    · have e1 : p.2 = 0 := V.int.inj (of_decide_eq_true e)
      rw [if_pos e1] at qq
      refine ⟨_, _, rfl, rfl, ?_, qq⟩
      exact Nat.le_of_lt (small1000 (by show _ + 1 ≤ 1000; omega))
    · have e1 : ¬ p.2 = 0 := fun h => e (decide_eq_true (congrArg V.int h))
      rw [if_neg e1] at qq
      refine ⟨_, _, rfl, rfl, ?_, qq⟩
      exact Nat.le_of_lt (small1000 (by show _ + 1 ≤ 1000; omega))
theorem ok_law_read_page (T : Tab K mg) : FnOk P w K mg base CX0 2 T.f_law_read_page T.d_law_read_page ["_law_word"] (sp_law_read_page K) := by
  refine T.F_law_read_page.ok sc_law_read_page (fun vs H Q E h => ?_) (fun cdv A outer s H vs Q E hr h => ?_)
  · obtain ⟨z, rfl, _⟩ := h
    rfl
  · obtain ⟨z, rfl, hz, q⟩ := h
    refine ⟨_, (C8.pss_cut (ps_set (i := 1) sc_law_read_page.nd rfl (.inl rfl) (pe_ifExp (pt_cmpR op_in_seq (pe_slice sl_str (pv 0) (po_some (pe_un un_neg pe_int)) po_none) (pe_tup (pa_cons pe_str (pa_cons pe_str pa_nil))) (by rfl)) (pe_call (ok_law_read_label T) (hr.mono (by decide)) (by rfl) T.g_law_read_label T.F_law_read_label.kp T.b_law_read_label .nil pass0 (pa_cons (pe_slice sl_str (pv 0) po_none (po_some (pe_un un_neg pe_int))) pa_nil)) pe_non))
      (pss_one (ps_ret (pe_ifExp (pt_cmpR op_isN (pv 1) pe_non (nomark _)) pe_non (pe_tup (pa_cons (pv 1) (pa_cons (pe_callTy call_int1 (by rfl) T.m_int (by decide +kernel) (pa_cons (pe_cmpR op_eq (pe_ix ix_str (pv 0) (pe_un un_neg pe_int) (fun _ _ => rfl)) pe_str (nomark _)) pa_nil)) pa_nil))))))), ?_⟩
    have hz2 : z.length ≤ sizeLine := Nat.le_of_lt (small1000 (by omega))
    have lc := cutS_length z none (some (-1))
    refine ⟨fun σ' H' => ∃ v, σ' = [some (.str z), some v] ∧ Same H H' ∧ ((v = .non ∧ rdP z = none) ∨ ∃ c L, z.cps.toList.getLast? = some c ∧ (c = 97 ∨ c = 98) ∧ rdP z = some (L, (c : Int) - 97) ∧ ∃ l, v = .ref l ∧ SqT K H' l (L.map V.int)), ?_, ?_⟩
    · refine ⟨_, rfl, 1, rfl, -1, rfl, z, rfl, hz2, (by show 2 ≤ sizeLine; decide), fun t nt => ?_⟩
      have s1 := same_upd (o := .tup [.str "a", .str "b"]) nt
      refine ⟨t, _, rfl, .inr (.inl (.inl upd_same)), rfl, rfl, _, rfl, ?_⟩
      show if inV (.str (cutS z (some (-1)) none)) [.str "a", .str "b"] = true then _ else _
      rw [ab_in]
      generalize upd H t (.tup [.str "a", .str "b"]) = H1 at s1
      rcases cut_end z with ⟨e0, ec⟩ | ⟨c, e0, ec⟩
      · have hn : rdP z = none := by
          unfold rdP
          rw [e0]
          rfl
        rw [ec, decide_eq_false (by decide +kernel)]
        exact ⟨_, rfl, s1, .inl ⟨rfl, hn⟩⟩
      · by_cases hc : c = 97 ∨ c = 98
        · have hin : cutS z (some (-1)) none = ⟨#[97]⟩ ∨ cutS z (some (-1)) none = ⟨#[98]⟩ := by
            rw [ec]
            rcases hc with rfl | rfl
            · exact .inl rfl
            · exact .inr rfl
          rw [decide_eq_true hin]
          refine iteT ?_
          refine ⟨_, rfl, 1, rfl, -1, rfl, z, rfl, hz2, _, rfl, by omega, fun v H2 s2 dp => ?_⟩
          have hr : rdP z = match rdL (cutS z none (some (-1))) with | some L => some (L, (c : Int) - 97) | none => none := by
            unfold rdP
            rw [e0]
            exact if_pos hc
          cases eL : rdL (cutS z none (some (-1))) with
          | none =>
            rw [eL] at dp hr
            exact ⟨v, rfl, s1.trans s2, .inl ⟨dp_opt dp, hr⟩⟩
          | some L =>
            rw [eL] at dp hr
            obtain ⟨l, rfl, hl⟩ := dL_inv dp
            exact ⟨_, rfl, s1.trans s2, .inr ⟨c, L, e0, hc, hr, l, rfl, hl⟩⟩
        · have hin : ¬ (cutS z (some (-1)) none = ⟨#[97]⟩ ∨ cutS z (some (-1)) none = ⟨#[98]⟩) := by
            rw [ec]
            rintro (h | h)
            · exact hc (.inl (one_inj h))
            · exact hc (.inr (one_inj h))
          have hn : rdP z = none := by
            unfold rdP
            rw [e0]
            exact if_neg hc
          rw [decide_eq_false hin]
          exact ⟨_, rfl, s1, .inl ⟨rfl, hn⟩⟩
    · rintro σ' H1 ⟨v, rfl, s1, ⟨rfl, hn⟩ | ⟨c, L, e0, hc, hr, l, rfl, hl⟩⟩
      · refine ⟨_, rfl, rfl, _, rfl, ite2 (fun _ => ?_) (fun h => absurd (decide_eq_true rfl) h)⟩
        exact q .non H1 s1 (by rw [hn]; exact .non)
      · refine ⟨_, rfl, rfl, _, rfl, ite2 (fun e => absurd (of_decide_eq_true e) (by intro z; cases z)) (fun _ => ?_)⟩
        have hat : atI z.cps.toList (-1) = some c := by
          obtain ⟨r, hr⟩ := List.getLast?_eq_some_iff.mp e0
          rw [hr]
          exact atI_last _ _
        refine ⟨_, rfl, _, rfl, 1, rfl, _, _, c, rfl, rfl, hz2, hat, rfl, .inr ⟨_, rfl, (by show 2 ≤ sizeLine; decide), fun t2 nt2 => ?_⟩⟩
        have s3 := same_upd (o := .tup [.ref l, .int (if decide (V.str ⟨#[c]⟩ = V.str "b") = true then 1 else 0)]) nt2
        refine q (.ref t2) _ (s1.trans s3) ?_
        rw [hr]
        have hk2 : (if decide (V.str ⟨#[c]⟩ = V.str "b") = true then 1 else 0) = (c : Int) - 97 := by
          rcases hc with rfl | rfl
          · rw [if_neg (by decide +kernel)]
            rfl
          · rw [if_pos (by decide +kernel)]
            rfl
        rw [← hk2]
        exact .tup (.inl (.inl upd_same)) (.cons (dpL (same_seqT s3 hl)) (.cons (.int _) .nil))
theorem ok_figure (T : Tab K mg) : FnOk P w K mg base CX0 2 T.f_figure T.d_figure ["_law_source_here", "_law_least"] (sp_figure K) := by
  refine T.F_figure.ok sc_figure (fun vs H Q E h => ?_) (fun cdv A outer s H vs Q E hr h => ?_)
  · obtain ⟨a, l, rfl, _⟩ := h
    rfl
  · obtain ⟨a, l, rfl, src, l0, l1, q⟩ := h
    refine ⟨_, (pss_cons (ps_set (i := 2) sc_figure.nd rfl (.inl rfl) (pe_call (ok_pick T) (hr.mono (by decide)) (by rfl) T.g_pick T.F_pick.kp T.b_pick .nil pass0 (pa_cons (pv 0) (pa_cons pe_int pa_nil))))
      (pss_cons (ps_if (pt_cmpR op_eq (pv 2) pe_int (nomark _))
      (pss_one (ps_ret (pe_op op_add (pv 1) (pe_call (ok_pick T) (hr.mono (by decide)) (by rfl) T.g_pick T.F_pick.kp T.b_pick .nil pass0 (pa_cons (pv 0) (pa_cons pe_int pa_nil))))))
      pss_nil)
      (pss_cons (ps_if (pt_cmpR op_eq (pv 2) pe_int (nomark _))
      (pss_one (ps_ret (pe_op op_add pe_int (pe_call (ok_pick T) (hr.mono (by decide)) (by rfl) T.g_pick T.F_pick.kp T.b_pick .nil pass0 (pa_cons (pv 0) (pa_cons pe_int pa_nil))))))
      pss_nil)
      (pss_one (ps_ret (pe_op op_add (pv 1) (pe_call (ok_pick T) (hr.mono (by decide)) (by rfl) T.g_pick T.F_pick.kp T.b_pick .nil pass0 (pa_cons (pv 0) (pa_cons (pe_op op_sub pe_int (pv 1)) pa_nil))))))))), ?_⟩
    refine ⟨_, rfl, _, _, rfl, src, by decide, by decide, fun w1 H1 s1 b1 p1 p2 => ?_⟩
    refine ⟨_, rfl, rfl, _, rfl, ite2 (fun e => ?_) (fun e => ?_)⟩
    · refine ⟨_, rfl, _, rfl, _, _, rfl, s1, by decide, by decide, fun r H2 s2 b2 p3 p4 => ?_⟩
      refine ⟨_, _, rfl, rfl, ?_⟩
      exact q _ H2 s2 (b1.trans b2) (by omega) (by omega)
    refine ⟨_, rfl, rfl, _, rfl, ite2 (fun e => ?_) (fun e => ?_)⟩
    · refine ⟨_, rfl, _, _, rfl, s1, by decide, by decide, fun r H2 s2 b2 p3 p4 => ?_⟩
      refine ⟨_, _, rfl, rfl, ?_⟩
      exact q _ H2 s2 (b1.trans b2) (by omega) (by omega)
    refine ⟨_, rfl, _, rfl, _, rfl, _, _, rfl, rfl, _, _, rfl, s1, by omega, by omega, fun r H2 s2 b2 p3 p4 => ?_⟩
    refine ⟨_, _, rfl, rfl, ?_⟩
    exact q _ H2 s2 (b1.trans b2) (by omega) (by omega)
theorem ok_sign (T : Tab K mg) : FnOk P w K mg base CX0 2 T.f_sign T.d_sign ["_law_source_here"] (sp_sign K) := by
  refine T.F_sign.ok sc_sign (fun vs H Q E h => ?_) (fun cdv A outer s H vs Q E hr h => ?_)
  · obtain ⟨a, rfl, _⟩ := h
    rfl
  · obtain ⟨a, rfl, src, q⟩ := h
    refine ⟨_, (pss_cons (ps_if (pt_cmpR op_eq (pe_call (ok_pick T) (hr.mono (by decide)) (by rfl) T.g_pick T.F_pick.kp T.b_pick .nil pass0 (pa_cons (pv 0) (pa_cons pe_int pa_nil))) pe_int (nomark _))
      (pss_one (ps_ret (pe_ix ix_str (pe_call0 (ok_signs T) (hr.mono (by decide)) (by rfl) T.g_signs T.F_signs.kp T.b_signs .nil pass0) (pe_call (ok_pick T) (hr.mono (by decide)) (by rfl) T.g_pick T.F_pick.kp T.b_pick .nil pass0 (pa_cons (pv 0) (pa_cons (pe_callB call_len_str (by rfl) T.m_len PySem.boot_len (pa_cons (pe_call0 (ok_signs T) (hr.mono (by decide)) (by rfl) T.g_signs T.F_signs.kp T.b_signs .nil pass0) pa_nil)) pa_nil))) (fun _ _ => rfl))))
      pss_nil)
      (pss_one (ps_ret (pe_ix ix_str pe_str (pe_call (ok_pick T) (hr.mono (by decide)) (by rfl) T.g_pick T.F_pick.kp T.b_pick .nil pass0 (pa_cons (pv 0) (pa_cons pe_int pa_nil))) (fun _ _ => rfl))))), ?_⟩
    have l1 : (signsS).length = 91 := by decide +kernel
    have l2 : signsS.cps.toList.length = 91 := by decide +kernel
    have l3 : ("0123456789..abab-+ " : Str).cps.toList.length = 19 := by decide +kernel
    refine ⟨_, rfl, _, _, rfl, src, by decide, by decide, fun w H1 s1 b1 w0 w1 => ?_⟩
    refine ⟨rfl, _, rfl, ite2 (fun e => ?_) (fun e => ?_)⟩
    · refine ⟨rfl, _, rfl, rfl, _, rfl, (by rw [l1]; decide), _, _, rfl, s1, by rw [l1]; decide, by rw [l1]; decide, fun k H2 s2 b2 k0 k1 => ?_⟩
      rw [l1] at k1
      obtain ⟨c, hc⟩ := at_some signsS.cps.toList k k0 (by rw [l2]; exact k1)
      refine ⟨_, k, c, rfl, rfl, Nat.le_of_lt (small1000 (by rw [l1]; decide)), hc, ?_⟩
      exact q _ H2 s2 (b1.trans b2) rfl
    · refine ⟨_, rfl, _, _, rfl, s1, by decide, by decide, fun k H2 s2 b2 k0 k1 => ?_⟩
      obtain ⟨c, hc⟩ := at_some ("0123456789..abab-+ " : Str).cps.toList k k0 (by rw [l3]; exact k1)
      refine ⟨_, k, c, rfl, rfl, (by decide +kernel), hc, ?_⟩
      exact q _ H2 s2 (b1.trans b2) rfl
theorem ok_some_word (T : Tab K mg) : FnOk P w K mg base CX0 2 T.f_some_word T.d_some_word ["_law_source_here"] (sp_some_word K) := by
  refine T.F_some_word.ok sc_some_word (fun vs H Q E h => ?_) (fun cdv A outer s H vs Q E hr h => ?_)
  · obtain ⟨a, rfl, _⟩ := h
    rfl
  · obtain ⟨a, rfl, src, q⟩ := h
    refine ⟨_, (pss_cons (ps_set (i := 1) sc_some_word.nd rfl (.inl rfl) pe_str)
      (pss_cons (ps_for PassesOwn.never rfl (pi_range1 (by rfl) T.m_range (pa_cons (pe_call (ok_pick T) (hr.mono (by decide)) (by rfl) T.g_pick T.F_pick.kp T.b_pick .nil pass0 (pa_cons (pv 0) (pa_cons pe_int pa_nil))) pa_nil)) (pg_name (i := 2) sc_some_word.nd rfl (.inl rfl))
      (pss_one (ps_set (i := 1) sc_some_word.nd rfl (.inl rfl) (pe_op op_add_str (pv 1) (pe_ix ix_str pe_str (pe_call (ok_pick T) (hr.mono (by decide)) (by rfl) T.g_pick T.F_pick.kp T.b_pick .nil pass0 (pa_cons (pv 0) (pa_cons pe_int pa_nil))) (fun _ _ => rfl))))))
      (pss_one (ps_ret (pv 1))))), ?_⟩
    have l3 : ("01299..ab" : Str).cps.toList.length = 9 := by decide +kernel
    have ap : ∀ x y : Str, (x ++ y).length = x.length + y.length := fun x y => by
      show (x.cps ++ y.cps).size = _
      rw [Array.size_append]; rfl
    refine ⟨_, rfl, _, _, rfl, src, by decide, by decide, fun n H1 s1 b1 n0 n1 => ?_⟩
    refine ⟨_, rfl, by omega, by omega, for_range (lo := 0) (n := n.toNat) (fun i σ' H' => ∃ (z : Str) (y2 : Option V), σ' = [some (.ref a), some (.str z), y2] ∧ Src H' a ∧ But a H H' ∧ z.length = i) ⟨"", none, rfl, s1, b1, by decide +kernel⟩ ?_ ?_⟩
    · rintro i σ' H2 hi ⟨z, y2, rfl, s2, b2, lz⟩
      refine ⟨_, rfl, _, rfl, _, _, rfl, s2, by decide, by decide, fun k H3 s3 b3 k0 k1 => ?_⟩
      obtain ⟨c, hc⟩ := at_some ("01299..ab" : Str).cps.toList k k0 (by rw [l3]; exact k1)
      refine ⟨_, k, c, rfl, rfl, (by decide +kernel), hc, _, _, rfl, rfl, ?_, z ++ ⟨#[c]⟩, _, rfl, s3, b2.trans b3, ?_⟩
      · show z.length + 1 ≤ sizeLine
        exact Nat.le_of_lt (small1000 (by omega))
      · rw [str_len_snoc, lz]
    · rintro σ' H2 ⟨z, y2, rfl, s2, b2, lz⟩
      exact ⟨_, rfl, q z H2 s2 b2 (by omega)⟩
theorem ok_is_label (T : Tab K mg) : FnOk P w K mg base CX0 2 T.f_is_label T.d_is_label ["_law_actual", "_law_due"] (sp_is_label K) := by
  refine T.F_is_label.ok sc_is_label (fun vs H Q E h => ?_) (fun cdv A outer s H vs Q E hr h => ?_)
  · obtain ⟨x, y, o, rfl, _⟩ := h
    rfl
  · obtain ⟨x, y, o, rfl, hx, hy, q⟩ := h
    refine ⟨_, (pss_cons (ps_if (pt_cmpR op_isN (pv 1) pe_non (nomark _))
      (pss_one (ps_ret (pe_cmpR op_isN (pv 0) pe_non (nomark _))))
      pss_nil)
      (pss_cons (ps_if (PW.pt (pw_or (pt_not (pt_val (pe_callB call_isi (by rfl) T.m_isinstance (by decide +kernel) (pa_cons (pv 0) (pa_cons (pe_bltn (v := .ty "tuple") (u := .type "tuple") (by rfl) T.m_tuple (by decide +kernel) rfl) pa_nil))))) (pw_or1 (pt_cmpR op_ne (pe_callB call_len_seq (by rfl) T.m_len PySem.boot_len (pa_cons (pv 0) pa_nil)) (pe_callB call_len_seq (by rfl) T.m_len PySem.boot_len (pa_cons (pv 1) pa_nil)) (nomark _)))))
      (pss_one (ps_ret pe_bl))
      pss_nil)
      (pss_cons (ps_for PassesOwn.never rfl (pi_tup (pv 0)) (pg_name (i := 2) sc_is_label.nd rfl (.inl rfl))
      (pss_one (ps_if (pt_not (pt_val (pe_call (ok_law_is_integer T) (hr.mono (by decide)) (by rfl) T.g_law_is_integer T.F_law_is_integer.kp T.b_law_is_integer .nil pass0 (pa_cons (pv 2) pa_nil))))
        (pss_one (ps_ret pe_bl))
        pss_nil)))
      (pss_one (ps_ret (pe_cmpR (op_eqD hr.units) (pv 0) (pv 1) (nomark _))))))), ?_⟩
    cases o with
    | none =>
      cases hx
      cases hy
      refine ⟨_, rfl, rfl, _, rfl, ite2 (fun _ => ?_) (fun e => absurd (decide_eq_true rfl) e)⟩
      refine ⟨_, rfl, rfl, ?_⟩
      rw [decide_eq_true rfl]
      exact q
    | some L =>
    obtain ⟨a, rfl, ha⟩ := dL_inv hx
    obtain ⟨b, rfl, hb⟩ := dL_inv hy
    refine ⟨_, rfl, rfl, _, rfl, ite2 (fun e => by simp at e) (fun _ => ?_)⟩
    refine ⟨_, rfl, _, _, _, _, _, rfl, .ty "tuple", ty_T ha, kit_ty (by decide +kernel), true, rfl, iteF ?_⟩
    refine ⟨_, rfl, _, _, rfl, .inr ha, _, rfl, _, _, rfl, .inr hb, rfl, _, rfl, ite2 (fun e => by simp at e) (fun _ => ?_)⟩
    refine ⟨_, rfl, a, rfl, ⟨_, ha⟩, for_tup (xs := L.map V.int) (fun i σ' H' => ∃ y2 : Option V, σ' = [some (.ref a), some (.ref b), y2] ∧ H = H') ⟨none, rfl, rfl⟩ (fun i σ' H' _ ⟨_, _, e⟩ => e ▸ ha) ?_ ?_⟩
    · rintro i x σ' H' hx' ⟨y2, rfl, rfl⟩
      rw [List.getElem?_map] at hx'
      cases e : L[i]? with
      | none => rw [e] at hx'; cases hx'
      | some z =>
        rw [e] at hx'
        cases hx'
        refine ⟨_, rfl, z, rfl, true, rfl, iteF ?_⟩
        exact ⟨_, rfl, rfl⟩
    · rintro σ' H' ⟨y2, rfl, rfl⟩
      refine ⟨_, rfl, _, rfl, _, _, hx, hy, shaped_it L, shaped_it L, ?_⟩
      have e : PyData.eqv (oD dL (some L)) (oD dL (some L)) = true := by
        show PyData.eqvAll (L.map PyData.int) (L.map PyData.int) = true
        rw [eqv_ints]
        exact decide_eq_true rfl
      rw [e]
      exact q
theorem ok_odd_label (T : Tab K mg) : FnOk P w K mg base CX0 2 T.f_odd_label T.d_odd_label ["_law_source_here", "_law_label_here"] (sp_odd_label K) := by
  refine T.F_odd_label.ok sc_odd_label (fun vs H Q E h => ?_) (fun cdv A outer s H vs Q E hr h => ?_)
  · obtain ⟨a, v, L, rfl, _⟩ := h
    rfl
  · obtain ⟨a, v, L, rfl, src, hv, hL, q0⟩ := h
    refine ⟨_, (pss_cons (ps_set (i := 2) sc_odd_label.nd rfl (.inl rfl) (pe_call (ok_pick T) (hr.mono (by decide)) (by rfl) T.g_pick T.F_pick.kp T.b_pick .nil pass0 (pa_cons (pv 0) (pa_cons pe_int pa_nil))))
      (pss_cons (ps_set (i := 3) sc_odd_label.nd rfl (.inl rfl) (pe_call (ok_pick T) (hr.mono (by decide)) (by rfl) T.g_pick T.F_pick.kp T.b_pick .nil pass0 (pa_cons (pv 0) (pa_cons (pe_callB call_len_seq (by rfl) T.m_len PySem.boot_len (pa_cons (pv 1) pa_nil)) pa_nil))))
      (pss_cons (ps_if (pt_cmpR op_eq (pv 2) pe_int (nomark _))
      (pss_one (ps_ret (pe_tup pa_nil)))
      pss_nil)
      (pss_cons (ps_if (pt_cmpR op_eq (pv 2) pe_int (nomark _))
      (pss_one (ps_ret (pe_op op_catA (pv 1) (pe_tup (pa_cons pe_int pa_nil)))))
      pss_nil)
      (pss_cons (ps_if (pt_cmpR op_eq (pv 2) pe_int (nomark _))
      (pss_one (ps_ret (pe_op op_catA (pe_op op_catA (pe_slice sl_tupA (pv 1) po_none (po_some (pv 3))) (pe_tup (pa_cons pe_int pa_nil))) (pe_slice sl_tupA (pv 1) (po_some (pe_op op_add (pv 3) pe_int)) po_none))))
      pss_nil)
      (pss_cons (ps_if (pt_cmpR op_eq (pv 2) pe_int (nomark _))
      (pss_one (ps_ret (pe_op op_catA (pe_op op_catA (pe_slice sl_tupA (pv 1) po_none (po_some (pv 3))) (pe_tup (pa_cons (pe_un un_neg pe_int) pa_nil))) (pe_slice sl_tupA (pv 1) (po_some (pe_op op_add (pv 3) pe_int)) po_none))))
      pss_nil)
      (pss_cons (ps_if (pt_cmpR op_eq (pv 2) pe_int (nomark _))
      (pss_one (ps_ret (pe_op op_catA (pe_slice sl_tupA (pv 1) po_none (po_some (pe_un un_neg pe_int))) (pe_tup (pa_cons pe_int pa_nil)))))
      pss_nil)
      (pss_cons (ps_if (pt_cmpR op_eq (pv 2) pe_int (nomark _))
      (pss_one (ps_ret (pe_op op_catA (pe_op op_catA (pe_tup (pa_cons pe_int (pa_cons pe_int pa_nil))) (pe_slice sl_tupA (pv 1) po_none (po_some pe_int))) (pe_tup (pa_cons pe_int pa_nil)))))
      pss_nil)
      (pss_cons (ps_if (pt_cmpR op_eq (pv 2) pe_int (nomark _))
      (pss_one (ps_ret (pe_op op_catA (pe_op op_catA (pe_slice sl_tupA (pv 1) po_none (po_some (pv 3))) (pe_tup (pa_cons pe_bl pa_nil))) (pe_slice sl_tupA (pv 1) (po_some (pe_op op_add (pv 3) pe_int)) po_none))))
      pss_nil)
      (pss_cons (ps_if (pt_cmpR op_eq (pv 2) pe_int (nomark _))
      (pss_one (ps_ret (pe_op op_catA (pe_op op_catA (pe_slice sl_tupA (pv 1) po_none (po_some (pv 3))) (pe_tup (pa_cons (pe_callTy call_str_int (by rfl) T.m_str (by decide +kernel) (pa_cons (pe_ix (ix_tupK (K := K) rfl) (pv 1) (pv 3) (fun _ _ => rfl)) pa_nil)) pa_nil))) (pe_slice sl_tupA (pv 1) (po_some (pe_op op_add (pv 3) pe_int)) po_none))))
      pss_nil)
      (pss_one (ps_ret pe_non)))))))))))), ?_⟩
    obtain ⟨p, rfl, hp0⟩ := dL_inv hv
    have q : ∀ y (d : PyData) H', Src H' a → But a H H' → Dp K H' y d → Od d → Q y H' := fun y d H' h1 h2 h3 h4 => q0 y d H' h1 h2 h3 h4.1.2 h4.2.1 h4.2.2
    have hl1 : 1 ≤ L.length := by
      have := okL_ne hL
      cases L with
      | nil => exact absurd rfl this
      | cons x r => exact Nat.succ_le_succ (Nat.zero_le _)
    have hl3 := hL.1
    have hlen : (L.map V.int).length = L.length := List.length_map ..
    refine ⟨_, rfl, _, _, rfl, src, by decide, by decide, fun w H1 s1 b1 w0 w1 => ?_⟩
    have hp1 := sqT_src src b1 hp0
    refine ⟨_, rfl, _, rfl, _, _, rfl, .inr hp1, _, _, rfl, s1, by omega, by omega, fun k H2 s2 b2 k0 k1 => ?_⟩
    rw [hlen] at k1
    have hp := sqT_src s1 b2 hp1
    have b12 := b1.trans b2
    obtain ⟨n, rfl⟩ := Int.eq_ofNat_of_zero_le k0
    have hn : n < L.length := by omega
    have tk : ∀ {Hx : Hp} {c : Addr}, SqT K Hx c (cutV (L.map V.int) none (some (n : Int))) → SqT K Hx c ((L.take n).map V.int) := fun h => by rw [cutV_to, ← List.map_take] at h; exact h
    have dr : ∀ {Hx : Hp} {c : Addr}, SqT K Hx c (cutV (L.map V.int) (some ((n : Int) + 1)) none) → SqT K Hx c ((L.drop (n + 1)).map V.int) := fun h => by
      rw [show ((n : Int) + 1) = ((n + 1 : Nat) : Int) by omega, cutV_from, ← List.map_drop] at h
      exact h
    have lt : ((L.take n).map V.int).length ≤ 3 := by rw [List.length_map, List.length_take]; omega
    have ld : ((L.drop (n + 1)).map V.int).length ≤ 3 := by rw [List.length_map, List.length_drop]; omega
    -- one integer exchanged: from the first part and the row of one on
    have rep : ∀ (H5 : Hp) (c t : Addr) (x : V) (d : PyData), Src H5 a → But a H H5 → SqT K H5 p (L.map V.int) → SqT K H5 c ((L.take n).map V.int) → SqT K H5 t [x] → (∀ Hx, Dp K Hx x d) → Atom d → toO d = none →
        ∀ M : VK, (∀ y H6, rSlA K (.ref p) (some ((n : Int) + 1)) none H6 (fun z H7 => rCatA K y z H7 Q) → M y H6) → rCatA K (.ref c) (.ref t) H5 M := fun H5 c t x d s5 b5 hp5 hc ht hx ha hnn M hM => by
      refine cat_go hc ht (by show _ + 1 ≤ 1000; omega) fun c2 H6 s6 h6 => hM _ _ ?_
      refine sl_go (same_seqT s6 hp5) fun c3 H7 s7 h7 => ?_
      refine cat_go (same_seqT s7 h6) (dr h7) (by rw [List.length_append]; show _ + 1 + _ ≤ 1000; omega) fun c4 H8 s8 h8 => ?_
      have s58 := (s6.trans s7).trans s8
      refine q (.ref c4) _ H8 ?_ (b5.trans (But.of s58)) (.tup h8 (dpAll_app (dpAll_app (dp_ints _) (.cons (hx _) .nil)) (dp_ints _))) (od_rep hL hn ha hnn)
      obtain ⟨g, y, z, e⟩ := s5
      exact ⟨g, y, z, s58 _ _ e⟩
    have srcS : ∀ {Hx Hy : Hp}, Src Hx a → Same Hx Hy → Src Hy a := fun s m => by
      obtain ⟨g, y, z, e⟩ := s
      exact ⟨g, y, z, m _ _ e⟩
    -- 0
    refine ⟨_, rfl, rfl, _, rfl, ite2 (fun e => ?_) (fun e => ?_)⟩
    · exact ⟨Nat.zero_le _, fun t nt => q (.ref t) (.tuple []) _ (srcN s2 nt _) (b12.trans (But.of (same_upd nt))) (.tup (.inl (.inl upd_same)) .nil) (od_row (by decide) (fun _ h => nomatch h) rfl)⟩
    -- 1
    refine ⟨_, rfl, rfl, _, rfl, ite2 (fun e => ?_) (fun e => ?_)⟩
    · refine ⟨_, rfl, (by show 1 ≤ sizeLine; decide), fun t nt => ?_⟩
      have st := same_upd (o := .tup [V.int 0]) nt
      refine cat_go (same_seqT st hp) (.inl (.inl upd_same)) (by rw [hlen]; show _ + 1 ≤ 1000; omega) fun c H3 s3 h3 => ?_
      have s23 := st.trans s3
      refine q (.ref c) (.tuple ((L ++ [0]).map PyData.int)) H3 (srcS s2 s23) (b12.trans (But.of s23)) (.tup (by rw [List.map_append]; exact h3) (dp_ints _)) (od_row (by rw [List.length_map, List.length_append]; show L.length + 1 ≤ 5; omega) (at_ints fun i hi => ?_) (keep_last0 hL.2.2))
      rcases List.mem_append.mp hi with h | h
      · exact hL.2.2 i h
      · rw [List.mem_singleton.mp h]; exact ⟨by decide, by decide⟩
    -- 2
    refine ⟨_, rfl, rfl, _, rfl, ite2 (fun e => ?_) (fun e => ?_)⟩
    · refine ⟨_, rfl, _, rfl, _, rfl, sl_go hp fun c H3 s3 h3 => ?_⟩
      refine ⟨(by show 1 ≤ sizeLine; decide), fun t nt => ?_⟩
      have st := same_upd (o := .tup [V.int (100)]) nt
      exact rep _ c t (.int (100)) (.int (100)) (srcS s2 (s3.trans st)) (b12.trans (But.of (s3.trans st))) (same_seqT (s3.trans st) hp) (same_seqT st (tk h3)) (.inl (.inl upd_same)) (fun _ => .int _) (at_int (by decide)) (by rfl) _ (fun y H6 h => ⟨_, rfl, _, rfl, _, _, rfl, rfl, _, rfl, h⟩)
    -- 3
    refine ⟨_, rfl, rfl, _, rfl, ite2 (fun e => ?_) (fun e => ?_)⟩
    · refine ⟨_, rfl, _, rfl, _, rfl, sl_go hp fun c H3 s3 h3 => ?_⟩
      refine ⟨1, rfl, (by show 1 ≤ sizeLine; decide), fun t nt => ?_⟩
      have st := same_upd (o := .tup [V.int (-1)]) nt
      exact rep _ c t (.int (-1)) (.int (-1)) (srcS s2 (s3.trans st)) (b12.trans (But.of (s3.trans st))) (same_seqT (s3.trans st) hp) (same_seqT st (tk h3)) (.inl (.inl upd_same)) (fun _ => .int _) (at_int (by decide)) (by rfl) _ (fun y H6 h => ⟨_, rfl, _, rfl, _, _, rfl, rfl, _, rfl, h⟩)
    -- 4
    refine ⟨_, rfl, rfl, _, rfl, ite2 (fun e => ?_) (fun e => ?_)⟩
    · obtain ⟨R, z, rfl, r9, r2, z1, z9⟩ := okL_split hL
      refine ⟨_, rfl, 1, rfl, _, rfl, sl_go hp fun c H3 s3 h3 => ?_⟩
      rw [cut_last, ← List.map_dropLast, List.dropLast_concat] at h3
      refine ⟨(by show 1 ≤ sizeLine; decide), fun t nt => ?_⟩
      have st := same_upd (o := .tup [V.int 0]) nt
      refine cat_go (same_seqT st h3) (.inl (.inl upd_same)) (by rw [List.length_map]; show _ + 1 ≤ 1000; omega) fun c2 H4 s4 h4 => ?_
      have s24 := (s3.trans st).trans s4
      refine q (.ref c2) (.tuple ((R ++ [0]).map PyData.int)) H4 (srcS s2 s24) (b12.trans (But.of s24)) (.tup (by rw [List.map_append]; exact h4) (dp_ints _)) (od_row (by rw [List.length_map, List.length_append]; show R.length + 1 ≤ 5; omega) (at_ints fun i hi => ?_) (keep_last0 r9))
      rcases List.mem_append.mp hi with h | h
      · exact r9 i h
      · rw [List.mem_singleton.mp h]; exact ⟨by decide, by decide⟩
    -- 5
    refine ⟨_, rfl, rfl, _, rfl, ite2 (fun e => ?_) (fun e => ?_)⟩
    · refine ⟨(by show 2 ≤ sizeLine; decide), fun t nt => ?_⟩
      have st := same_upd (o := .tup [V.int 1, V.int 0]) nt
      refine ⟨_, rfl, 1, rfl, sl_go (same_seqT st hp) fun c H3 s3 h3 => ?_⟩
      have h3 : SqT K H3 c ((L.take 1).map V.int) := by
        have e := cutV_to (L.map V.int) 1
        rw [← List.map_take] at e
        rw [show cutV (L.map V.int) none (some (1 : Int)) = (L.take 1).map V.int from e] at h3
        exact h3
      refine cat_go (same_seqT s3 (.inl (.inl upd_same))) h3 (by rw [List.length_map, List.length_take]; show 2 + _ ≤ 1000; omega) fun c2 H4 s4 h4 => ?_
      refine ⟨(by show 1 ≤ sizeLine; decide), fun t2 nt2 => ?_⟩
      have st2 := same_upd (o := .tup [V.int 1]) nt2
      refine cat_go (same_seqT st2 h4) (.inl (.inl upd_same)) (by rw [List.length_append, List.length_map, List.length_take]; show 2 + _ + 1 ≤ 1000; omega) fun c3 H5 s5 h5 => ?_
      have s25 := (((st.trans s3).trans s4).trans st2).trans s5
      obtain ⟨x, r, rfl⟩ : ∃ x r, L = x :: r := by
        cases L with
        | nil => exact absurd rfl (okL_ne hL)
        | cons x r => exact ⟨x, r, rfl⟩
      have hx := hL.2.2 x (List.mem_cons_self ..)
      have k4 : ok99 [1, 0, x, 1] := fun i hi => by
        simp only [List.mem_cons, List.not_mem_nil, or_false] at hi
        omega
      refine q (.ref c3) (.tuple ([1, 0, x, 1].map PyData.int)) H5 (srcS s2 s25) (b12.trans (But.of s25)) (.tup h5 (dp_ints [1, 0, x, 1])) (od_row (by show 4 ≤ 5; decide) (at_ints k4) ?_)
      rw [toO_ints k4, keep_map, if_neg (fun h => absurd h.1 (by show ¬ 4 ≤ 3; decide))]
    -- 6
    refine ⟨_, rfl, rfl, _, rfl, ite2 (fun e => ?_) (fun e => ?_)⟩
    · refine ⟨_, rfl, _, rfl, _, rfl, sl_go hp fun c H3 s3 h3 => ?_⟩
      refine ⟨(by show 1 ≤ sizeLine; decide), fun t nt => ?_⟩
      have st := same_upd (o := .tup [V.bl true]) nt
      exact rep _ c t (.bl true) (.bool true) (srcS s2 (s3.trans st)) (b12.trans (But.of (s3.trans st))) (same_seqT (s3.trans st) hp) (same_seqT st (tk h3)) (.inl (.inl upd_same)) (fun _ => .bl _) at_true rfl _ (fun y H6 h => ⟨_, rfl, _, rfl, _, _, rfl, rfl, _, rfl, h⟩)
    -- 7
    refine ⟨_, rfl, rfl, _, rfl, ite2 (fun e => ?_) (fun e => ?_)⟩
    · refine ⟨_, rfl, _, rfl, _, rfl, sl_go hp fun c H3 s3 h3 => ?_⟩
      have g : (L.map V.int)[n]? = some (.int L[n]) := by
        rw [List.getElem?_map, List.getElem?_eq_getElem hn]
        rfl
      have hb := hL.2.2 L[n] (List.getElem_mem hn)
      generalize L[n] = i at g hb
      refine ⟨_, rfl, _, rfl, p, _, _, _, rfl, rfl, same_seqT s3 hp, atI_nat g, i, rfl, log_small (by omega), (by show 1 ≤ sizeLine; decide), fun t nt => ?_⟩
      have st := same_upd (o := .tup [V.str (toString i)]) nt
      have no := num_ok hb.1 hb.2
      exact rep _ c t (.str (toString i)) (.str (toString i)) (srcS s2 (s3.trans st)) (b12.trans (But.of (s3.trans st))) (same_seqT (s3.trans st) hp) (same_seqT st (tk h3)) (.inl (.inl upd_same)) (fun _ => .str _) (at_str (by omega) (fun ch hc => Nat.lt_of_le_of_lt (no.2.2.1 ch hc).2 (by decide))) rfl _ (fun y H6 h => ⟨_, rfl, _, rfl, _, _, rfl, rfl, _, rfl, h⟩)
    -- the rest
    exact q0 .non .none H2 s2 b12 .non rfl (sm_shown at_none.1 (by decide) (by decide)) ⟨0, trivial⟩
theorem ok_odd_size (T : Tab K mg) : FnOk P w K mg base CX0 2 T.f_odd_size T.d_odd_size ["_law_source_here", "_law_low", "_law_high"] (sp_odd_size K) := by
  refine T.F_odd_size.ok sc_odd_size (fun vs H Q E h => ?_) (fun cdv A outer s H vs Q E hr h => ?_)
  · obtain ⟨a, l, m, rfl, _⟩ := h
    rfl
  · obtain ⟨a, l, m, rfl, src, l0, l1, m0, m1, lm, q⟩ := h
    refine ⟨_, (pss_cons (ps_set (i := 3) sc_odd_size.nd rfl (.inl rfl) (pe_call (ok_pick T) (hr.mono (by decide)) (by rfl) T.g_pick T.F_pick.kp T.b_pick .nil pass0 (pa_cons (pv 0) (pa_cons pe_int pa_nil))))
      (pss_cons (ps_if (pt_cmpR op_lt (pv 3) pe_int (nomark _))
      (pss_one (ps_ret (pe_op op_sub (pe_op op_sub (pv 1) pe_int) (pe_op op_mul (pe_call (ok_pick T) (hr.mono (by decide)) (by rfl) T.g_pick T.F_pick.kp T.b_pick .nil pass0 (pa_cons (pv 0) (pa_cons pe_int pa_nil))) (pv 3)))))
      pss_nil)
      (pss_cons (ps_if (pt_cmpR op_lt (pv 3) pe_int (nomark _))
      (pss_one (ps_ret (pe_op op_add (pe_op op_add (pv 2) pe_int) (pe_op op_mul (pe_call (ok_pick T) (hr.mono (by decide)) (by rfl) T.g_pick T.F_pick.kp T.b_pick .nil pass0 (pa_cons (pv 0) (pa_cons pe_int pa_nil))) (pe_op op_sub (pv 3) pe_int)))))
      pss_nil)
      (pss_one (ps_ret (pe_ix ix_list (pe_lst (pa_cons pe_bl (pa_cons pe_non (pa_cons (pe_callTy call_str_int (by rfl) T.m_str (by decide +kernel) (pa_cons (pv 1) pa_nil)) pa_nil)))) (pe_op op_sub (pv 3) pe_int) (fun _ _ => rfl))))))), ?_⟩
    refine ⟨_, rfl, _, _, rfl, src, by decide, by decide, fun w H1 s1 b1 w0 w1 => ?_⟩
    refine ⟨_, rfl, _, _, rfl, rfl, _, rfl, ite2 (fun e => ?_) (fun e => ?_)⟩
    · have e1 : w < 2 := of_decide_eq_true e
      refine ⟨_, rfl, _, _, rfl, rfl, _, rfl, _, _, rfl, s1, by decide, by decide, fun r H2 s2 b2 r0 r1 => ?_⟩
      refine ⟨_, rfl, _, _, rfl, rfl, .inl ⟨by omega, by omega⟩, _, _, rfl, rfl, ?_⟩
      have hw : 0 ≤ r * w := Int.mul_nonneg r0 w0
      exact q (.int (l - 1 - r * w)) (.int (l - 1 - r * w)) H2 s2 (b1.trans b2) (.int _) (decide_eq_false (by omega)) ⟨0, trivial⟩
    have e1 : ¬ w < 2 := fun z => e (decide_eq_true z)
    refine ⟨_, rfl, _, _, rfl, rfl, _, rfl, ite2 (fun e => ?_) (fun e => ?_)⟩
    · have e2 : w < 4 := of_decide_eq_true e
      refine ⟨_, rfl, _, _, rfl, rfl, _, rfl, _, _, rfl, s1, by decide, by decide, fun r H2 s2 b2 r0 r1 => ?_⟩
      refine ⟨_, rfl, _, _, rfl, rfl, _, _, rfl, rfl, .inl ⟨by omega, by omega⟩, _, _, rfl, rfl, ?_⟩
      have hw : 0 ≤ r * (w - 2) := Int.mul_nonneg r0 (by omega)
      exact q (.int (m + 1 + r * (w - 2))) (.int (m + 1 + r * (w - 2))) H2 s2 (b1.trans b2) (.int _) (decide_eq_false (by omega)) ⟨0, trivial⟩
    have e2 : ¬ w < 4 := fun z => e (decide_eq_true z)
    refine ⟨_, rfl, l, rfl, Nat.lt_of_le_of_lt (Nat.log2_le_self _) (by omega), (by show 3 ≤ sizeLine; decide), fun p np => ?_⟩
    have sp := same_upd (o := .lst [V.bl true, .non, .str (toString l)]) np
    have s2 := srcN s1 np (.lst [V.bl true, .non, .str (toString l)])
    have b2 := b1.trans (But.of sp)
    have : w = 4 ∨ w = 5 ∨ w = 6 := by omega
    rcases this with rfl | rfl | rfl
    · exact ⟨_, rfl, _, _, rfl, rfl, p, _, 0, .bl true, rfl, rfl, .inl (.inl upd_same), rfl, q _ (.bool true) _ s2 b2 (.bl _) rfl ⟨0, trivial⟩⟩
    · exact ⟨_, rfl, _, _, rfl, rfl, p, _, 1, .non, rfl, rfl, .inl (.inl upd_same), rfl, q _ .none _ s2 b2 .non rfl ⟨0, trivial⟩⟩
    · exact ⟨_, rfl, _, _, rfl, rfl, p, _, 2, .str (toString l), rfl, rfl, .inl (.inl upd_same), rfl, q _ (.str (toString l)) _ s2 b2 (.str _) rfl ⟨0, trivial⟩⟩
theorem ok_odd_near (T : Tab K mg) : FnOk P w K mg base CX0 2 T.f_odd_near T.d_odd_near ["_law_source_here"] (sp_odd_near K) := by
  refine T.F_odd_near.ok sc_odd_near (fun vs H Q E h => ?_) (fun cdv A outer s H vs Q E hr h => ?_)
  · obtain ⟨a, rfl, _⟩ := h
    rfl
  · obtain ⟨a, rfl, src, q⟩ := h
    refine ⟨_, (pss_one (ps_ret (pe_ix ix_list (pe_lst (pa_cons pe_non (pa_cons pe_str (pa_cons pe_int (pa_cons (pe_tup pa_nil) (pa_cons pe_str pa_nil)))))) (pe_call (ok_pick T) (hr.mono (by decide)) (by rfl) T.g_pick T.F_pick.kp T.b_pick .nil pass0 (pa_cons (pv 0) (pa_cons pe_int pa_nil))) (fun _ _ => rfl)))), ?_⟩
    refine ⟨Nat.zero_le _, fun t nt => ?_⟩
    have st := same_upd (o := .tup []) nt
    refine ⟨(by show 5 ≤ sizeLine; decide), fun p np => ?_⟩
    have sp := same_upd (o := .lst [V.non, .str "yes", .int 2, .ref t, .str "True"]) np
    have s1 := srcN (srcN src nt (.tup [])) np (.lst [V.non, .str "yes", .int 2, .ref t, .str "True"])
    have b1 := (But.of (a := a) st).trans (But.of sp)
    have ht := sp _ _ (upd_same (H := H) (a := t) (o := .tup []))
    have hp : upd (upd H t (.tup [])) p (.lst [V.non, .str "yes", .int 2, .ref t, .str "True"]) p = some (.lst [V.non, .str "yes", .int 2, .ref t, .str "True"]) := upd_same
    generalize upd (upd H t (.tup [])) p (.lst [V.non, .str "yes", .int 2, .ref t, .str "True"]) = H1 at s1 b1 ht hp
    have npa : p ≠ a := by
      obtain ⟨g, y, z, e⟩ := s1
      intro z2
      rw [z2, e] at hp
      cases hp
    refine ⟨_, rfl, _, _, rfl, s1, by decide, by decide, fun k H2 s2 b2 k0 k1 => ?_⟩
    have hp2 := b2 _ _ npa hp
    have hta : t ≠ a := by
      obtain ⟨g, y, z, e⟩ := s1
      intro z2
      rw [z2, e] at ht
      cases ht
    have ht2 := b2 _ _ hta ht
    have b12 := b1.trans b2
    have : k = 0 ∨ k = 1 ∨ k = 2 ∨ k = 3 ∨ k = 4 := by omega
    rcases this with rfl | rfl | rfl | rfl | rfl
    · exact ⟨p, _, 0, .non, rfl, rfl, .inl (.inl hp2), rfl, q _ .none _ s2 b12 .non rfl ⟨0, trivial⟩⟩
    · exact ⟨p, _, 1, .str "yes", rfl, rfl, .inl (.inl hp2), rfl, q _ (.str "yes") _ s2 b12 (.str _) rfl ⟨0, trivial⟩⟩
    · exact ⟨p, _, 2, .int 2, rfl, rfl, .inl (.inl hp2), rfl, q _ (.int 2) _ s2 b12 (.int _) rfl ⟨0, trivial⟩⟩
    · exact ⟨p, _, 3, .ref t, rfl, rfl, .inl (.inl hp2), rfl, q _ (.tuple []) _ s2 b12 (.tup (.inl (.inl ht2)) .nil) rfl ⟨1, fun _ h => nomatch h⟩⟩
    · exact ⟨p, _, 4, .str "True", rfl, rfl, .inl (.inl hp2), rfl, q _ (.str "True") _ s2 b12 (.str _) rfl ⟨0, trivial⟩⟩
theorem ok_kept_label (T : Tab K mg) : FnOk P w K mg base CX0 3 T.f_kept_label T.d_kept_label ["thing"] (sp_kept_label K) := by
  refine T.F_kept_label.ok sc_kept_label (fun vs H Q E h => ?_) (fun cdv A outer s H vs Q E hr h => ?_)
  · obtain ⟨v, d, rfl, _⟩ := h
    rfl
  · obtain ⟨v, d, rfl, hd, q⟩ := h
    refine ⟨_, (pss_cons (ps_if (pt_not (pt_val (pe_call (ok_is_sized T) (hr.mono (by decide)) (by rfl) T.g_is_sized T.F_is_sized.kp T.b_is_sized .nil pass0 (pa_cons (pv 0) (pa_cons pe_int (pa_cons (pe_glob (v := .int 3) (by rfl) T.c_MOST_PARTS ⟨_, rfl⟩) pa_nil))))))
      (pss_one (ps_ret pe_non))
      pss_nil)
      (pss_cons (ps_if (PW.pt (pw_or (pt_not (pt_val (pe_callB (cr_all rfl) (by rfl) T.m_all (by decide +kernel) (pa_cons (pe_lc (own := [("part", 1)]) (g := gName 1) (by rfl) sc_kept_label.nd (pi_or (pi_list (pv 0)) (pi_tup (pv 0))) (blkOk_by (own := [("part", 1)]) (N := N_kept_label) (sc := defScope s_kept_label) (by decide +kernel)) (fun _ _ _ _ _ => pg_name (i := 1) sc_kept_label.nd rfl (.inl rfl)) (fun _ _ _ _ _ => pts_nil) (fun _ _ _ _ _ => (pe_call (ok_is_within T) (hr.mono (by decide)) (by rfl) T.g_is_within T.F_is_within.kp T.b_is_within .nil pass0 (pa_cons (pv 1) (pa_cons pe_int (pa_cons pe_int pa_nil)))))) pa_nil)))) (pw_or1 (pt_cmpR op_eq (pe_ix (IxR.or ix_list ix_tup) (pv 0) (pe_un un_neg pe_int) (fun _ _ => rfl)) pe_int (nomark _)))))
      (pss_one (ps_ret pe_non))
      pss_nil)
      (pss_one (ps_ret (pe_callTy call_tuple_of (by rfl) T.m_tuple (by decide +kernel) (pa_cons (pv 0) pa_nil)))))), ?_⟩
    refine ⟨_, rfl, _, d, 1, 3, rfl, hd, fun H1 s1 => ⟨_, rfl, ?_⟩⟩
    have no : keptD d = none → Q .non H1 := fun e => q .non H1 s1 (by rw [e]; exact .non)
    -- of a row: all of it is looked at
    have row : ∀ (ds : List PyData), items d = some ds → sz 1 3 d = decide ((1 : Int) ≤ (ds.length : Int) ∧ (ds.length : Int) ≤ 3) := fun ds hi => by unfold sz; rw [hi]
    have kd : ∀ (ds : List PyData), items d = some ds → keptD d = keep (ds.map toO) := fun ds hi => by unfold keptD; rw [hi]
    have kb : ∀ (ds : List PyData), items d = some ds → ¬ ((1 : Int) ≤ (ds.length : Int) ∧ (ds.length : Int) ≤ 3) → keptD d = none := fun ds hi h => by
      rw [kd ds hi]
      unfold keep
      cases e : allSome (ds.map toO) with
      | none => rfl
      | some L =>
        have eo := allSome_all e
        have el : ds.length = L.length := by have := congrArg List.length eo; rw [List.length_map, List.length_map] at this; exact this
        simp only
        rw [if_neg ?_]
        rintro ⟨h1, h2⟩
        apply h
        rw [el]
        refine ⟨?_, by omega⟩
        cases L with
        | nil => exact absurd rfl h2
        | cons x r => simp only [List.length_cons]; omega
    cases hd with
    | non => exact no rfl
    | bl b => exact no rfl
    | int i => exact no rfl
    | str z => exact no rfl
    | lst h k => 
      rename_i a xs ds
      have hl := dpAll_len k
      by_cases hsz : (1 : Int) ≤ (ds.length : Int) ∧ (ds.length : Int) ≤ 3
      · rw [row ds rfl, decide_eq_true hsz]
        have hS := s1.seq h
        have k1 := dpAll_same s1 k
        refine .inl ⟨_, rfl, a, rfl, ⟨_, hS⟩, fun D nD => ?_⟩
        refine lc_list (xs := xs) (fun i H' => Same H1 H' ∧ H' D = some (.lst ((ds.take i).map fun d => V.bl (wI 0 99 d)))) ⟨same_upd nD, upd_same⟩ (fun i H' _ hh => Same.seq hh.1 hS) ?_ ?_
        · rintro i x H' hx ⟨sm, eD⟩
          obtain ⟨e, he, hde⟩ := dpAll_get k1 hx
          refine ⟨rfl, ?_⟩
          refine ⟨_, rfl, _, e, 0, 99, rfl, dp_same sm hde, _, eD, ?_, same_put sm nD _, ?_⟩
          · rw [List.length_map, List.length_take]; exact small1000 (by omega)
          · rw [upd_same, List.take_add_one, he, List.map_append]; rfl
        · rintro H' ⟨sm, eD⟩
          rw [hl, List.take_length, map_bl] at eD
          have s2 := s1.trans sm
          refine ⟨D, _, rfl, .inl (.inl eD), _, rfl, ?_⟩
          rw [all_bl]
          by_cases hA : ds.all (wI 0 99) = true
          · obtain ⟨L, rfl, hL9⟩ := all_ints hA
            obtain ⟨R, z, rfl⟩ : ∃ R z, L = R ++ [z] := by
              have hne : L ≠ [] := fun e => by rw [e] at hsz; simp at hsz
              exact ⟨_, _, (List.dropLast_concat_getLast hne).symm⟩
            rw [hA]
            have ex : xs = (R ++ [z]).map V.int := dp_ints_inv k
            rw [ex] at h hS
            have ekd := kd _ rfl
            rw [toO_ints hL9, keep_map] at ekd
            have egl : (R ++ [z]).getLastD 0 = z := by rw [List.getLastD_eq_getLast?, List.getLast?_append]; rfl
            rw [egl] at ekd
            have l3 : (R ++ [z]).length ≤ 3 := by rw [List.length_map] at hsz; omega
            refine ⟨_, rfl, 1, rfl, .inl ⟨_, _, _, _, rfl, rfl, Same.seq sm hS, at_end R z, rfl, _, rfl, ?_⟩⟩
            by_cases h0 : z = 0
            · rw [decide_eq_true (congrArg V.int h0)]
              exact q .non H' s2 (by rw [ekd, if_neg (fun h => h.2 h0)]; exact .non)
            · rw [decide_eq_false (fun h => h0 (V.int.inj h))]
              refine ⟨_, rfl, _, _, rfl, .inl ⟨Same.seq sm hS, fun l nl => ?_⟩⟩
              exact q (.ref l) _ (s2.trans (same_upd nl)) (by rw [ekd, if_pos ⟨l3, h0⟩]; exact dpL (.inl (.inl upd_same)))
          · rw [Bool.not_eq_true] at hA
            rw [hA]
            exact q .non H' s2 (by rw [kd ds rfl, keep_none (not_all hA)]; exact .non)
      · rw [row ds rfl, decide_eq_false hsz]
        exact no (kb ds rfl hsz)
    | tup h k =>
      rename_i a xs ds
      have hl := dpAll_len k
      by_cases hsz : (1 : Int) ≤ (ds.length : Int) ∧ (ds.length : Int) ≤ 3
      · rw [row ds rfl, decide_eq_true hsz]
        have hS := same_seqT s1 h
        have k1 := dpAll_same s1 k
        refine .inr ⟨_, rfl, a, rfl, ⟨_, hS⟩, fun D nD => ?_⟩
        refine lc_tup (xs := xs) (fun i H' => Same H1 H' ∧ H' D = some (.lst ((ds.take i).map fun d => V.bl (wI 0 99 d)))) ⟨same_upd nD, upd_same⟩ (fun i H' _ hh => same_seqT hh.1 hS) ?_ ?_
        · rintro i x H' hx ⟨sm, eD⟩
          obtain ⟨e, he, hde⟩ := dpAll_get k1 hx
          refine ⟨rfl, ?_⟩
          refine ⟨_, rfl, _, e, 0, 99, rfl, dp_same sm hde, _, eD, ?_, same_put sm nD _, ?_⟩
          · rw [List.length_map, List.length_take]; exact small1000 (by omega)
          · rw [upd_same, List.take_add_one, he, List.map_append]; rfl
        · rintro H' ⟨sm, eD⟩
          rw [hl, List.take_length, map_bl] at eD
          have s2 := s1.trans sm
          refine ⟨D, _, rfl, .inl (.inl eD), _, rfl, ?_⟩
          rw [all_bl]
          by_cases hA : ds.all (wI 0 99) = true
          · obtain ⟨L, rfl, hL9⟩ := all_ints hA
            obtain ⟨R, z, rfl⟩ : ∃ R z, L = R ++ [z] := by
              have hne : L ≠ [] := fun e => by rw [e] at hsz; simp at hsz
              exact ⟨_, _, (List.dropLast_concat_getLast hne).symm⟩
            rw [hA]
            have ex : xs = (R ++ [z]).map V.int := dp_ints_inv k
            rw [ex] at h hS
            have ekd := kd _ rfl
            rw [toO_ints hL9, keep_map] at ekd
            have egl : (R ++ [z]).getLastD 0 = z := by rw [List.getLastD_eq_getLast?, List.getLast?_append]; rfl
            rw [egl] at ekd
            have l3 : (R ++ [z]).length ≤ 3 := by rw [List.length_map] at hsz; omega
            refine ⟨_, rfl, 1, rfl, .inr ⟨_, _, _, _, rfl, rfl, same_seqT sm hS, at_end R z, rfl, _, rfl, ?_⟩⟩
            by_cases h0 : z = 0
            · rw [decide_eq_true (congrArg V.int h0)]
              exact q .non H' s2 (by rw [ekd, if_neg (fun h => h.2 h0)]; exact .non)
            · rw [decide_eq_false (fun h => h0 (V.int.inj h))]
              refine ⟨_, rfl, _, _, rfl, .inr ⟨same_seqT sm hS, ?_⟩⟩
              exact q (.ref a) _ s2 (by rw [ekd, if_pos ⟨l3, h0⟩]; exact dpL (same_seqT sm hS))
          · rw [Bool.not_eq_true] at hA
            rw [hA]
            exact q .non H' s2 (by rw [kd ds rfl, keep_none (not_all hA)]; exact .non)
      · rw [row ds rfl, decide_eq_false hsz]
        exact no (kb ds rfl hsz)
theorem ok_Format_init (T : Tab K mg) : FnOk P w K mg base (L2.CX P w) 3 T.f_Format_init T.d_Format_init ["self", "width", "height", "near"] (sp_Format_init K T.C_Format T.C_BadFormat) := by
  refine T.F_Format_init.ok sc_Format_init (fun vs H Q E h => ?_) (fun cdv A outer s H vs Q E hr h => ?_)
  · obtain ⟨x, dx, w, h', n, dw, dh, dn, rfl, _⟩ := h
    rfl
  · obtain ⟨x, dx, w, h', n, dw, dh, dn, rfl, hx, hw, hh, hn, kE, kQ⟩ := h
    refine ⟨_, (pss_cons (ps_if (pt_not (pt_val (pe_call (ok_is_within T) (hr.mono (by decide)) (by rfl) T.g_is_within T.F_is_within.kp T.b_is_within .nil pass0 (pa_cons (pv 1) (pa_cons pe_int (pa_cons pe_int pa_nil))))))
      (pss_one (ps_raise rfl (takes_of rfl rfl rfl rfl) (pmk_oex T.o_BadFormat T.g_BadFormat_init T.i_BadFormat (ok_BadFormat_init T) (hr.mono (by decide)) T.b_BadFormat_init .nil (fun _ _ _ _ _ _ _ h => h.elim) (by rfl) T.cg_BadFormat (pa_cons pe_str pa_nil))))
      pss_nil)
      (pss_cons (ps_if (pt_not (pt_val (pe_call (ok_is_within T) (hr.mono (by decide)) (by rfl) T.g_is_within T.F_is_within.kp T.b_is_within .nil pass0 (pa_cons (pv 2) (pa_cons pe_int (pa_cons pe_int pa_nil))))))
      (pss_one (ps_raise rfl (takes_of rfl rfl rfl rfl) (pmk_oex T.o_BadFormat T.g_BadFormat_init T.i_BadFormat (ok_BadFormat_init T) (hr.mono (by decide)) T.b_BadFormat_init .nil (fun _ _ _ _ _ _ _ h => h.elim) (by rfl) T.cg_BadFormat (pa_cons pe_str pa_nil))))
      pss_nil)
      (pss_cons (ps_if (pt_not (pt_val (pe_callB call_isi (by rfl) T.m_isinstance (by decide +kernel) (pa_cons (pv 3) (pa_cons (pe_bltn (v := .ty "bool") (u := .type "bool") (by rfl) T.m_bool (by decide +kernel) rfl) pa_nil)))))
      (pss_one (ps_raise rfl (takes_of rfl rfl rfl rfl) (pmk_oex T.o_BadFormat T.g_BadFormat_init T.i_BadFormat (ok_BadFormat_init T) (hr.mono (by decide)) T.b_BadFormat_init .nil (fun _ _ _ _ _ _ _ h => h.elim) (by rfl) T.cg_BadFormat (pa_cons pe_str pa_nil))))
      pss_nil)
      (pss_cons (ps_fld (pv 0) (pv 1) rfl)
      (pss_cons (ps_fld (pv 0) (pv 2) rfl)
      (pss_one (ps_fld (pv 0) (pv 3) rfl))))))), ?_⟩
    have made : ∀ (z : Str), badF dw dh dn = some z → ∀ (a : Addr), H a = Option.none → ∀ d1 : Addr, upd H a (exo a T.C_BadFormat Option.none) d1 = Option.none → d1 ≠ a → _ := fun z ez a na d1 n1 n2 => kE z ez _ d1 (same_made (f := "word") (v := .str z) (Same.refl H) na n1 n2) upd_same
    refine ⟨_, rfl, w, dw, 20, 60, rfl, hw, _, rfl, ?_⟩
    cases e1 : wI 20 60 dw with
    | false =>
      refine iteT ?_
      refine ⟨(by show 1 ≤ 1000; decide), fun a na => ?_⟩
      refine ⟨a, .str "width", rfl, T.o_BadFormat, T.n_BadFormat_word, upd_same, fun d1 n1 n2 => ⟨rfl, d1, [("word", .str "width")], upd_same, ?_, ?_, ?_⟩⟩
      · rw [upd_ne n2, upd_same]
      · rw [upd_ne n2] at n1
        exact n1
      · exact made "width" (by unfold badF; rw [if_pos e1]) a na d1 n1 n2
    | true =>
    refine iteF ?_
    refine ⟨_, rfl, h', dh, 2, 12, rfl, hh, _, rfl, ?_⟩
    cases e2 : wI 2 12 dh with
    | false =>
      refine iteT ?_
      refine ⟨(by show 1 ≤ 1000; decide), fun a na => ?_⟩
      refine ⟨a, .str "height", rfl, T.o_BadFormat, T.n_BadFormat_word, upd_same, fun d1 n1 n2 => ⟨rfl, d1, [("word", .str "height")], upd_same, ?_, ?_, ?_⟩⟩
      · rw [upd_ne n2, upd_same]
      · rw [upd_ne n2] at n1
        exact n1
      · exact made "height" (by unfold badF; rw [if_neg (by rw [e1]; decide), if_pos e2]) a na d1 n1 n2
    | true =>
    refine iteF ?_
    have isb : ∀ M : Bool → Prop, M (isB dn) → ∃ c, TyX K H n c ∧ ∃ b, PySem.W.kitOne K c (.type "bool") = some b ∧ M b := fun M hM => by
      cases hn with
      | non => exact ⟨_, .base .non, false, kit_ty (r := false) (by decide +kernel), hM⟩
      | bl b => exact ⟨_, .base (.bl b), true, kit_ty (by decide +kernel), hM⟩
      | int i => exact ⟨_, .base (.int i), false, kit_ty (r := false) (by decide +kernel), hM⟩
      | str z => exact ⟨_, .base (.str z), false, kit_ty (r := false) (by decide +kernel), hM⟩
      | lst h _ => exact ⟨_, ty_L h, false, kit_ty (r := false) (by decide +kernel), hM⟩
      | tup h _ => exact ⟨_, ty_T h, false, kit_ty (r := false) (by decide +kernel), hM⟩
    obtain ⟨c, hty, b, hk, hb⟩ := isb (fun b => b = isB dn) rfl
    refine ⟨_, rfl, _, _, _, _, _, rfl, .ty "bool", hty, hk, b, rfl, ?_⟩
    cases e3 : isB dn with
    | false =>
      rw [hb, e3]
      refine iteT ?_
      refine ⟨(by show 1 ≤ 1000; decide), fun a na => ?_⟩
      refine ⟨a, .str "near", rfl, T.o_BadFormat, T.n_BadFormat_word, upd_same, fun d1 n1 n2 => ⟨rfl, d1, [("word", .str "near")], upd_same, ?_, ?_, ?_⟩⟩
      · rw [upd_ne n2, upd_same]
      · rw [upd_ne n2] at n1
        exact n1
      · exact made "near" (by unfold badF; rw [if_neg (by rw [e1]; decide), if_neg (by rw [e2]; decide), if_pos e3]) a na d1 n1 n2
    | true =>
    rw [hb, e3]
    refine iteF ?_
    refine ⟨_, rfl, _, rfl, x, _, dx, _, rfl, hx, T.cl_Format, T.na_Format_width, (show 0 < 1000 by decide), ?_⟩
    refine ⟨_, rfl, _, rfl, x, _, dx, _, rfl, upd_same, T.cl_Format, T.na_Format_height, (show 1 < 1000 from by decide), ?_⟩
    refine ⟨_, rfl, _, rfl, x, _, dx, _, rfl, upd_same, T.cl_Format, T.na_Format_near, (show 2 < 1000 from by decide), ?_⟩
    refine kQ (by unfold badF; rw [if_neg (by rw [e1]; decide), if_neg (by rw [e2]; decide), if_neg (by rw [e3]; decide)]) _ (upd_same.trans ?_) (fun b o nb e => ?_)
    · rfl
    · rw [upd_ne nb, upd_ne nb, upd_ne nb]
      exact e
theorem ok_label (T : Tab K mg) : FnOk P w K mg base CX0 3 T.f_label T.d_label ["_law_source_here"] (sp_label K) := by
  refine T.F_label.ok sc_label (fun vs H Q E h => ?_) (fun cdv A outer s H vs Q E hr h => ?_)
  · obtain ⟨a, rfl, _⟩ := h
    rfl
  · obtain ⟨a, rfl, src, q⟩ := h
    refine ⟨_, (pss_cons (ps_set (i := 1) sc_label.nd rfl (.inl rfl) (pe_op op_add pe_int (pe_call (ok_pick T) (hr.mono (by decide)) (by rfl) T.g_pick T.F_pick.kp T.b_pick .nil pass0 (pa_cons (pv 0) (pa_cons pe_int pa_nil)))))
      (pss_cons (ps_set (i := 2) sc_label.nd rfl (.inl rfl) (pe_lst pa_nil))
      (pss_cons (ps_for PassesOwn.never rfl (pi_range1 (by rfl) T.m_range (pa_cons (pe_op op_sub (pv 1) pe_int) pa_nil)) (pg_name (i := 3) sc_label.nd rfl (.inl rfl))
      (pss_one (ps_expr (pe_bm PySem.F.plainAttrs_list PySem.F.slot_list_append PySem.F.type_list_append mt_append (pv 2) (pa_cons (pe_call (ok_figure T) (hr.mono (by decide)) (by rfl) T.g_figure T.F_figure.kp T.b_figure .nil pass0 (pa_cons (pv 0) (pa_cons pe_int pa_nil))) pa_nil)))))
      (pss_cons (ps_expr (pe_bm PySem.F.plainAttrs_list PySem.F.slot_list_append PySem.F.type_list_append mt_append (pv 2) (pa_cons (pe_call (ok_figure T) (hr.mono (by decide)) (by rfl) T.g_figure T.F_figure.kp T.b_figure .nil pass0 (pa_cons (pv 0) (pa_cons pe_int pa_nil))) pa_nil)))
      (pss_one (ps_ret (pe_callTy call_tuple_of (by rfl) T.m_tuple (by decide +kernel) (pa_cons (pv 2) pa_nil)))))))), ?_⟩
    refine ⟨_, rfl, _, _, rfl, src, by decide, by decide, fun n1 H1 s1 b1 p1 p2 => ?_⟩
    refine ⟨_, _, rfl, rfl, ?_⟩
    refine ⟨Nat.zero_le _, fun D nD => ?_⟩
    have nDa : D ≠ a := (s1.ne nD).symm
    have fD : H D = none := b1.none nD nDa
    have grow : ∀ {L : List Int} {v : Int}, ok99 L → 0 ≤ v → v ≤ 99 → ok99 (L ++ [v]) := fun {L v} hL h0 h9 i hi => by
      rcases List.mem_append.mp hi with h | h
      · exact hL _ h
      · rw [List.mem_singleton.mp h]; exact ⟨h0, h9⟩
    refine ⟨_, rfl, _, _, rfl, rfl, _, rfl, by omega, by omega, for_range (lo := 0) (n := (1 + n1 - 1).toNat) (fun j σ' H' => ∃ (L : List Int) (y : Option V), σ' = [some (.ref a), some (.int (1 + n1)), some (.ref D), y] ∧ Src H' a ∧ But a H H' ∧ H' D = some (.lst (L.map V.int)) ∧ L.length = j ∧ ok99 L) ⟨[], none, rfl, s1.put nDa.symm _, b1.put fD _, upd_same, rfl, (fun _ h => nomatch h)⟩ ?_ ?_⟩
    · rintro j σ' H2 hj ⟨L, y, rfl, s2, b2, eD, lL, bL⟩
      refine ⟨_, rfl, .inl ⟨rfl, _, .inl (.inl eD)⟩, _, rfl, a, 0, rfl, s2, by decide, by decide, fun v H3 s3 b3 p3 p4 => ?_⟩
      have eD3 := b3 _ _ nDa eD
      refine ⟨D, _, _, rfl, rfl, eD3, ?_, L ++ [v], _, rfl, s3.put nDa.symm _, (b2.trans b3).put fD _, ?_, ?_, grow bL (by omega) p4⟩
      · rw [List.length_map]; exact small1000 (by omega)
      · rw [upd_same, List.map_append]; rfl
      · rw [List.length_append, lL]; rfl
    · rintro σ' H2 ⟨L, y, rfl, s2, b2, eD, lL, bL⟩
      refine ⟨_, rfl, .inl ⟨rfl, _, .inl (.inl eD)⟩, _, rfl, a, 1, rfl, s2, by decide, by decide, fun v H3 s3 b3 p3 p4 => ?_⟩
      have eD3 := b3 _ _ nDa eD
      refine ⟨D, _, _, rfl, rfl, eD3, ?_, ?_⟩
      · rw [List.length_map]; exact small1000 (by omega)
      have e4 : upd H3 D (.lst (L.map V.int ++ [V.int v])) D = some (.lst ((L ++ [v]).map V.int)) := by rw [upd_same, List.map_append]; rfl
      refine ⟨_, rfl, D, _, rfl, .inl ⟨.inl (.inl e4), fun t nt => ?_⟩⟩
      have s4 := s3.put nDa.symm (.lst (L.map V.int ++ [V.int v]))
      have b4 := (b2.trans b3).put fD (.lst (L.map V.int ++ [V.int v]))
      refine q (.ref t) (L ++ [v]) _ (s4.put (s4.ne nt) _) (b4.trans (But.of (same_upd nt))) (dpL (.inl (.inl upd_same))) ⟨?_, ?_, grow bL (by omega) p4⟩
      · rw [List.length_append, lL]; show _ + 1 ≤ 3; omega
      · rw [List.getLastD_eq_getLast?, List.getLast?_append]
        show v ≠ 0
        omega
theorem ok_spoilt (T : Tab K mg) : FnOk P w K mg base CX0 3 T.f_spoilt T.d_spoilt ["_law_source_here", "_law_word"] (sp_spoilt K) := by
  refine T.F_spoilt.ok sc_spoilt (fun vs H Q E h => ?_) (fun cdv A outer s H vs Q E hr h => ?_)
  · obtain ⟨a, z, rfl, _⟩ := h
    rfl
  · obtain ⟨a, z, rfl, src, z2, q⟩ := h
    refine ⟨_, (pss_cons (ps_for PassesOwn.never rfl (pi_range1 (by rfl) T.m_range (pa_cons (pe_op op_add pe_int (pe_call (ok_pick T) (hr.mono (by decide)) (by rfl) T.g_pick T.F_pick.kp T.b_pick .nil pass0 (pa_cons (pv 0) (pa_cons pe_int pa_nil)))) pa_nil)) (pg_name (i := 2) sc_spoilt.nd rfl (.inl rfl))
      (pss_cons (ps_set (i := 3) sc_spoilt.nd rfl (.inl rfl) (pe_call (ok_pick T) (hr.mono (by decide)) (by rfl) T.g_pick T.F_pick.kp T.b_pick .nil pass0 (pa_cons (pv 0) (pa_cons (pe_op op_add (pe_callB call_len_str (by rfl) T.m_len PySem.boot_len (pa_cons (pv 1) pa_nil)) pe_int) pa_nil))))
        (pss_cons (ps_set (i := 4) sc_spoilt.nd rfl (.inl rfl) (pe_call (ok_pick T) (hr.mono (by decide)) (by rfl) T.g_pick T.F_pick.kp T.b_pick .nil pass0 (pa_cons (pv 0) (pa_cons pe_int pa_nil))))
        (pss_one (ps_if (pt_cmpR op_eq (pv 4) pe_int (nomark _))
        (pss_one (ps_set (i := 1) sc_spoilt.nd rfl (.inl rfl) (pe_op op_add_str (pe_op op_add_str (pe_slice sl_str (pv 1) po_none (po_some (pv 3))) (pe_call (ok_sign T) (hr.mono (by decide)) (by rfl) T.g_sign T.F_sign.kp T.b_sign .nil pass0 (pa_cons (pv 0) pa_nil))) (pe_slice sl_str (pv 1) (po_some (pv 3)) po_none))))
        (pss_one (ps_if (pt_cmpR op_eq (pv 4) pe_int (nomark _))
          (pss_one (ps_set (i := 1) sc_spoilt.nd rfl (.inl rfl) (pe_op op_add_str (pe_slice sl_str (pv 1) po_none (po_some (pv 3))) (pe_slice sl_str (pv 1) (po_some (pe_op op_add (pv 3) pe_int)) po_none))))
          (pss_one (ps_set (i := 1) sc_spoilt.nd rfl (.inl rfl) (pe_op op_add_str (pe_op op_add_str (pe_slice sl_str (pv 1) po_none (po_some (pv 3))) (pe_call (ok_sign T) (hr.mono (by decide)) (by rfl) T.g_sign T.F_sign.kp T.b_sign .nil pass0 (pa_cons (pv 0) pa_nil))) (pe_slice sl_str (pv 1) (po_some (pe_op op_add (pv 3) pe_int)) po_none)))))))))))
      (pss_one (ps_ret (pv 1)))), ?_⟩
    have ap : ∀ x y : Str, (x ++ y).length = x.length + y.length := fun x y => by
      show (x.cps ++ y.cps).size = _
      rw [Array.size_append]; rfl
    refine ⟨_, rfl, _, _, rfl, src, by decide, by decide, fun n H1 s1 b1 n0 n1 => ?_⟩
    refine ⟨_, _, rfl, rfl, _, rfl, by omega, by omega, for_range (lo := 0) (n := (1 + n).toNat) (fun i σ' H' => ∃ (y : Str) (y2 y3 y4 : Option V), σ' = [some (.ref a), some (.str y), y2, y3, y4] ∧ Src H' a ∧ But a H H' ∧ y.length ≤ z.length + i) ⟨z, none, none, none, rfl, s1, b1, Nat.le_refl _⟩ ?_ ?_⟩
    · rintro i σ' H2 hi ⟨y, y2, y3, y4, rfl, s2, b2, ly⟩
      have hy2 : y.length ≤ sizeLine := Nat.le_of_lt (small1000 (by omega))
      refine ⟨_, rfl, _, rfl, y, rfl, hy2, _, _, rfl, rfl, _, _, rfl, s2, by omega, by omega, fun k H3 s3 b3 k0 k1 => ?_⟩
      refine ⟨_, rfl, _, _, rfl, s3, by decide, by decide, fun w H4 s4 b4 w0 w1 => ?_⟩
      have b24 := (b2.trans b3).trans b4
      have S0 := cut_to y k k0 (by omega)
      have S1 := cut_from y k k0
      have S2 := cut_from y (k + 1) (by omega)
      refine ⟨_, rfl, rfl, _, rfl, ite2 (fun e => ?_) (fun e => ?_)⟩
      · refine ⟨_, rfl, _, rfl, _, rfl, y, rfl, hy2, _, rfl, a, rfl, s4, fun c H5 s5 b5 c1 => ?_⟩
        refine ⟨_, _, rfl, rfl, Nat.le_of_lt (small1000 (by omega)), _, rfl, _, rfl, _, rfl, y, rfl, hy2, _, _, rfl, rfl, Nat.le_of_lt (small1000 (by rw [ap]; omega)), _, _, _, _, rfl, s5, b24.trans b5, ?_⟩
        rw [ap, ap]
        omega
      · refine ⟨_, rfl, rfl, _, rfl, ite2 (fun e => ?_) (fun e => ?_)⟩
        · refine ⟨_, rfl, _, rfl, _, rfl, y, rfl, hy2, _, rfl, _, rfl, _, _, rfl, rfl, _, rfl, y, rfl, hy2, _, _, rfl, rfl, Nat.le_of_lt (small1000 (by omega)), _, _, _, _, rfl, s4, b24, ?_⟩
          rw [ap]
          omega
        · refine ⟨_, rfl, _, rfl, _, rfl, y, rfl, hy2, _, rfl, a, rfl, s4, fun c H5 s5 b5 c1 => ?_⟩
          refine ⟨_, _, rfl, rfl, Nat.le_of_lt (small1000 (by omega)), _, rfl, _, rfl, _, _, rfl, rfl, _, rfl, y, rfl, hy2, _, _, rfl, rfl, Nat.le_of_lt (small1000 (by rw [ap]; omega)), _, _, _, _, rfl, s5, b24.trans b5, ?_⟩
          rw [ap, ap]
          omega
    · rintro σ' H2 ⟨y, y2, y3, y4, rfl, s2, b2, ly⟩
      exact ⟨_, rfl, q y H2 s2 b2 (by omega)⟩
theorem ok_is_page (T : Tab K mg) : FnOk P w K mg base CX0 3 T.f_is_page T.d_is_page ["_law_actual", "_law_due"] (sp_is_page K) := by
  refine T.F_is_page.ok sc_is_page (fun vs H Q E h => ?_) (fun cdv A outer s H vs Q E hr h => ?_)
  · obtain ⟨x, y, o, rfl, _⟩ := h
    rfl
  · obtain ⟨x, y, o, rfl, hx, hy, q⟩ := h
    refine ⟨_, (pss_cons (ps_if (pt_cmpR op_isN (pv 1) pe_non (nomark _))
      (pss_one (ps_ret (pe_cmpR op_isN (pv 0) pe_non (nomark _))))
      pss_nil)
      (pss_cons (ps_if (PW.pt (pw_or (pt_not (pt_val (pe_callB call_isi (by rfl) T.m_isinstance (by decide +kernel) (pa_cons (pv 0) (pa_cons (pe_bltn (v := .ty "tuple") (u := .type "tuple") (by rfl) T.m_tuple (by decide +kernel) rfl) pa_nil))))) (pw_or (pt_cmpR op_ne (pe_callB call_len_seq (by rfl) T.m_len PySem.boot_len (pa_cons (pv 0) pa_nil)) pe_int (nomark _)) (pw_or1 (pt_not (pt_val (pe_call (ok_law_is_integer T) (hr.mono (by decide)) (by rfl) T.g_law_is_integer T.F_law_is_integer.kp T.b_law_is_integer .nil pass0 (pa_cons (pe_ix ix_tup (pv 0) pe_int (fun _ _ => rfl)) pa_nil))))))))
      (pss_one (ps_ret pe_bl))
      pss_nil)
      (pss_one (ps_ret (pe_and (pe_call (ok_is_label T) (hr.mono (by decide)) (by rfl) T.g_is_label T.F_is_label.kp T.b_is_label .nil pass0 (pa_cons (pe_ix ix_tup (pv 0) pe_int (fun _ _ => rfl)) (pa_cons (pe_ix ix_tup (pv 1) pe_int (fun _ _ => rfl)) pa_nil))) (pe_one (pe_cmpR op_eq (pe_ix ix_tup (pv 0) pe_int (fun _ _ => rfl)) (pe_ix ix_tup (pv 1) pe_int (fun _ _ => rfl)) (nomark _)))))))), ?_⟩
    cases o with
    | none =>
      cases hx
      cases hy
      refine ⟨_, rfl, rfl, _, rfl, ite2 (fun _ => ?_) (fun e => absurd (decide_eq_true rfl) e)⟩
      refine ⟨_, rfl, rfl, ?_⟩
      rw [decide_eq_true rfl]
      exact q
    | some p =>
    obtain ⟨a, l, rfl, ha, hl⟩ := dP_inv hx
    obtain ⟨b, m, rfl, hb, hm⟩ := dP_inv hy
    refine ⟨_, rfl, rfl, _, rfl, ite2 (fun e => by simp at e) (fun _ => ?_)⟩
    refine ⟨_, rfl, _, _, _, _, _, rfl, .ty "tuple", ty_T ha, kit_ty (by decide +kernel), true, rfl, iteF ?_⟩
    refine ⟨_, rfl, _, _, rfl, .inr ha, rfl, _, rfl, ite2 (fun e => by simp at e) (fun _ => ?_)⟩
    refine ⟨_, rfl, a, _, 1, _, rfl, rfl, ha, rfl, p.2, rfl, true, rfl, iteF ?_⟩
    refine ⟨_, rfl, a, _, 0, _, rfl, rfl, ha, rfl, _, rfl, b, _, 0, _, rfl, rfl, hb, rfl, .ref l, .ref m, some p.1, rfl, dpL hl, dpL hm, true, rfl, iteT ?_⟩
    refine ⟨_, rfl, a, _, 1, _, rfl, rfl, ha, rfl, _, rfl, b, _, 1, _, rfl, rfl, hb, rfl, rfl, ?_⟩
    rw [decide_eq_true rfl]
    exact q
theorem ok_judged_label (T : Tab K mg) : FnOk P w K mg base (L2.CX P w) 4 T.f_judged_label T.d_judged_label ["thing"] (sp_judged_label K T.C_BadLabel) := by
  refine T.F_judged_label.okX sc_judged_label (fun vs H Q E h => ?_) (fun cdv A outer s H vs Q E hr h => ?_)
  · obtain ⟨v, d, rfl, _⟩ := h
    rfl
  · obtain ⟨v, d, rfl, hd, kE, kQ⟩ := h
    refine ⟨_, (pss_cons (ps_set (i := 1) sc_judged_label.nd rfl (.inl rfl) (pe_call (ok_kept_label T) (hr.mono (by decide)) (by rfl) T.g_kept_label T.F_kept_label.kp T.b_kept_label .nil pass0 (pa_cons (pv 0) pa_nil)))
      (pss_cons (ps_if (pt_cmpR op_isN (pv 1) pe_non (nomark _))
      (pss_one (ps_raise rfl (takes_of rfl rfl rfl rfl) (pmk_oex T.o_BadLabel T.g_BadLabel_init T.i_BadLabel (ok_BadLabel_init T) (hr.mono (by decide)) T.b_BadLabel_init .nil (fun _ _ _ _ _ _ _ h => h.elim) (by rfl) T.cg_BadLabel (pa_cons (pv 0) pa_nil))))
      pss_nil)
      (pss_one (ps_ret (pv 1))))), ?_⟩
    refine ⟨_, rfl, _, d, rfl, hd, fun y H1 s1 dp => ?_⟩
    refine ⟨_, rfl, rfl, _, rfl, ite2 (fun e => ?_) (fun e => ?_)⟩
    · have ek : keptD d = none := by
        cases q : keptD d with
        | none => rfl
        | some L =>
          rw [q] at dp
          obtain ⟨a, rfl, _⟩ := dL_inv dp
          exact absurd (of_decide_eq_true e) (by intro z; cases z)
      refine ⟨_, rfl, (by show 1 ≤ 1000; decide), fun a na => ?_⟩
      refine ⟨a, v, rfl, T.o_BadLabel, T.n_BadLabel_label, upd_same, fun dx n1 n2 => ⟨rfl, dx, [("label", v)], upd_same, ?_, ?_, ?_⟩⟩
      · rw [upd_ne n2, upd_same]
      · rw [upd_ne n2] at n1
        exact n1
      · exact kE ek _ dx (same_made s1 na n1 n2) upd_same
    · cases q : keptD d with
      | none =>
        rw [q] at dp
        cases dp
        exact absurd (decide_eq_true rfl) e
      | some L =>
        rw [q] at dp
        exact ⟨_, rfl, kQ L q y H1 s1 dp⟩
theorem ok_read_label (T : Tab K mg) : FnOk P w K mg base CX0 4 T.f_read_label T.d_read_label ["word"] (sp_read_label K) := by
  refine T.F_read_label.ok sc_read_label (fun vs H Q E h => ?_) (fun cdv A outer s H vs Q E hr h => ?_)
  · obtain ⟨z, rfl, _⟩ := h
    rfl
  · obtain ⟨z, rfl, hz, q⟩ := h
    refine ⟨_, (pss_one (ps_ret (pe_call (ok_kept_label T) (hr.mono (by decide)) (by rfl) T.g_kept_label T.F_kept_label.kp T.b_kept_label .nil pass0 (pa_cons (pe_lc (own := [("part", 1)]) (g := gName 1) (by rfl) sc_read_label.nd (pi_list (pe_split (pv 0) pe_str)) (blkOk_by (own := [("part", 1)]) (N := N_read_label) (sc := defScope s_read_label) (by decide +kernel)) (fun _ _ _ _ _ => pg_name (i := 1) sc_read_label.nd rfl (.inl rfl)) (fun _ _ _ _ _ => pts_nil) (fun _ _ _ _ _ => (pe_call (ok_read_integer T) (hr.mono (by decide)) (by rfl) T.g_read_integer T.F_read_integer.kp T.b_read_integer .nil pass0 (pa_cons (pv 1) (pa_cons pe_int (pa_cons pe_int pa_nil)))))) pa_nil)))), ?_⟩
    have hd1 : 1 ≤ ("." : Str).length := by decide +kernel
    have hcnt := split_cnt z "." hd1
    refine ⟨_, rfl, ⟨_, rfl⟩, z, _, rfl, rfl, (by decide +kernel), ?_, fun p np => ?_⟩
    · have e2 : sizeLine = 16777216 := by decide
      omega
    refine ⟨p, rfl, ⟨_, .inl (.inl upd_same)⟩, fun D nD => ?_⟩
    have ep : (upd H p (.lst ((Txt.split z ".").map V.str))) p = some (.lst ((Txt.split z ".").map V.str)) := upd_same
    have s1 := same_upd (o := .lst ((Txt.split z ".").map V.str)) np
    generalize upd H p (.lst ((Txt.split z ".").map V.str)) = H1 at nD ep s1
    refine lc_list (xs := (Txt.split z ".").map V.str) (fun i H' => Same H1 H' ∧ H' D = some (.lst ((((Txt.split z ".").take i).map rdI).map optI))) ⟨same_upd nD, upd_same⟩ (fun i H' _ hh => .inl (.inl (hh.1 _ _ ep))) ?_ ?_
    · rintro i x H' hx ⟨sm, eD⟩
      obtain ⟨y, rfl, hy⟩ := get_map hx
      have hy1 := split_part z "." hd1 (List.mem_of_getElem? hy)
      have hi := (List.getElem?_eq_some_iff.mp hy).1
      refine ⟨rfl, ?_⟩
      refine ⟨_, rfl, y, rfl, by omega, fun H2 s2 => ⟨_, s2 _ _ eD, ?_, same_put (sm.trans s2) nD _, ?_⟩⟩
      · rw [List.length_map, List.length_map, List.length_take]; exact small1000 (by omega)
      · rw [upd_same, List.take_add_one, hy, List.map_append, List.map_append]; rfl
    · rintro H' ⟨sm, eD⟩
      rw [List.length_map, List.take_length] at eD
      refine ⟨.ref D, .list (((Txt.split z ".").map rdI).map oI), rfl, .lst (.inl (.inl eD)) (dp_optI _), fun v H2 s2 dp => q v H2 ((s1.trans sm).trans s2) ?_⟩
      have e : keptD (.list (((Txt.split z ".").map rdI).map oI)) = rdL z := by
        show keep ((((Txt.split z ".").map rdI).map oI).map toO) = keep ((Txt.split z ".").map rdI)
        rw [toO_oI fun i hi => rdI_some hi]
      rw [← e]
      exact dp
theorem ok_words (T : Tab K mg) : FnOk P w K mg base CX0 4 T.f_words T.d_words ["_law_source_here", "_law_label_here", "_law_side"] (sp_words K) := by
  refine T.F_words.ok sc_words (fun vs H Q E h => ?_) (fun cdv A outer s H vs Q E hr h => ?_)
  · obtain ⟨a, v, L, s, rfl, _⟩ := h
    rfl
  · obtain ⟨a, v, L, s, rfl, src, hv, hL, hs, q⟩ := h
    refine ⟨_, (pss_cons (ps_set (i := 3) sc_words.nd rfl (.inl rfl) (pe_call (ok_page_word T) (hr.mono (by decide)) (by rfl) T.g_page_word T.F_page_word.kp T.b_page_word .nil pass0 (pa_cons (pe_tup (pa_cons (pv 1) (pa_cons (pv 2) pa_nil))) pa_nil)))
      (pss_cons (ps_set (i := 4) sc_words.nd rfl (.inl rfl) (pe_lst (pa_cons (pv 3) (pa_cons (pe_call (ok_label_word T) (hr.mono (by decide)) (by rfl) T.g_label_word T.F_label_word.kp T.b_label_word .nil pass0 (pa_cons (pv 1) pa_nil)) (pa_cons (pe_op op_add_str (pe_call (ok_label_word T) (hr.mono (by decide)) (by rfl) T.g_label_word T.F_label_word.kp T.b_label_word .nil pass0 (pa_cons (pv 1) pa_nil)) (pe_ix ix_str pe_str (pe_call (ok_pick T) (hr.mono (by decide)) (by rfl) T.g_pick T.F_pick.kp T.b_pick .nil pass0 (pa_cons (pv 0) (pa_cons pe_int pa_nil))) (fun _ _ => rfl))) (pa_cons (pe_op op_add_str (pv 3) pe_str) pa_nil))))))
      (pss_cons (ps_expr (pe_bm PySem.F.plainAttrs_list PySem.F.slot_list_append PySem.F.type_list_append mt_append (pv 4) (pa_cons (pe_op op_add_str pe_str (pv 3)) pa_nil)))
      (pss_cons (ps_expr (pe_bm PySem.F.plainAttrs_list PySem.F.slot_list_append PySem.F.type_list_append mt_append (pv 4) (pa_cons (pe_op op_add_str (pe_ix ix_str (pv 3) (pe_un un_neg pe_int) (fun _ _ => rfl)) (pe_slice sl_str (pv 3) po_none (po_some (pe_un un_neg pe_int)))) pa_nil)))
      (pss_cons (ps_for PassesOwn.never rfl (pi_range1 (by rfl) T.m_range (pa_cons pe_int pa_nil)) (pg_name (i := 5) sc_words.nd rfl (.inl rfl))
      (pss_cons (ps_expr (pe_bm PySem.F.plainAttrs_list PySem.F.slot_list_append PySem.F.type_list_append mt_append (pv 4) (pa_cons (pe_call (ok_spoilt T) (hr.mono (by decide)) (by rfl) T.g_spoilt T.F_spoilt.kp T.b_spoilt .nil pass0 (pa_cons (pv 0) (pa_cons (pv 3) pa_nil))) pa_nil)))
        (pss_cons (ps_expr (pe_bm PySem.F.plainAttrs_list PySem.F.slot_list_append PySem.F.type_list_append mt_append (pv 4) (pa_cons (pe_call (ok_spoilt T) (hr.mono (by decide)) (by rfl) T.g_spoilt T.F_spoilt.kp T.b_spoilt .nil pass0 (pa_cons (pv 0) (pa_cons (pe_call (ok_label_word T) (hr.mono (by decide)) (by rfl) T.g_label_word T.F_label_word.kp T.b_label_word .nil pass0 (pa_cons (pv 1) pa_nil)) pa_nil))) pa_nil)))
        (pss_one (ps_expr (pe_bm PySem.F.plainAttrs_list PySem.F.slot_list_append PySem.F.type_list_append mt_append (pv 4) (pa_cons (pe_call (ok_some_word T) (hr.mono (by decide)) (by rfl) T.g_some_word T.F_some_word.kp T.b_some_word .nil pass0 (pa_cons (pv 0) pa_nil)) pa_nil)))))))
      (pss_one (ps_ret (pv 4)))))))), ?_⟩
    obtain ⟨l, rfl, hl⟩ := dL_inv hv
    have hP : okP (L, s) := ⟨hL, hs⟩
    have l1 := fL_len hL
    have l2 := fP_len hP
    have l3 : ("cA B" : Str).cps.toList.length = 4 := by decide +kernel
    have ap : ∀ x y : Str, (x ++ y).length = x.length + y.length := fun x y => by
      show (x.cps ++ y.cps).size = _
      rw [Array.size_append]; rfl
    have one : ∀ c : Nat, (⟨#[c]⟩ : Str).length = 1 := fun _ => rfl
    have la : ("a" : Str).length = 1 := by decide +kernel
    have l0 : ("0" : Str).length = 1 := by decide +kernel
    refine ⟨_, rfl, _, rfl, (by show 2 ≤ sizeLine; decide), fun t nt => ?_⟩
    have st := same_upd (o := .tup [.ref l, .int s]) nt
    have src1 := srcN src nt (.tup [.ref l, .int s])
    refine ⟨_, (L, s), rfl, .tup (.inl (.inl upd_same)) (.cons (dpL (same_seqT st hl)) (.cons (.int _) .nil)), hP, fun H1 s1 => ?_⟩
    have hl1 := same_seqT (st.trans s1) hl
    refine ⟨_, rfl, _, rfl, l, L, rfl, hl1, hL, fun H2 s2 => ⟨_, rfl, l, L, rfl, same_seqT s2 hl1, hL, fun H3 s3 => ?_⟩⟩
    have s13 := (s1.trans s2).trans s3
    have src3 := srcS src1 s13
    refine ⟨_, rfl, _, _, rfl, src3, by decide, by decide, fun k H4 s4 b4 k0 k1 => ?_⟩
    obtain ⟨c, hc⟩ := at_some ("cA B" : Str).cps.toList k k0 (by rw [l3]; exact k1)
    have b04 : But a H H4 := (But.of (st.trans s13)).trans b4
    have hl4 := sqT_src src3 b4 (same_seqT (s2.trans s3) hl1)
    refine ⟨_, k, c, rfl, rfl, (by decide +kernel), hc, _, _, rfl, rfl, Nat.le_of_lt (small1000 (by rw [one]; omega)), ?_⟩
    refine ⟨_, rfl, _, _, rfl, rfl, Nat.le_of_lt (small1000 (by rw [la]; omega)), (by show 4 ≤ sizeLine; decide), fun D nD => ?_⟩
    have nDa : D ≠ a := (s4.ne nD).symm
    have fD : H D = none := b04.none nD nDa
    obtain ⟨z0, hz0, lz0⟩ : ∃ zs : List Str, [V.str (fP (L, s)), .str (fL L), .str (fL L ++ ⟨#[c]⟩), .str (fP (L, s) ++ "a")] = zs.map V.str ∧ zs.length = 4 ∧ ∀ z ∈ zs, z.length ≤ 100 := by
      refine ⟨[fP (L, s), fL L, fL L ++ ⟨#[c]⟩, fP (L, s) ++ "a"], rfl, rfl, fun z hz => ?_⟩
      simp only [List.mem_cons, List.not_mem_nil, or_false] at hz
      rcases hz with rfl | rfl | rfl | rfl
      · omega
      · omega
      · rw [ap, one]; omega
      · rw [ap, la]; omega
    have e4 : upd H4 D (.lst [V.str (fP (L, s)), .str (fL L), .str (fL L ++ ⟨#[c]⟩), .str (fP (L, s) ++ "a")]) D = some (.lst (z0.map V.str)) := by rw [upd_same, hz0]
    have s5 := s4.put nDa.symm (.lst [V.str (fP (L, s)), .str (fL L), .str (fL L ++ ⟨#[c]⟩), .str (fP (L, s) ++ "a")])
    have b5 := b04.put fD (.lst [V.str (fP (L, s)), .str (fL L), .str (fL L ++ ⟨#[c]⟩), .str (fP (L, s) ++ "a")])
    have hl5 := same_seqT (same_upd (o := .lst [V.str (fP (L, s)), .str (fL L), .str (fL L ++ ⟨#[c]⟩), .str (fP (L, s) ++ "a")]) nD) hl4
    generalize upd H4 D (.lst [V.str (fP (L, s)), .str (fL L), .str (fL L ++ ⟨#[c]⟩), .str (fP (L, s) ++ "a")]) = H5 at e4 s5 b5 hl5
    have app : ∀ {zs : List Str} {z : Str}, (∀ y ∈ zs, y.length ≤ 100) → z.length ≤ 100 → ∀ y ∈ zs ++ [z], y.length ≤ 100 := fun h h2 y hy => by
      rcases List.mem_append.mp hy with h3 | h3
      · exact h y h3
      · rw [List.mem_singleton.mp h3]; exact h2
    have push : ∀ {Hx : Hp} {zs : List Str} {z : Str} (e : Hx D = some (.lst (zs.map V.str))), upd Hx D (.lst (zs.map V.str ++ [V.str z])) D = some (.lst ((zs ++ [z]).map V.str)) := fun e => by
      rw [upd_same, List.map_append]; rfl
    have keepl : ∀ {Hx : Hp} {zs : List Str} {z : Str} (e : Hx D = some (.lst (zs.map V.str))), SqT K Hx l (L.map V.int) → SqT K (upd Hx D (.lst (zs.map V.str ++ [V.str z]))) l (L.map V.int) := fun e h => (seqT_but e (But.upd _) h)
    have hP2 : (fP (L, s)).length ≤ sizeLine := Nat.le_of_lt (small1000 (by omega))
    refine ⟨_, rfl, .inl ⟨rfl, _, .inl (.inl e4)⟩, _, rfl, _, _, rfl, rfl, Nat.le_of_lt (small1000 (by rw [l0]; omega)), D, _, _, rfl, rfl, e4, ?_, ?_⟩
    · rw [List.length_map]; exact small1000 (by omega)
    have e6 := push (z := "0" ++ fP (L, s)) e4
    have s6 := s5.put nDa.symm (.lst (z0.map V.str ++ [V.str ("0" ++ fP (L, s))]))
    have b6 := b5.put fD (.lst (z0.map V.str ++ [V.str ("0" ++ fP (L, s))]))
    have hl6 := keepl (z := "0" ++ fP (L, s)) e4 hl5
    have g6 := app (z := "0" ++ fP (L, s)) lz0.2 (by rw [ap, l0]; omega)
    generalize upd H5 D (.lst (z0.map V.str ++ [V.str ("0" ++ fP (L, s))])) = H6 at e6 s6 b6 hl6
    have lz1 : (z0 ++ ["0" ++ fP (L, s)]).length = 5 := by rw [List.length_append, lz0.1]; rfl
    generalize z0 ++ ["0" ++ fP (L, s)] = z1 at e6 g6 lz1
    obtain ⟨cl, hcl⟩ : ∃ cl, atI (fP (L, s)).cps.toList (-1) = some cl := by
      rcases List.eq_nil_or_concat (fP (L, s)).cps.toList with e | ⟨r, cl, e⟩
      · have : (fP (L, s)).cps.toList.length = 0 := by rw [e]; rfl
        have e2 : (fP (L, s)).length = (fP (L, s)).cps.toList.length := rfl
        omega
      · exact ⟨cl, by rw [e, List.concat_eq_append]; exact atI_last _ _⟩
    have lc := cutS_length (fP (L, s)) none (some (-1))
    refine ⟨_, rfl, .inl ⟨rfl, _, .inl (.inl e6)⟩, _, rfl, 1, rfl, _, _, cl, rfl, rfl, hP2, hcl, _, rfl, 1, rfl, -1, rfl, _, rfl, hP2, _, _, rfl, rfl, Nat.le_of_lt (small1000 (by rw [one]; omega)), D, _, _, rfl, rfl, e6, ?_, ?_⟩
    · rw [List.length_map]; exact small1000 (by omega)
    have e7 := push (z := ⟨#[cl]⟩ ++ cutS (fP (L, s)) none (some (-1))) e6
    have s7 := s6.put nDa.symm (.lst (z1.map V.str ++ [V.str (⟨#[cl]⟩ ++ cutS (fP (L, s)) none (some (-1)))]))
    have b7 := b6.put fD (.lst (z1.map V.str ++ [V.str (⟨#[cl]⟩ ++ cutS (fP (L, s)) none (some (-1)))]))
    have hl7 := keepl (z := ⟨#[cl]⟩ ++ cutS (fP (L, s)) none (some (-1))) e6 hl6
    have g7 := app (z := ⟨#[cl]⟩ ++ cutS (fP (L, s)) none (some (-1))) g6 (by rw [ap, one]; omega)
    refine ⟨_, rfl, by decide, by decide, for_range (lo := 0) (n := 3) (fun i σ' H' => ∃ (zs : List Str) (y : Option V), σ' = [some (.ref a), some (.ref l), some (.int s), some (.str (fP (L, s))), some (.ref D), y] ∧ Src H' a ∧ But a H H' ∧ SqT K H' l (L.map V.int) ∧ H' D = some (.lst (zs.map V.str)) ∧ zs.length = 6 + 3 * i ∧ ∀ z ∈ zs, z.length ≤ 100) ⟨_, none, rfl, s7, b7, hl7, e7, (by rw [List.length_append, lz1]; rfl), g7⟩ ?_ ?_⟩
    · rintro i σ' Hx hi ⟨zs, y, rfl, sx, bx, hlx, ex, lx, gx⟩
      refine ⟨_, rfl, .inl ⟨rfl, _, .inl (.inl ex)⟩, _, rfl, _, rfl, _, _, rfl, sx, (by omega), fun y1 Ha sa ba la1 => ?_⟩
      have ea := ba _ _ nDa ex
      have hla := sqT_src sx ba hlx
      refine ⟨D, _, _, rfl, rfl, ea, ?_, ?_⟩
      · rw [List.length_map]; exact small1000 (by omega)
      have ea2 := push (z := y1) ea
      have sa2 := sa.put nDa.symm (.lst (zs.map V.str ++ [V.str y1]))
      have ba2 := (bx.trans ba).put fD (.lst (zs.map V.str ++ [V.str y1]))
      have hla2 := keepl (z := y1) ea hla
      have ga := app (z := y1) gx (by omega)
      generalize upd Ha D (.lst (zs.map V.str ++ [V.str y1])) = Hb at ea2 sa2 ba2 hla2
      refine ⟨_, rfl, .inl ⟨rfl, _, .inl (.inl ea2)⟩, _, rfl, _, rfl, l, L, rfl, hla2, hL, fun Hc sc => ?_⟩
      have srcc := srcS sa2 sc
      refine ⟨_, _, rfl, srcc, (by omega), fun y2 Hd sd bd ld => ?_⟩
      have ed := bd _ _ nDa (sc _ _ ea2)
      have hld := sqT_src srcc bd (same_seqT sc hla2)
      refine ⟨D, _, _, rfl, rfl, ed, ?_, ?_⟩
      · rw [List.length_map, List.length_append]; exact small1000 (by show zs.length + 1 ≤ 1000; omega)
      have ed2 := push (z := y2) ed
      have sd2 := sd.put nDa.symm (.lst ((zs ++ [y1]).map V.str ++ [V.str y2]))
      have bd2 := ((ba2.trans (But.of sc)).trans bd).put fD (.lst ((zs ++ [y1]).map V.str ++ [V.str y2]))
      have hld2 := keepl (z := y2) ed hld
      have gd := app (z := y2) ga (by omega)
      generalize upd Hd D (.lst ((zs ++ [y1]).map V.str ++ [V.str y2])) = He at ed2 sd2 bd2 hld2
      refine ⟨_, rfl, .inl ⟨rfl, _, .inl (.inl ed2)⟩, _, rfl, _, rfl, sd2, fun y3 Hf sf bf lf => ?_⟩
      have ef := bf _ _ nDa ed2
      have hlf := sqT_src sd2 bf hld2
      refine ⟨D, _, _, rfl, rfl, ef, ?_, ?_⟩
      · rw [List.length_map, List.length_append, List.length_append]; exact small1000 (by show zs.length + 1 + 1 ≤ 1000; omega)
      refine ⟨_, _, rfl, sf.put nDa.symm _, (bd2.trans bf).put fD _, keepl (z := y3) ef hlf, push (z := y3) ef, ?_, app (z := y3) gd (by omega)⟩
      rw [List.length_append, List.length_append, List.length_append]
      show zs.length + 1 + 1 + 1 = _
      omega
    · rintro σ' Hx ⟨zs, y, rfl, sx, bx, hlx, ex, lx, gx⟩
      exact ⟨_, rfl, q D zs Hx sx bx fD ex gx⟩
theorem ok_write_label (T : Tab K mg) : FnOk P w K mg base (L2.CX P w) 5 T.f_write_label T.d_write_label ["label"] (sp_write_label K T.C_BadLabel) := by
  refine T.F_write_label.okX sc_write_label (fun vs H Q E h => ?_) (fun cdv A outer s H vs Q E hr h => ?_)
  · obtain ⟨v, d, rfl, _⟩ := h
    rfl
  · obtain ⟨v, d, rfl, hd, kE, kQ⟩ := h
    refine ⟨_, (pss_one (ps_ret (pe_join pe_str (pe_lc (own := [("part", 1)]) (g := gName 1) (by rfl) sc_write_label.nd (pi_tup (pe_call (ok_judged_label T) (hr.mono (by decide)) (by rfl) T.g_judged_label T.F_judged_label.kp T.b_judged_label .nil (passes_call (takes_of rfl rfl rfl rfl) (fun _ _ _ _ h => h)) (pa_cons (pv 0) pa_nil))) (blkOk_by (own := [("part", 1)]) (N := N_write_label) (sc := defScope s_write_label) (by decide +kernel)) (fun _ _ _ _ _ => pg_name (i := 1) sc_write_label.nd rfl (.inl rfl)) (fun _ _ _ _ _ => pts_nil) (fun _ _ _ _ _ => (pe_callTy call_str_int (by rfl) T.m_str (by decide +kernel) (pa_cons (pv 1) pa_nil))))))), ?_⟩
    refine ⟨⟨_, rfl⟩, _, rfl, v, d, rfl, hd, kE, fun L ek y H1 s1 hy => ?_⟩
    have hL := kept_okL ek
    obtain ⟨p, rfl, hp⟩ := dL_inv hy
    refine ⟨p, rfl, ⟨_, hp⟩, fun D nD => ?_⟩
    refine lc_tup (xs := L.map V.int) (fun i H' => Same H1 H' ∧ H' D = some (.lst (((L.take i).map fun i => (toString i : Str)).map V.str))) ⟨same_upd nD, upd_same⟩ (fun i H' _ hh => same_seqT hh.1 hp) ?_ ?_
    · rintro i x H' hx ⟨sm, eD⟩
      obtain ⟨n, rfl, hn⟩ : ∃ n, x = V.int n ∧ L[i]? = some n := by
        rw [List.getElem?_map] at hx
        cases e : L[i]? with
        | none => rw [e] at hx; cases hx
        | some n => rw [e] at hx; exact ⟨n, (Option.some.inj hx).symm, rfl⟩
      have hb := hL.2.2 n (List.mem_of_getElem? hn)
      have hl := hL.1
      refine ⟨rfl, ?_⟩
      refine ⟨_, rfl, n, rfl, log_small (by omega), _, eD, ?_, same_put sm nD _, ?_⟩
      · rw [List.length_map, List.length_map, List.length_take]; exact small1000 (by omega)
      · rw [upd_same, List.take_add_one, hn, List.map_append, List.map_append]; rfl
    rintro H' ⟨sm, eD⟩
    rw [List.length_map, List.take_length] at eD
    refine ⟨_, D, _, rfl, rfl, .inl (.inl (.inl eD)), ?_, kQ L ek H' (s1.trans sm)⟩
    exact num_fit hL
theorem ok_read_page (T : Tab K mg) : FnOk P w K mg base CX0 5 T.f_read_page T.d_read_page ["word"] (sp_read_page K) := by
  refine T.F_read_page.ok sc_read_page (fun vs H Q E h => ?_) (fun cdv A outer s H vs Q E hr h => ?_)
  · obtain ⟨z, rfl, _⟩ := h
    rfl
  · obtain ⟨z, rfl, hz, q⟩ := h
    refine ⟨_, (pss_cons (ps_if (pt_cmpR op_notIn_seq (pe_slice sl_str (pv 0) (po_some (pe_un un_neg pe_int)) po_none) (pe_tup (pa_cons pe_str (pa_cons pe_str pa_nil))) (by rfl))
      (pss_one (ps_ret pe_non))
      pss_nil)
      (pss_cons (ps_set (i := 1) sc_read_page.nd rfl (.inl rfl) (pe_call (ok_read_label T) (hr.mono (by decide)) (by rfl) T.g_read_label T.F_read_label.kp T.b_read_label .nil pass0 (pa_cons (pe_slice sl_str (pv 0) po_none (po_some (pe_un un_neg pe_int))) pa_nil)))
      (pss_one (ps_ret (pe_ifExp (pt_cmpR op_isN (pv 1) pe_non (nomark _)) pe_non (pe_tup (pa_cons (pv 1) (pa_cons (pe_bmS PySem.F.plainAttrs_str PySem.F.slot_str_index PySem.F.type_str_index (mt_indexX rfl takes_none5) (pe_glob (v := .str "ab") (by rfl) T.c_SIDES ⟨_, rfl⟩) (pa_cons (pe_slice sl_str (pv 0) (po_some (pe_un un_neg pe_int)) po_none) pa_nil)) pa_nil)))))))), ?_⟩
    have hz2 : z.length ≤ sizeLine := Nat.le_of_lt (small1000 (by omega))
    have lc := cutS_length z none (some (-1))
    refine ⟨_, rfl, 1, rfl, -1, rfl, z, rfl, hz2, (by show 2 ≤ sizeLine; decide), fun t nt => ?_⟩
    have s1 := same_upd (o := .tup [.str "a", .str "b"]) nt
    refine ⟨t, _, rfl, .inr (.inl (.inl upd_same)), rfl, rfl, _, rfl, ?_⟩
    show if (!inV (.str (cutS z (some (-1)) none)) [.str "a", .str "b"]) = true then _ else _
    rw [ab_in]
    generalize upd H t (.tup [.str "a", .str "b"]) = H1 at s1
    rcases cut_end z with ⟨e0, ec⟩ | ⟨c, e0, ec⟩
    · have hn : rdP z = none := by
        unfold rdP
        rw [e0]
        rfl
      rw [ec, decide_eq_false (by decide +kernel)]
      have q' := q .non H1 s1 (by rw [hn]; exact .non)
      exact q'
    · by_cases hc : c = 97 ∨ c = 98
      · have hin : cutS z (some (-1)) none = ⟨#[97]⟩ ∨ cutS z (some (-1)) none = ⟨#[98]⟩ := by
          rw [ec]
          rcases hc with rfl | rfl
          · exact .inl rfl
          · exact .inr rfl
        rw [decide_eq_true hin]
        show if (!true) = true then _ else _
        refine iteF ?_
        refine ⟨_, rfl, 1, rfl, -1, rfl, z, rfl, hz2, _, rfl, by omega, fun v H2 s2 dp => ?_⟩
        have hr : rdP z = match rdL (cutS z none (some (-1))) with | some L => some (L, (c : Int) - 97) | none => none := by
          unfold rdP
          rw [e0]
          exact if_pos hc
        cases eL : rdL (cutS z none (some (-1))) with
        | none =>
          rw [eL] at dp hr
          have ev := dp_opt dp
          subst ev
          refine ⟨_, rfl, rfl, _, rfl, ite2 (fun _ => ?_) (fun h => absurd (decide_eq_true rfl) h)⟩
          exact q .non H2 (s1.trans s2) (by rw [hr]; exact .non)
        | some L =>
          rw [eL] at dp hr
          obtain ⟨l, rfl, hl⟩ := dL_inv dp
          refine ⟨_, rfl, rfl, _, rfl, ite2 (fun e => absurd (of_decide_eq_true e) (by intro z; cases z)) (fun _ => ?_)⟩
          refine ⟨_, rfl, rfl, _, rfl, 1, rfl, -1, rfl, z, rfl, hz2, _, _, rfl, rfl, fun k hk => ?_, fun hk => ?_⟩
          · refine ⟨(by show 2 ≤ sizeLine; decide), fun t2 nt2 => ?_⟩
            have s3 := same_upd (o := .tup [.ref l, .int (k : Nat)]) nt2
            refine q (.ref t2) _ ((s1.trans s2).trans s3) ?_
            rw [hr]
            have hk2 : (k : Int) = (c : Int) - 97 := by
              rw [ec] at hk
              rcases hc with rfl | rfl
              · have : Txt.index0 "ab" (⟨#[97]⟩ : Str) = some 0 := by decide +kernel
                rw [this] at hk
                injection hk with hk
                subst hk
                rfl
              · have : Txt.index0 "ab" (⟨#[98]⟩ : Str) = some 1 := by decide +kernel
                rw [this] at hk
                injection hk with hk
                subst hk
                rfl
            rw [← hk2]
            exact .tup (.inl (.inl upd_same)) (.cons (dpL (same_seqT s3 hl)) (.cons (.int _) .nil))
          · exfalso
            rw [ec] at hk
            rcases hc with rfl | rfl <;> revert hk <;> decide +kernel
      · have hin : ¬ (cutS z (some (-1)) none = ⟨#[97]⟩ ∨ cutS z (some (-1)) none = ⟨#[98]⟩) := by
          rw [ec]
          rintro (h | h)
          · exact hc (.inl (one_inj h))
          · exact hc (.inr (one_inj h))
        have hn : rdP z = none := by
          unfold rdP
          rw [e0]
          exact if_neg hc
        rw [decide_eq_false hin]
        have q' := q .non H1 s1 (by rw [hn]; exact .non)
        exact q'
theorem ok_format_refused (T : Tab K mg) : FnOk P w K mg base CX0 5 T.f_format_refused T.d_format_refused ["_law_one", "_law_other", "_law_third", "_law_word"] (sp_format_refused K) := by
  refine T.F_format_refused.ok sc_format_refused (fun vs H Q E h => ?_) (fun cdv A outer s H vs Q E hr h => ?_)
  · obtain ⟨x, y, z, dx, dy, dz, u, rfl, _⟩ := h
    rfl
  · obtain ⟨x, y, z, dx, dy, dz, u, rfl, hx, hy, hz, bad, q⟩ := h
    refine ⟨_, (pss_cons (ps_try_as (i := 4) (c := .ref T.C_BadForm) (Wout := fun _ _ _ _ => False) rfl rfl sc_format_refused.nd rfl rfl ⟨by rfl, by decide, Or.inl T.cg_BadForm⟩ takes0
      (fun W pn xe tk _ => (pss_one (ps_expr (pe_makeS ⟨T.ms_Format, T.g_Format_init, T.fn_Format_init, T.kc_Format⟩ (ok_Format_init T) (hr.mono (by decide)) (by rfl) T.cg_Format T.b_Format_init .nil (fun σ => passAt tk σ) (pa_cons (pv 0) (pa_cons (pv 1) (pa_cons (pv 2) pa_nil)))))))
      (fun a oe cls d pn hz hf => (pss_cons (ps_if (PW.pt (pw_or (pt_not (pt_val (pe_callB (call_isX hz hf) (by rfl) T.m_isinstance (by decide +kernel) (pa_cons (pv 4) (pa_cons (pe_glob (v := .ref T.C_BadFormat) (by rfl) T.cg_BadFormat rfl) pa_nil))))) (pw_or (pt_not (pt_val (pe_callB (call_isX hz hf) (by rfl) T.m_isinstance (by decide +kernel) (pa_cons (pv 4) (pa_cons (pe_bltn (v := .ty "ValueError") (u := .type "ValueError") (by rfl) T.m_ValueError (by decide +kernel) rfl) pa_nil))))) (pw_or1 (pt_val (pe_callB (call_isX hz hf) (by rfl) T.m_isinstance (by decide +kernel) (pa_cons (pv 4) (pa_cons (pe_glob (v := .ref T.C_NotThere) (by rfl) T.cg_NotThere rfl) pa_nil))))))))
        (pss_one (ps_ret pe_bl))
        pss_nil)
        (pss_one (ps_ret (pe_and (pe_not (pe_callB (call_isX hz hf) (by rfl) T.m_isinstance (by decide +kernel) (pa_cons (pv 4) (pa_cons (pe_glob (v := .ref T.C_BadLabel) (by rfl) T.cg_BadLabel rfl) pa_nil)))) (pe_one (pe_cmpR op_eq (pe_xf ⟨T.hg_BadFormat, T.hk_BadFormat, T.hs_BadFormat, T.hd_BadFormat⟩ T.n_BadFormat_word hz hf (pv 4)) (pv 3) (nomark _)))))))))
      (pss_one (ps_ret pe_bl))), ?_⟩
    have XC : ExcC K T.C_BadFormat := excC_of T.hg_BadFormat T.hk_BadFormat T.hs_BadFormat T.hd_BadFormat T.ha_BadFormat T.hn_BadFormat T.ht_BadFormat T.hm_BadFormat
    refine ⟨_, rfl, _, rfl, _, rfl, fun p d1 np nd ne => ?_⟩
    have s0 : Same H (upd (upd H d1 (.own p)) p (.ins T.C_Format d1 [])) := fun b o e => by
      rw [upd_ne (ne_of_none e np), upd_ne (ne_of_none e nd)]
      exact e
    refine ⟨p, d1, x, y, z, dx, dy, dz, rfl, upd_same, dp_same s0 hx, dp_same s0 hy, dp_same s0 hz, fun v ev H' dd s1 hd => ?_, fun no => by rw [no] at bad; cases bad⟩
    rw [bad] at ev
    cases ev
    have s01 := s0.trans s1
    refine ⟨true, T.e_BadFormat_BadForm, fun _ a ha => ?_, fun w => nomatch w⟩
    refine ⟨_, rfl, T.C_BadFormat, _, _, true, rfl, rfl, XC, relRef, .inr ⟨dd, _, rfl, hd⟩, T.q_BadFormat_BadFormat, true, rfl, iteF ?_⟩
    refine ⟨_, rfl, T.C_BadFormat, _, _, true, rfl, rfl, XC, relTy, .inr ⟨dd, _, rfl, hd⟩, T.q_BadFormat_ValueError, true, rfl, iteF ?_⟩
    refine ⟨_, rfl, T.C_BadFormat, _, _, false, rfl, rfl, XC, relRef, .inr ⟨dd, _, rfl, hd⟩, T.q_BadFormat_NotThere, false, rfl, iteF ?_⟩
    refine ⟨_, rfl, T.C_BadFormat, _, _, false, rfl, rfl, XC, relRef, .inr ⟨dd, _, rfl, hd⟩, T.q_BadFormat_BadLabel, _, rfl, true, rfl, iteT ?_⟩
    refine ⟨_, rfl, rfl, rfl, dd, _, .str u, rfl, hd, rfl, _, rfl, rfl, ?_⟩
    rw [decide_eq_true rfl]
    exact q _ s01
theorem ok_write_page (T : Tab K mg) : FnOk P w K mg base (L2.CX P w) 6 T.f_write_page T.d_write_page ["page"] (sp_write_page K T.C_BadLabel) := by
  refine T.F_write_page.okX sc_write_page (fun vs H Q E h => ?_) (fun cdv A outer s H vs Q E hr h => ?_)
  · obtain ⟨a, l, d, s, rfl, _⟩ := h
    rfl
  · obtain ⟨a, l, d, s, rfl, hS, hd, hs, kE, kQ⟩ := h
    refine ⟨_, (pss_cons (ps_asg (pv 0) (pg_or (pg_tup (by rfl) (pgs_cons (pg_name (i := 1) sc_write_page.nd rfl (.inl rfl)) (pgs_cons (pg_name (i := 2) sc_write_page.nd rfl (.inl rfl)) pgs_nil))) (pg_unl (by rfl) (pgs_cons (pg_name (i := 1) sc_write_page.nd rfl (.inl rfl)) (pgs_cons (pg_name (i := 2) sc_write_page.nd rfl (.inl rfl)) pgs_nil)))))
      (pss_one (ps_ret (pe_op op_add_str (pe_call (ok_write_label T) (hr.mono (by decide)) (by rfl) T.g_write_label T.F_write_label.kp T.b_write_label .nil (passes_call (takes_of rfl rfl rfl rfl) (fun _ _ _ _ h => h)) (pa_cons (pv 1) pa_nil)) (pe_ix ix_str (pe_glob (v := .str "ab") (by rfl) T.c_SIDES ⟨_, rfl⟩) (pv 2) (fun _ _ => rfl)))))), ?_⟩
    have fin : ∀ L : List Int, ∃ i c, V.int s = .int i ∧ ("ab" : Str).length ≤ sizeLine ∧ atI ("ab" : Str).cps.toList i = some c ∧ fL L ++ (⟨#[c]⟩ : Str) = fP (L, s) := fun L => by
      rcases hs with h | h
      · subst h
        exact ⟨0, 97, rfl, by decide +kernel, by decide +kernel, rfl⟩
      · subst h
        exact ⟨1, 98, rfl, by decide +kernel, by decide +kernel, rfl⟩
    have rest : ∀ L : List Int, keptD d = some L → (fL L).length + 1 ≤ 1000 := fun L ek => by
      have := fL_len (kept_okL ek)
      omega
    rcases hS with hS | hS
    · refine ⟨_, rfl, .inr ⟨a, _, rfl, hS, rfl, _, _, rfl, _, _, rfl, rfl, ?_⟩⟩
      refine ⟨_, rfl, l, d, rfl, hd, kE, fun L ek H1 s1 => ?_⟩
      obtain ⟨i, c, e1, e2, e3, e4⟩ := fin L
      refine ⟨_, rfl, _, i, c, rfl, e1, e2, e3, _, _, rfl, rfl, Nat.le_of_lt (small1000 (rest L ek)), ?_⟩
      have := kQ L ek H1 s1
      rw [← e4] at this
      exact this
    · refine ⟨_, rfl, .inl ⟨a, _, rfl, hS, rfl, _, _, rfl, _, _, rfl, rfl, ?_⟩⟩
      refine ⟨_, rfl, l, d, rfl, hd, kE, fun L ek H1 s1 => ?_⟩
      obtain ⟨i, c, e1, e2, e3, e4⟩ := fin L
      refine ⟨_, rfl, _, i, c, rfl, e1, e2, e3, _, _, rfl, rfl, Nat.le_of_lt (small1000 (rest L ek)), ?_⟩
      have := kQ L ek H1 s1
      rw [← e4] at this
      exact this
theorem ok_formats_asked (T : Tab K mg) : FnOk P w K mg base CX0 6 T.f_formats_asked T.d_formats_asked ["_law_source_here"] (sp_formats_asked K) := by
  refine T.F_formats_asked.ok sc_formats_asked (fun vs H Q E h => ?_) (fun cdv A outer s H vs Q E hr h => ?_)
  · obtain ⟨a, rfl, _⟩ := h
    rfl
  · obtain ⟨a, rfl, src, q⟩ := h
    refine ⟨_, (pss_cons (ps_set (i := 1) sc_formats_asked.nd rfl (.inl rfl) (pe_op op_add pe_int (pe_call (ok_pick T) (hr.mono (by decide)) (by rfl) T.g_pick T.F_pick.kp T.b_pick .nil pass0 (pa_cons (pv 0) (pa_cons pe_int pa_nil)))))
      (pss_cons (ps_set (i := 2) sc_formats_asked.nd rfl (.inl rfl) (pe_op op_add pe_int (pe_call (ok_pick T) (hr.mono (by decide)) (by rfl) T.g_pick T.F_pick.kp T.b_pick .nil pass0 (pa_cons (pv 0) (pa_cons pe_int pa_nil)))))
      (pss_cons (ps_set (i := 3) sc_formats_asked.nd rfl (.inl rfl) (pe_cmpR op_eq (pe_call (ok_pick T) (hr.mono (by decide)) (by rfl) T.g_pick T.F_pick.kp T.b_pick .nil pass0 (pa_cons (pv 0) (pa_cons pe_int pa_nil))) pe_int (nomark _)))
      (pss_cons (ps_set (i := 4) sc_formats_asked.nd rfl (.inl rfl) (pe_make ⟨T.ms_Format, T.g_Format_init, T.fn_Format_init, T.kc_Format⟩ (ok_Format_init T) (hr.mono (by decide)) (by rfl) T.cg_Format T.b_Format_init .nil passL (pa_cons (pv 1) (pa_cons (pv 2) (pa_cons (pv 3) pa_nil)))))
      (pss_cons (ps_if (PW.pt (pw_or (pt_not (pt_val (pe_call (ok_law_is_integer T) (hr.mono (by decide)) (by rfl) T.g_law_is_integer T.F_law_is_integer.kp T.b_law_is_integer .nil pass0 (pa_cons (pe_fld (pv 4) rfl) pa_nil)))) (pw_or (pt_not (pt_val (pe_call (ok_law_is_integer T) (hr.mono (by decide)) (by rfl) T.g_law_is_integer T.F_law_is_integer.kp T.b_law_is_integer .nil pass0 (pa_cons (pe_fld (pv 4) rfl) pa_nil)))) (pw_or1 (pt_not (pt_val (pe_callB call_isi (by rfl) T.m_isinstance (by decide +kernel) (pa_cons (pe_fld (pv 4) rfl) (pa_cons (pe_bltn (v := .ty "bool") (u := .type "bool") (by rfl) T.m_bool (by decide +kernel) rfl) pa_nil)))))))))
      (pss_one (ps_ret pe_bl))
      pss_nil)
      (pss_cons (ps_if (PW.pt (pw_or (pt_cmpR op_ne (pe_fld (pv 4) rfl) (pv 1) (nomark _)) (pw_or (pt_cmpR op_ne (pe_fld (pv 4) rfl) (pv 2) (nomark _)) (pw_or (pt_cmpR op_ne (pe_fld (pv 4) rfl) (pv 3) (nomark _)) (pw_or1 (pt_cmpR op_isnot_bl (pe_fld (pe_make ⟨T.ms_Format, T.g_Format_init, T.fn_Format_init, T.kc_Format⟩ (ok_Format_init T) (hr.mono (by decide)) (by rfl) T.cg_Format (T.b3_Format_init).choose_spec.2 (T.b3_Format_init).choose_spec.1 passL (pa_cons (pv 1) (pa_cons (pv 2) pa_nil))) rfl) pe_bl (nomark _)))))))
      (pss_one (ps_ret pe_bl))
      pss_nil)
      (pss_cons (ps_set (i := 5) sc_formats_asked.nd rfl (.inl rfl) (pe_op op_add pe_int (pe_op op_mod (pe_callTy call_int1 (by rfl) T.m_int (by decide +kernel) (pa_cons (pe_op op_add (pe_op op_add (pe_op op_sub (pv 1) pe_int) pe_int) (pe_call (ok_pick T) (hr.mono (by decide)) (by rfl) T.g_pick T.F_pick.kp T.b_pick .nil pass0 (pa_cons (pv 0) (pa_cons pe_int pa_nil)))) pa_nil)) pe_int)))
      (pss_cons (ps_set (i := 6) sc_formats_asked.nd rfl (.inl rfl) (pe_op op_add pe_int (pe_op op_mod (pe_callTy call_int1 (by rfl) T.m_int (by decide +kernel) (pa_cons (pe_op op_add (pe_op op_add (pe_op op_sub (pv 2) pe_int) pe_int) (pe_call (ok_pick T) (hr.mono (by decide)) (by rfl) T.g_pick T.F_pick.kp T.b_pick .nil pass0 (pa_cons (pv 0) (pa_cons pe_int pa_nil)))) pa_nil)) pe_int)))
      (pss_cons (ps_if (PW.pt (pw_or (pt_not (pt_cmpR (op_eqOwn (ok_Format_eq T) T.g_Format_eq T.fn_Format_eq T.b_Format_eq (hr.mono (by decide))) (pv 4) (pe_make ⟨T.ms_Format, T.g_Format_init, T.fn_Format_init, T.kc_Format⟩ (ok_Format_init T) (hr.mono (by decide)) (by rfl) T.cg_Format T.b_Format_init .nil passL (pa_cons (pv 1) (pa_cons (pv 2) (pa_cons (pv 3) pa_nil)))) (nomark _))) (pw_or (pt_cmpR (op_eqOwn (ok_Format_eq T) T.g_Format_eq T.fn_Format_eq T.b_Format_eq (hr.mono (by decide))) (pv 4) (pe_make ⟨T.ms_Format, T.g_Format_init, T.fn_Format_init, T.kc_Format⟩ (ok_Format_init T) (hr.mono (by decide)) (by rfl) T.cg_Format T.b_Format_init .nil passL (pa_cons (pv 5) (pa_cons (pv 2) (pa_cons (pv 3) pa_nil)))) (nomark _)) (pw_or1 (pt_cmpR (op_eqOwn (ok_Format_eq T) T.g_Format_eq T.fn_Format_eq T.b_Format_eq (hr.mono (by decide))) (pv 4) (pe_make ⟨T.ms_Format, T.g_Format_init, T.fn_Format_init, T.kc_Format⟩ (ok_Format_init T) (hr.mono (by decide)) (by rfl) T.cg_Format T.b_Format_init .nil passL (pa_cons (pv 1) (pa_cons (pv 6) (pa_cons (pv 3) pa_nil)))) (nomark _))))))
      (pss_one (ps_ret pe_bl))
      pss_nil)
      (pss_cons (ps_if (PW.pt (pw_or (pt_cmpR (op_eqOwn (ok_Format_eq T) T.g_Format_eq T.fn_Format_eq T.b_Format_eq (hr.mono (by decide))) (pv 4) (pe_make ⟨T.ms_Format, T.g_Format_init, T.fn_Format_init, T.kc_Format⟩ (ok_Format_init T) (hr.mono (by decide)) (by rfl) T.cg_Format T.b_Format_init .nil passL (pa_cons (pv 1) (pa_cons (pv 2) (pa_cons (pe_not (pv 3)) pa_nil)))) (nomark _)) (pw_or (pt_cmpR (op_eqOwn (ok_Format_eq T) T.g_Format_eq T.fn_Format_eq T.b_Format_eq (hr.mono (by decide))) (pv 4) (pe_tup (pa_cons (pv 1) (pa_cons (pv 2) (pa_cons (pv 3) pa_nil)))) (nomark _)) (pw_or1 (pt_cmpR (op_eqOwn (ok_Format_eq T) T.g_Format_eq T.fn_Format_eq T.b_Format_eq (hr.mono (by decide))) (pv 4) pe_non (nomark _))))))
      (pss_one (ps_ret pe_bl))
      pss_nil)
      (pss_cons (ps_if (pt_not (pt_cmpR (op_eqOwn (ok_Format_eq T) T.g_Format_eq T.fn_Format_eq T.b_Format_eq (hr.mono (by decide))) (pv 4) (pe_makeK0 ⟨T.ms_Format, T.g_Format_init, T.fn_Format_init, T.kc_Format⟩ (ok_Format_init T) (hr.mono (by decide)) (by rfl) T.cg_Format (T.kb_Format_init).choose_spec passL (pk_cons (pv 3) (pk_cons (pv 2) (pk_cons (pv 1) pk_nil)))) (nomark _)))
      (pss_one (ps_ret pe_bl))
      pss_nil)
      (pss_cons (ps_set (i := 7) sc_formats_asked.nd rfl (.inl rfl) (pe_op op_add pe_int (pe_call (ok_pick T) (hr.mono (by decide)) (by rfl) T.g_pick T.F_pick.kp T.b_pick .nil pass0 (pa_cons (pv 0) (pa_cons pe_int pa_nil)))))
      (pss_cons (ps_set (i := 8) sc_formats_asked.nd rfl (.inl rfl) pe_str)
      (C8.pss_cut (ps_if (pt_cmpR op_eq (pe_op op_mod (pe_callTy call_int1 (by rfl) T.m_int (by decide +kernel) (pa_cons (pv 7) pa_nil)) pe_int) pe_int (nomark _))
      (pss_one (ps_set (i := 1) sc_formats_asked.nd rfl (.inl rfl) (pe_call (ok_odd_size T) (hr.mono (by decide)) (by rfl) T.g_odd_size T.F_odd_size.kp T.b_odd_size .nil pass0 (pa_cons (pv 0) (pa_cons pe_int (pa_cons pe_int pa_nil))))))
      pss_nil)
      (C8.pss_cut (ps_if (pt_cmpR op_eq (pe_op op_mod (pe_callTy call_int1 (by rfl) T.m_int (by decide +kernel) (pa_cons (pe_op op_fdiv (pv 7) pe_int) pa_nil)) pe_int) pe_int (nomark _))
      (pss_cons (ps_set (i := 2) sc_formats_asked.nd rfl (.inl rfl) (pe_call (ok_odd_size T) (hr.mono (by decide)) (by rfl) T.g_odd_size T.F_odd_size.kp T.b_odd_size .nil pass0 (pa_cons (pv 0) (pa_cons pe_int (pa_cons pe_int pa_nil)))))
        (pss_one (ps_set (i := 8) sc_formats_asked.nd rfl (.inl rfl) pe_str)))
      pss_nil)
      (C8.pss_cut (ps_if (pt_cmpR op_ge (pv 7) pe_int (nomark _))
      (pss_one (ps_set (i := 3) sc_formats_asked.nd rfl (.inl rfl) (pe_call (ok_odd_near T) (hr.mono (by decide)) (by rfl) T.g_odd_near T.F_odd_near.kp T.b_odd_near .nil pass0 (pa_cons (pv 0) pa_nil))))
      pss_nil)
      (C8.pss_cut (ps_if (pt_cmpR op_eq (pe_op op_mod (pe_callTy call_int1 (by rfl) T.m_int (by decide +kernel) (pa_cons (pv 7) pa_nil)) pe_int) pe_int (nomark _))
      (pss_one (ps_set (i := 8) sc_formats_asked.nd rfl (.inl rfl) pe_str))
      pss_nil)
      (pss_one (ps_ret (pe_call (ok_format_refused T) (hr.mono (by decide)) (by rfl) T.g_format_refused T.F_format_refused.kp T.b_format_refused .nil pass0 (pa_cons (pv 1) (pa_cons (pv 2) (pa_cons (pv 3) (pa_cons (pv 8) pa_nil)))))))))))))))))))))))), ?_⟩
    refine ⟨_, rfl, _, _, rfl, src, by decide, by decide, fun w H1 s1 b1 w0 w1 => ⟨_, _, rfl, rfl, ?_⟩⟩
    refine ⟨_, rfl, _, _, rfl, s1, by decide, by decide, fun h' H2 s2 b2 h0 h1 => ⟨_, _, rfl, rfl, ?_⟩⟩
    refine ⟨_, rfl, _, _, rfl, s2, by decide, by decide, fun n0 H3 s3 b3 _ _ => ⟨rfl, ?_⟩⟩
    generalize decide (V.int n0 = V.int 1) = nb
    have hw : 20 ≤ 20 + w ∧ 20 + w ≤ 60 := by omega
    have hh : 2 ≤ 2 + h' ∧ 2 + h' ≤ 12 := by omega
    have b03 := (b1.trans b2).trans b3
    refine ⟨_, rfl, _, rfl, _, rfl, fun x dx nx ndx _ => ⟨x, dx, _, _, _, .int _, .int _, .bool _, rfl, upd_same, .int _, .int _, .bl _, badno hw hh, fun _ H4 e4 k4 => ⟨rfl, ?_⟩⟩⟩
    have m4 := mk_same nx ndx k4
    have src4 := srcS s3 m4
    have xa : x ≠ a := (s3.ne nx).symm
    have ty : ∀ {Hx : Hp} {b dy : Addr} {fs : List (Str × V)}, Hx b = some (.ins T.C_Format dy fs) → TyX K Hx (.ref b) (.ref T.C_Format) := fun e => .base (.ins e T.cl_Format T.ca_Format T.cn_Format T.ct_Format T.cm_Format)
    refine ⟨_, rfl, x, _, dx, _, _, rfl, e4, T.cl_Format, T.na_Format_width, fF_w _ _ _, _, rfl, true, rfl, iteF ?_⟩
    refine ⟨_, rfl, x, _, dx, _, _, rfl, e4, T.cl_Format, T.na_Format_height, fF_h _ _ _, _, rfl, true, rfl, iteF ?_⟩
    refine ⟨_, rfl, x, _, dx, _, _, rfl, e4, T.cl_Format, T.na_Format_near, fF_n _ _ _, _, _, _, _, _, rfl, .ty "bool", .base (.bl _), kit_ty (by decide +kernel), true, rfl, iteF ?_⟩
    refine ⟨_, rfl, x, _, dx, _, _, rfl, e4, T.cl_Format, T.na_Format_width, fF_w _ _ _, _, rfl, rfl, _, rfl, ite2 (fun e => by simp at e) (fun _ => ?_)⟩
    refine ⟨_, rfl, x, _, dx, _, _, rfl, e4, T.cl_Format, T.na_Format_height, fF_h _ _ _, _, rfl, rfl, _, rfl, ite2 (fun e => by simp at e) (fun _ => ?_)⟩
    refine ⟨_, rfl, x, _, dx, _, _, rfl, e4, T.cl_Format, T.na_Format_near, fF_n _ _ _, _, rfl, rfl, _, rfl, ite2 (fun e => by simp at e) (fun _ => ?_)⟩
    refine ⟨_, rfl, _, rfl, fun x2 dx2 nx2 ndx2 _ => ⟨x2, dx2, _, _, _, .int _, .int _, .bool _, rfl, upd_same, .int _, .int _, .bl _, badno hw hh, fun _ H5 e5 k5 => ⟨rfl, ?_⟩⟩⟩
    have m5 := mk_same nx2 ndx2 k5
    refine ⟨x2, _, dx2, _, _, rfl, e5, T.cl_Format, T.na_Format_near, fF_n _ _ _, _, _, rfl, rfl, _, rfl, ite2 (fun e => by simp at e) (fun _ => ?_)⟩
    have e45 := m5 _ _ e4
    have src5 := srcS src4 m5
    refine ⟨_, rfl, _, _, rfl, rfl, _, _, rfl, rfl, _, rfl, _, _, rfl, src5, by decide, by decide, fun p H6 s6 b6 p0 p1 => ?_⟩
    refine ⟨_, _, rfl, rfl, .inl ⟨_, rfl, _, _, rfl, rfl, (by show (0 : Int) < 41; decide), _, _, rfl, rfl, ?_⟩⟩
    have e46 := b6 _ _ xa e45
    refine ⟨_, rfl, _, _, rfl, rfl, _, _, rfl, rfl, _, rfl, _, _, rfl, s6, by decide, by decide, fun p2 H7 s7 b7 r0 r1 => ?_⟩
    refine ⟨_, _, rfl, rfl, .inl ⟨_, rfl, _, _, rfl, rfl, (by show (0 : Int) < 11; decide), _, _, rfl, rfl, ?_⟩⟩
    have e47 := b7 _ _ xa e46
    have b07 : But a H H7 := ((b03.trans (But.of (m4.trans m5))).trans b6).trans b7
    have hf : 20 ≤ 20 + (20 + w - 20 + 1 + p) % 41 ∧ 20 + (20 + w - 20 + 1 + p) % 41 ≤ 60 := by omega
    have hf2 : ¬ 20 + w = 20 + (20 + w - 20 + 1 + p) % 41 := by omega
    have hg : 2 ≤ 2 + (2 + h' - 2 + 1 + p2) % 11 ∧ 2 + (2 + h' - 2 + 1 + p2) % 11 ≤ 12 := by omega
    have hg2 : ¬ 2 + h' = 2 + (2 + h' - 2 + 1 + p2) % 11 := by omega
    refine ⟨_, rfl, _, rfl, _, rfl, _, rfl, fun y8 dy8 ny8 ndy8 _ => ⟨y8, dy8, _, _, _, .int _, .int _, .bool _, rfl, upd_same, .int _, .int _, .bl _, badno hw hh, fun _ H8 e8 k8 => ⟨rfl, ?_⟩⟩⟩
    have m8 := mk_same ny8 ndy8 k8
    have e48 := m8 _ _ e47
    refine ⟨x, dx, _, .ref T.C_Format, rfl, e48, ty e8, nf_self, x, dx, _, _, _, _, rfl, e48, .inl ⟨y8, dy8, _, _, _, rfl, e8, ⟨_, rfl⟩, _, rfl, ite2 (fun e => by simp at e) (fun _ => ?_)⟩⟩
    refine ⟨_, rfl, _, rfl, _, rfl, _, rfl, fun y9 dy9 ny9 ndy9 _ => ⟨y9, dy9, _, _, _, .int _, .int _, .bool _, rfl, upd_same, .int _, .int _, .bl _, badno hf hh, fun _ H9 e9 k9 => ⟨rfl, ?_⟩⟩⟩
    have m9 := mk_same ny9 ndy9 k9
    have e49 := m9 _ _ e48
    refine ⟨x, dx, _, .ref T.C_Format, rfl, e49, ty e9, nf_self, x, dx, _, _, _, _, rfl, e49, .inl ⟨y9, dy9, _, _, _, rfl, e9, ⟨_, rfl⟩, _, rfl, ite2 (fun e => absurd (of_decide_eq_true e).1 hf2) (fun _ => ?_)⟩⟩
    refine ⟨_, rfl, _, rfl, _, rfl, _, rfl, fun y10 dy10 ny10 ndy10 _ => ⟨y10, dy10, _, _, _, .int _, .int _, .bool _, rfl, upd_same, .int _, .int _, .bl _, badno hw hg, fun _ H10 e10 k10 => ⟨rfl, ?_⟩⟩⟩
    have m10 := mk_same ny10 ndy10 k10
    have e410 := m10 _ _ e49
    refine ⟨x, dx, _, .ref T.C_Format, rfl, e410, ty e10, nf_self, x, dx, _, _, _, _, rfl, e410, .inl ⟨y10, dy10, _, _, _, rfl, e10, ⟨_, rfl⟩, _, rfl, ite2 (fun e => absurd (of_decide_eq_true e).2.1 hg2) (fun _ => ?_)⟩⟩
    refine ⟨_, rfl, _, rfl, _, rfl, _, rfl, _, rfl, fun y11 dy11 ny11 ndy11 _ => ⟨y11, dy11, _, _, _, .int _, .int _, .bool _, rfl, upd_same, .int _, .int _, .bl _, badno hw hh, fun _ H11 e11 k11 => ⟨rfl, ?_⟩⟩⟩
    have m11 := mk_same ny11 ndy11 k11
    have e411 := m11 _ _ e410
    refine ⟨x, dx, _, .ref T.C_Format, rfl, e411, ty e11, nf_self, x, dx, _, _, _, _, rfl, e411, .inl ⟨y11, dy11, _, _, _, rfl, e11, ⟨_, rfl⟩, _, rfl, ite2 (fun e => absurd (of_decide_eq_true e).2.2 (by cases nb <;> simp)) (fun _ => ?_)⟩⟩
    refine ⟨_, rfl, _, rfl, _, rfl, _, rfl, (by show 3 ≤ sizeLine; decide), fun t nt => ?_⟩
    have m12 := same_upd (o := .tup [.int (20 + w), .int (2 + h'), .bl nb]) nt
    have e412 := m12 _ _ e411
    have tt : TyX K (upd H11 t (.tup [.int (20 + w), .int (2 + h'), .bl nb])) (.ref t) (.type "tuple") := ty_T (.inl (.inl upd_same))
    refine ⟨x, dx, _, .type "tuple", rfl, e412, tt, nf_ty T.ns_Format_tuple, x, dx, _, _, _, _, rfl, e412, .inr ⟨.type "tuple", tt, kit_not T.ic_Format T.tc_Format T.ns_Format_tuple, ⟨_, rfl⟩, false, rfl, iteF ?_⟩⟩
    refine ⟨_, rfl, x, dx, _, .type "NoneType", rfl, e412, .base .non, nf_ty T.ns_Format_NoneType, x, dx, _, _, _, _, rfl, e412, .inr ⟨.type "NoneType", .base .non, kit_not T.ic_Format T.tc_Format T.ns_Format_NoneType, ⟨_, rfl⟩, false, rfl, iteF ?_⟩⟩
    refine ⟨_, rfl, _, rfl, _, rfl, _, rfl, rfl, rfl, fun y13 dy13 ny13 ndy13 _ => ⟨y13, dy13, _, _, _, .int _, .int _, .bool _, rfl, upd_same, .int _, .int _, .bl _, badno hw hh, fun _ H13 e13 k13 => ⟨rfl, ?_⟩⟩⟩
    have m13 := mk_same ny13 ndy13 k13
    have e413 := m13 _ _ e412
    refine ⟨x, dx, _, .ref T.C_Format, rfl, e413, ty e13, nf_self, x, dx, _, _, _, _, rfl, e413, .inl ⟨y13, dy13, _, _, _, rfl, e13, ⟨_, rfl⟩, _, rfl, ite2 (fun e => by simp at e) (fun _ => ?_)⟩⟩
    have ms := ((((m8.trans m9).trans m10).trans m11).trans m12).trans m13
    have s13 := srcS s7 ms
    have b013 : But a H H13 := b07.trans (But.of ms)
    refine ⟨_, rfl, _, _, rfl, s13, by decide, by decide, fun m H14 s14 b14 m0 m1 => ⟨_, _, rfl, rfl, ?_⟩⟩
    have b014 := b013.trans b14
    refine ⟨fun σ' H' => ∃ (y1 : V) (d1 : PyData), σ' = [some (.ref a), some y1, some (.int (2 + h')), some (.bl nb), some (.ref x), some (.int (20 + (20 + w - 20 + 1 + p) % 41)), some (.int (2 + (2 + h' - 2 + 1 + p2) % 11)), some (.int (1 + m)), some (.str "near")] ∧ Src H' a ∧ But a H H' ∧ Dp K H' y1 d1 ∧ (∃ n, Nl n d1) ∧ wI 20 60 d1 = decide (¬ (1 + m) % 2 = 1), ?_, ?_⟩
    · refine ⟨_, rfl, .inl ⟨_, rfl, _, _, rfl, rfl, (by show (0 : Int) < 2; decide), rfl, _, rfl, ite2 (fun e => ?_) (fun e => ?_)⟩⟩
      · have e1 : (1 + m) % 2 = 1 := V.int.inj (of_decide_eq_true e)
        refine ⟨_, rfl, a, 20, 60, rfl, s14, by decide, by decide, by decide, by decide, by decide, fun y d H' s b hy hn nl => ?_⟩
        exact ⟨y, d, rfl, s, b014.trans b, hy, nl, by rw [hn]; exact (decide_eq_false (fun z => z e1)).symm⟩
      · have e1 : ¬ (1 + m) % 2 = 1 := fun z => e (decide_eq_true (congrArg V.int z))
        exact ⟨_, .int (20 + w), rfl, s14, b014, .int _, ⟨0, trivial⟩, by rw [decide_eq_true e1]; exact decide_eq_true hw⟩
    rintro σ' H15 ⟨y1, d1, rfl, s15, b15, hy1, nl1, w1⟩
    refine ⟨fun σ' H' => ∃ (y1 : V) (d1 : PyData) (y2 : V) (d2 : PyData), σ' = [some (.ref a), some y1, some y2, some (.bl nb), some (.ref x), some (.int (20 + (20 + w - 20 + 1 + p) % 41)), some (.int (2 + (2 + h' - 2 + 1 + p2) % 11)), some (.int (1 + m)), some (.str (if (1 + m) / 2 % 2 = 1 then ("height" : Str) else "near"))] ∧ Src H' a ∧ But a H H' ∧ (Dp K H' y1 d1 ∧ (∃ n, Nl n d1) ∧ wI 20 60 d1 = decide (¬ (1 + m) % 2 = 1)) ∧ Dp K H' y2 d2 ∧ (∃ n, Nl n d2) ∧ wI 2 12 d2 = decide (¬ (1 + m) / 2 % 2 = 1), ?_, ?_⟩
    · refine ⟨_, rfl, _, _, rfl, rfl, ⟨by decide, by decide⟩, .inl ⟨_, rfl, _, _, rfl, rfl, (by show (0 : Int) < 2; decide), rfl, _, rfl, ite2 (fun e => ?_) (fun e => ?_)⟩⟩
      · have e1 : (1 + m) / 2 % 2 = 1 := V.int.inj (of_decide_eq_true e)
        refine ⟨_, rfl, a, 2, 12, rfl, s15, by decide, by decide, by decide, by decide, by decide, fun y d H' s b hy hn nl => ?_⟩
        exact ⟨y1, d1, y, d, by rw [if_pos e1]; rfl, s, b15.trans b, ⟨dpN_src s15 b hy1 nl1, nl1, w1⟩, hy, nl, by rw [hn]; exact (decide_eq_false (fun z => z e1)).symm⟩
      · have e1 : ¬ (1 + m) / 2 % 2 = 1 := fun z => e (decide_eq_true (congrArg V.int z))
        exact ⟨y1, d1, _, .int (2 + h'), by rw [if_neg e1], s15, b15, ⟨hy1, nl1, w1⟩, .int _, ⟨0, trivial⟩, by rw [decide_eq_true e1]; exact decide_eq_true hh⟩
    rintro σ' H16 ⟨y1, d1, y2, d2, rfl, s16, b16, ⟨hy1, nl1, w1⟩, hy2, nl2, w2⟩
    refine ⟨fun σ' H' => ∃ (y1 : V) (d1 : PyData) (y2 : V) (d2 : PyData) (y3 : V) (d3 : PyData), σ' = [some (.ref a), some y1, some y2, some y3, some (.ref x), some (.int (20 + (20 + w - 20 + 1 + p) % 41)), some (.int (2 + (2 + h' - 2 + 1 + p2) % 11)), some (.int (1 + m)), some (.str (if (1 + m) / 2 % 2 = 1 then ("height" : Str) else "near"))] ∧ Src H' a ∧ But a H H' ∧ (Dp K H' y1 d1 ∧ (∃ n, Nl n d1) ∧ wI 20 60 d1 = decide (¬ (1 + m) % 2 = 1)) ∧ (Dp K H' y2 d2 ∧ (∃ n, Nl n d2) ∧ wI 2 12 d2 = decide (¬ (1 + m) / 2 % 2 = 1)) ∧ Dp K H' y3 d3 ∧ (∃ n, Nl n d3) ∧ isB d3 = decide (¬ 4 ≤ 1 + m), ?_, ?_⟩
    · refine ⟨_, rfl, _, _, rfl, rfl, _, rfl, ite2 (fun e => ?_) (fun e => ?_)⟩
      · have e1 : 4 ≤ 1 + m := of_decide_eq_true e
        refine ⟨_, rfl, a, rfl, s16, fun y d H' s b hy hn nl => ?_⟩
        exact ⟨y1, d1, y2, d2, y, d, rfl, s, b16.trans b, ⟨dpN_src s16 b hy1 nl1, nl1, w1⟩, ⟨dpN_src s16 b hy2 nl2, nl2, w2⟩, hy, nl, by rw [hn]; exact (decide_eq_false (fun z => z e1)).symm⟩
      · have e1 : ¬ 4 ≤ 1 + m := fun z => e (decide_eq_true z)
        exact ⟨y1, d1, y2, d2, _, .bool nb, rfl, s16, b16, ⟨hy1, nl1, w1⟩, ⟨hy2, nl2, w2⟩, .bl _, ⟨0, trivial⟩, by rw [decide_eq_true e1]; rfl⟩
    rintro σ' H17 ⟨y1, d1, y2, d2, y3, d3, rfl, s17, b17, ⟨hy1, nl1, w1⟩, ⟨hy2, nl2, w2⟩, hy3, nl3, w3⟩
    refine ⟨fun σ' H' => σ' = [some (.ref a), some y1, some y2, some y3, some (.ref x), some (.int (20 + (20 + w - 20 + 1 + p) % 41)), some (.int (2 + (2 + h' - 2 + 1 + p2) % 11)), some (.int (1 + m)), some (.str (if (1 + m) % 2 = 1 then ("width" : Str) else if (1 + m) / 2 % 2 = 1 then ("height" : Str) else "near"))] ∧ Src H' a ∧ But a H H' ∧ Same H17 H', ?_, ?_⟩
    · refine ⟨_, rfl, .inl ⟨_, rfl, _, _, rfl, rfl, (by show (0 : Int) < 2; decide), rfl, _, rfl, ite2 (fun e => ?_) (fun e => ?_)⟩⟩
      · have e1 : (1 + m) % 2 = 1 := V.int.inj (of_decide_eq_true e)
        exact ⟨by rw [if_pos e1]; rfl, s17, b17, Same.refl _⟩
      · have e1 : ¬ (1 + m) % 2 = 1 := fun z => e (decide_eq_true (congrArg V.int z))
        exact ⟨by rw [if_neg e1], s17, b17, Same.refl _⟩
    rintro σ' H18 ⟨rfl, s18, b18, m18⟩
    refine ⟨_, rfl, _, rfl, _, rfl, _, rfl, y1, y2, y3, d1, d2, d3, _, rfl, dp_same m18 hy1, dp_same m18 hy2, dp_same m18 hy3, ?_, fun H' s => q H' (srcS s18 s) (b18.trans (But.of s))⟩
    unfold badF
    rw [w1, w2, w3]
    by_cases c1 : (1 + m) % 2 = 1
    · rw [if_pos (decide_eq_false (fun z => z c1)), if_pos c1]
    rw [if_neg (by rw [decide_eq_true c1]; decide), if_neg c1]
    by_cases c2 : (1 + m) / 2 % 2 = 1
    · rw [if_pos (decide_eq_false (fun z => z c2)), if_pos c2]
    rw [if_neg (by rw [decide_eq_true c2]; decide), if_neg c2]
    rw [if_pos (decide_eq_false (fun z => z (by omega)))]
theorem ok_refused (T : Tab K mg) : GnOk P w K mg base CX0 7 T.f_refused T.d_refused ["_law_thing", "_law_way"] (sp_refused K) := by
  refine gn_ok T.F_refused sc_refused (fun vs H Q E h => ?_) (fun cdv A outer s H vs Q E hr hg h => ?_)
  · obtain ⟨x, d, k, rfl, _⟩ := h
    rfl
  · obtain ⟨x, d, k, rfl, hx, kd, sh, k0, k2, q⟩ := h
    refine ⟨_, (pss_cons (ps_try_as (i := 2) (c := .ref T.C_BadLabel) (Wout := fun _ _ _ _ => False) rfl rfl sc_refused.nd rfl rfl ⟨by rfl, by decide, Or.inl T.cg_BadLabel⟩ takes0
      (fun W pn xe tk _ => (pss_one (ps_if (pt_cmpR op_eq (pv 1) pe_int (nomark _))
        (pss_one (ps_expr (pe_callS (ok_write_label T) (hr.mono (by decide)) (by rfl) T.g_write_label T.F_write_label.kp T.b_write_label (fun σ => passAt tk σ) (pa_cons (pv 0) pa_nil))))
        (pss_one (ps_expr (pe_callS (ok_write_page T) (hr.mono (by decide)) (by rfl) T.g_write_page T.F_write_page.kp T.b_write_page (fun σ => passAt tk σ) (pa_cons (pe_tup (pa_cons (pv 0) (pa_cons (pe_op op_sub (pv 1) pe_int) pa_nil))) pa_nil)))))))
      (fun a oe cls d pn hz hf => (pss_cons (ps_set (i := 3) sc_refused.nd rfl (.inl rfl) (pe_and (pe_callB (call_isX hz hf) (by rfl) T.m_isinstance (by decide +kernel) (pa_cons (pv 2) (pa_cons (pe_glob (v := .ref T.C_BadForm) (by rfl) T.cg_BadForm rfl) pa_nil))) (pe_and (pe_callB (call_isX hz hf) (by rfl) T.m_isinstance (by decide +kernel) (pa_cons (pv 2) (pa_cons (pe_glob (v := .ref T.C_AfterError) (by rfl) T.cg_AfterError rfl) pa_nil))) (pe_one (pe_callB (call_isX hz hf) (by rfl) T.m_isinstance (by decide +kernel) (pa_cons (pv 2) (pa_cons (pe_bltn (v := .ty "ValueError") (u := .type "ValueError") (by rfl) T.m_ValueError (by decide +kernel) rfl) pa_nil)))))))
        (pss_one (ps_ret (pe_and (pv 3) (pe_and (pe_cmpR op_eq (pe_callB (call_reprS (by exact hg) (by exact un20 hr)) (by rfl) T.m_repr (by decide +kernel) (pa_cons (pe_xf ⟨T.hg_BadLabel, T.hk_BadLabel, T.hs_BadLabel, T.hd_BadLabel⟩ T.n_BadLabel_label hz hf (pv 2)) pa_nil)) (pe_callB (call_reprS (by exact hg) (by exact un20 hr)) (by rfl) T.m_repr (by decide +kernel) (pa_cons (pv 0) pa_nil)) (nomark _)) (pe_one (pe_not (pe_callB (call_isX hz hf) (by rfl) T.m_isinstance (by decide +kernel) (pa_cons (pv 2) (pa_cons (pe_glob (v := .ref T.C_BadFormat) (by rfl) T.cg_BadFormat rfl) pa_nil))))))))))))
      (pss_one (ps_ret pe_bl))), ?_⟩
    have XC : ExcC K T.C_BadLabel := excC_of T.hg_BadLabel T.hk_BadLabel T.hs_BadLabel T.hd_BadLabel T.ha_BadLabel T.hn_BadLabel T.ht_BadLabel T.hm_BadLabel
    obtain ⟨sh1, sh2, sh3, sh4⟩ := sh
    refine ⟨_, rfl, rfl, _, rfl, ite2 (fun e => ?_) (fun e => ?_)⟩
    · refine ⟨_, rfl, x, d, rfl, hx, fun _ H' dd s1 hd => ?_, fun L ek => by rw [kd] at ek; cases ek⟩
      have hz1 := dp_same s1 hx
      refine ⟨true, T.e_BadLabel_BadLabel, fun _ a ha => ?_, fun w => nomatch w⟩
      refine ⟨_, rfl, T.C_BadLabel, _, _, true, rfl, rfl, XC, relRef, .inr ⟨dd, _, rfl, hd⟩, T.q_BadLabel_BadForm, true, rfl, iteT ?_⟩
      refine ⟨_, rfl, T.C_BadLabel, _, _, true, rfl, rfl, XC, relRef, .inr ⟨dd, _, rfl, hd⟩, T.q_BadLabel_AfterError, true, rfl, iteT ?_⟩
      refine ⟨_, rfl, T.C_BadLabel, _, _, true, rfl, rfl, XC, relTy, .inr ⟨dd, _, rfl, hd⟩, T.q_BadLabel_ValueError, ?_⟩
      refine ⟨_, rfl, true, rfl, iteT ?_⟩
      refine ⟨_, rfl, rfl, rfl, dd, _, x, rfl, hd, rfl, ?_⟩
      refine ⟨_, d, rfl, hz1, sh1, sh2, sh3, sh4, ?_⟩
      refine ⟨_, rfl, _, d, rfl, hz1, sh1, sh2, sh3, sh4, ?_⟩
      refine ⟨rfl, true, by rw [decide_eq_true rfl], iteT ?_⟩
      refine ⟨_, rfl, T.C_BadLabel, _, _, false, rfl, rfl, XC, relRef, .inr ⟨dd, _, rfl, hd⟩, T.q_BadLabel_BadFormat, _, rfl, ?_⟩
      exact q _ s1
    · have k1 : k - 1 = 0 ∨ k - 1 = 1 := by
        have : k ≠ 0 := fun z => e (decide_eq_true (congrArg V.int z))
        omega
      refine ⟨_, rfl, _, rfl, _, _, rfl, rfl, (by show 2 ≤ sizeLine; decide), fun t nt => ?_⟩
      have st := same_upd (o := .tup [x, .int (k - 1)]) nt
      refine ⟨t, x, d, k - 1, rfl, .inr (.inl (.inl upd_same)), dp_same st hx, k1, fun _ H' dd s0 hd => ?_, fun L ek => by rw [kd] at ek; cases ek⟩
      have s1 := st.trans s0
      have hz1 := dp_same s1 hx
      refine ⟨true, T.e_BadLabel_BadLabel, fun _ a ha => ?_, fun w => nomatch w⟩
      refine ⟨_, rfl, T.C_BadLabel, _, _, true, rfl, rfl, XC, relRef, .inr ⟨dd, _, rfl, hd⟩, T.q_BadLabel_BadForm, true, rfl, iteT ?_⟩
      refine ⟨_, rfl, T.C_BadLabel, _, _, true, rfl, rfl, XC, relRef, .inr ⟨dd, _, rfl, hd⟩, T.q_BadLabel_AfterError, true, rfl, iteT ?_⟩
      refine ⟨_, rfl, T.C_BadLabel, _, _, true, rfl, rfl, XC, relTy, .inr ⟨dd, _, rfl, hd⟩, T.q_BadLabel_ValueError, ?_⟩
      refine ⟨_, rfl, true, rfl, iteT ?_⟩
      refine ⟨_, rfl, rfl, rfl, dd, _, x, rfl, hd, rfl, ?_⟩
      refine ⟨_, d, rfl, hz1, sh1, sh2, sh3, sh4, ?_⟩
      refine ⟨_, rfl, _, d, rfl, hz1, sh1, sh2, sh3, sh4, ?_⟩
      refine ⟨rfl, true, by rw [decide_eq_true rfl], iteT ?_⟩
      refine ⟨_, rfl, T.C_BadLabel, _, _, false, rfl, rfl, XC, relRef, .inr ⟨dd, _, rfl, hd⟩, T.q_BadLabel_BadFormat, _, rfl, ?_⟩
      exact q _ s1
theorem ok_written (T : Tab K mg) : FnOk P w K mg base CX0 7 T.f_written T.d_written ["_law_label_here", "_law_side"] (sp_written K) := by
  refine T.F_written.ok sc_written (fun vs H Q E h => ?_) (fun cdv A outer s H vs Q E hr h => ?_)
  · obtain ⟨x, L, s, rfl, _⟩ := h
    rfl
  · obtain ⟨x, L, s, rfl, hx, hL, hs, q⟩ := h
    refine ⟨_, (pss_cons (ps_set (i := 2) sc_written.nd rfl (.inl rfl) (pe_call (ok_write_label T) (hr.mono (by decide)) (by rfl) T.g_write_label T.F_write_label.kp T.b_write_label .nil passL (pa_cons (pv 0) pa_nil)))
      (pss_cons (ps_set (i := 3) sc_written.nd rfl (.inl rfl) (pe_call (ok_write_label T) (hr.mono (by decide)) (by rfl) T.g_write_label T.F_write_label.kp T.b_write_label .nil passL (pa_cons (pe_callTy call_list_of (by rfl) T.m_list (by decide +kernel) (pa_cons (pv 0) pa_nil)) pa_nil)))
      (pss_cons (ps_if (PW.pt (pw_or (pt_not (pt_val (pe_callB call_isi (by rfl) T.m_isinstance (by decide +kernel) (pa_cons (pv 2) (pa_cons (pe_bltn (v := .ty "str") (u := .type "str") (by rfl) T.m_str (by decide +kernel) rfl) pa_nil))))) (pw_or (pt_cmpR op_ne (pv 2) (pe_call (ok_label_word T) (hr.mono (by decide)) (by rfl) T.g_label_word T.F_label_word.kp T.b_label_word .nil pass0 (pa_cons (pv 0) pa_nil)) (nomark _)) (pw_or1 (pt_cmpR op_ne (pv 3) (pv 2) (nomark _))))))
      (pss_one (ps_ret pe_bl))
      pss_nil)
      (pss_cons (ps_set (i := 2) sc_written.nd rfl (.inl rfl) (pe_call (ok_write_page T) (hr.mono (by decide)) (by rfl) T.g_write_page T.F_write_page.kp T.b_write_page .nil passL (pa_cons (pe_tup (pa_cons (pv 0) (pa_cons (pv 1) pa_nil))) pa_nil)))
      (pss_cons (ps_set (i := 3) sc_written.nd rfl (.inl rfl) (pe_call (ok_write_page T) (hr.mono (by decide)) (by rfl) T.g_write_page T.F_write_page.kp T.b_write_page .nil passL (pa_cons (pe_lst (pa_cons (pe_callTy call_list_of (by rfl) T.m_list (by decide +kernel) (pa_cons (pv 0) pa_nil)) (pa_cons (pv 1) pa_nil))) pa_nil)))
      (pss_cons (ps_if (PW.pt (pw_or (pt_not (pt_val (pe_callB call_isi (by rfl) T.m_isinstance (by decide +kernel) (pa_cons (pv 2) (pa_cons (pe_bltn (v := .ty "str") (u := .type "str") (by rfl) T.m_str (by decide +kernel) rfl) pa_nil))))) (pw_or (pt_cmpR op_ne (pv 2) (pe_call (ok_page_word T) (hr.mono (by decide)) (by rfl) T.g_page_word T.F_page_word.kp T.b_page_word .nil pass0 (pa_cons (pe_tup (pa_cons (pv 0) (pa_cons (pv 1) pa_nil))) pa_nil)) (nomark _)) (pw_or1 (pt_cmpR op_ne (pv 3) (pv 2) (nomark _))))))
      (pss_one (ps_ret pe_bl))
      pss_nil)
      (pss_one (ps_ret (pe_and (pe_call (ok_is_label T) (hr.mono (by decide)) (by rfl) T.g_is_label T.F_is_label.kp T.b_is_label .nil pass0 (pa_cons (pe_call (ok_read_label T) (hr.mono (by decide)) (by rfl) T.g_read_label T.F_read_label.kp T.b_read_label .nil pass0 (pa_cons (pe_call (ok_label_word T) (hr.mono (by decide)) (by rfl) T.g_label_word T.F_label_word.kp T.b_label_word .nil pass0 (pa_cons (pv 0) pa_nil)) pa_nil)) (pa_cons (pv 0) pa_nil))) (pe_one (pe_call (ok_is_page T) (hr.mono (by decide)) (by rfl) T.g_is_page T.F_is_page.kp T.b_is_page .nil pass0 (pa_cons (pe_call (ok_read_page T) (hr.mono (by decide)) (by rfl) T.g_read_page T.F_read_page.kp T.b_read_page .nil pass0 (pa_cons (pv 2) pa_nil)) (pa_cons (pe_tup (pa_cons (pv 0) (pa_cons (pv 1) pa_nil))) pa_nil))))))))))))), ?_⟩
    obtain ⟨l, rfl, hl⟩ := dL_inv hx
    have hP : okP (L, s) := ⟨hL, hs⟩
    have k1 : keptD (dL L) = some L := kept_label_of hL false
    have k2 : keptD (dLl L) = some L := kept_label_of hL true
    have lsz := fL_len hL
    have lpz := fP_len hP
    have str : ∀ {Hx : Hp} (z : Str), TyX K Hx (.str z) (.type "str") := fun z => .base (.str z)
    refine ⟨_, rfl, _, _, rfl, hx, kno k1, kyes k1 fun H1 s1 => ?_⟩
    have hl1 := same_seqT s1 hl
    refine ⟨_, rfl, l, _, rfl, .inr hl1, fun D nD => ?_⟩
    have s2 := s1.trans (same_upd (o := .lst (L.map V.int)) nD)
    have dD : Dp K (upd H1 D (.lst (L.map V.int))) (.ref D) (dLl L) := .lst (.inl (.inl upd_same)) (dp_ints L)
    generalize upd H1 D (.lst (L.map V.int)) = H2 at s2 dD
    refine ⟨_, _, rfl, dD, kno k2, kyes k2 fun H3 s3 => ?_⟩
    have sh3 := s2.trans s3
    refine ⟨_, rfl, _, _, _, _, _, rfl, .ty "str", str _, kit_ty (by decide +kernel), true, rfl, iteF ?_⟩
    refine ⟨_, rfl, _, rfl, l, L, rfl, same_seqT sh3 hl, hL, fun H4 s4 => ⟨rfl, _, rfl, ite2 (fun e => by simp at e) (fun _ => ?_)⟩⟩
    refine ⟨_, rfl, _, rfl, rfl, _, rfl, ite2 (fun e => by simp at e) (fun _ => ?_)⟩
    have sh4 := sh3.trans s4
    refine ⟨_, rfl, _, rfl, (by show 2 ≤ sizeLine; decide), fun t nt => ?_⟩
    have s5 := sh4.trans (same_upd (o := .tup [.ref l, .int s]) nt)
    have e5 : upd H4 t (.tup [.ref l, .int s]) t = some (.tup [.ref l, .int s]) := upd_same
    generalize upd H4 t (.tup [.ref l, .int s]) = H5 at s5 e5
    refine ⟨_, _, _, s, rfl, .inr (.inl (.inl e5)), dp_same s5 hx, hs, kno k1, kyes k1 fun H6 s6 => ?_⟩
    have sh6 := s5.trans s6
    refine ⟨_, rfl, l, _, rfl, .inr (same_seqT sh6 hl), fun D2 nD2 => ?_⟩
    have s7 := sh6.trans (same_upd (o := .lst (L.map V.int)) nD2)
    have dD2 : Dp K (upd H6 D2 (.lst (L.map V.int))) (.ref D2) (dLl L) := .lst (.inl (.inl upd_same)) (dp_ints L)
    generalize upd H6 D2 (.lst (L.map V.int)) = H7 at s7 dD2
    refine ⟨_, rfl, (by show 2 ≤ sizeLine; decide), fun t2 nt2 => ?_⟩
    have s78 := same_upd (o := .lst [.ref D2, .int s]) nt2
    have s8 := s7.trans s78
    have e8 : upd H7 t2 (.lst [.ref D2, .int s]) t2 = some (.lst [.ref D2, .int s]) := upd_same
    have dD8 := dp_same s78 dD2
    generalize upd H7 t2 (.lst [.ref D2, .int s]) = H8 at s8 e8 dD8
    refine ⟨_, _, _, s, rfl, .inl (.inl (.inl e8)), dD8, hs, kno k2, kyes k2 fun H9 s9 => ?_⟩
    have sh9 := s8.trans s9
    refine ⟨_, rfl, _, _, _, _, _, rfl, .ty "str", str _, kit_ty (by decide +kernel), true, rfl, iteF ?_⟩
    refine ⟨_, rfl, _, rfl, _, rfl, (by show 2 ≤ sizeLine; decide), fun t3 nt3 => ?_⟩
    have s10 := sh9.trans (same_upd (o := .tup [.ref l, .int s]) nt3)
    have e10 : upd H9 t3 (.tup [.ref l, .int s]) t3 = some (.tup [.ref l, .int s]) := upd_same
    generalize upd H9 t3 (.tup [.ref l, .int s]) = H10 at s10 e10
    refine ⟨_, (L, s), rfl, .tup (.inl (.inl e10)) (.cons (dp_same s10 hx) (.cons (.int _) .nil)), hP, fun H11 s11 => ⟨rfl, _, rfl, ite2 (fun e => by simp at e) (fun _ => ?_)⟩⟩
    refine ⟨_, rfl, _, rfl, rfl, _, rfl, ite2 (fun e => by simp at e) (fun _ => ?_)⟩
    have sh11 := s10.trans s11
    refine ⟨_, rfl, l, L, rfl, same_seqT sh11 hl, hL, fun H12 s12 => ?_⟩
    refine ⟨fL L, rfl, (by omega), fun v H13 s13 dv => ?_⟩
    rw [rdL_fL hL] at dv
    have sh13 := (sh11.trans s12).trans s13
    refine ⟨_, rfl, v, .ref l, some L, rfl, dv, dp_same sh13 hx, true, rfl, iteT ?_⟩
    refine ⟨_, rfl, fP (L, s), rfl, (by omega), fun u H14 s14 du => ?_⟩
    rw [rdP_fP hP] at du
    have sh14 := sh13.trans s14
    refine ⟨_, rfl, _, rfl, (by show 2 ≤ sizeLine; decide), fun t4 nt4 => ?_⟩
    have s15 := same_upd (o := .tup [.ref l, .int s]) nt4
    exact ⟨u, .ref t4, some (L, s), rfl, dp_same s15 du, .tup (.inl (.inl upd_same)) (.cons (dp_same s15 (dp_same sh14 hx)) (.cons (.int _) .nil)), q _ (sh14.trans s15)⟩
theorem ok_law (T : Tab K mg) : GnOk P w K mg base CX0 8 T.f_law T.d_law ["_law_script"] (sp_law K) := by
  refine gn_ok T.F_law sc_law (fun vs H Q E h => ?_) (fun cdv A outer s H vs Q E hr hg h => ?_)
  · obtain ⟨a, ns, rfl, _⟩ := h
    rfl
  · obtain ⟨a, ns, rfl, hS, hlen, q⟩ := h
    refine ⟨_, (pss_cons (ps_set (i := 1) sc_law.nd rfl (.inl rfl) (pe_lst pa_nil))
      (pss_cons (ps_for PassesOwn.never rfl (pi_range1 (by rfl) T.m_range (pa_cons (pe_callB (call_max2 rfl) (by rfl) T.m_max (by decide +kernel) (pa_cons pe_int (pa_cons (pe_callB (call_min2 rfl) (by rfl) T.m_min (by decide +kernel) (pa_cons pe_int (pa_cons (pe_callB call_len_seq (by rfl) T.m_len PySem.boot_len (pa_cons (pv 0) pa_nil)) pa_nil))) pa_nil))) pa_nil)) (pg_name (i := 2) sc_law.nd rfl (.inl rfl))
      (pss_cons (ps_set (i := 3) sc_law.nd rfl (.inl rfl) (pe_call (ok_source T) (hr.mono (by decide)) (by rfl) T.g_source T.F_source.kp T.b_source .nil pass0 (pa_cons (pv 0) (pa_cons (pv 2) pa_nil))))
        (pss_cons (ps_set (i := 4) sc_law.nd rfl (.inl rfl) (pe_call (ok_label T) (hr.mono (by decide)) (by rfl) T.g_label T.F_label.kp T.b_label .nil pass0 (pa_cons (pv 3) pa_nil)))
        (pss_cons (ps_set (i := 5) sc_law.nd rfl (.inl rfl) (pe_call (ok_pick T) (hr.mono (by decide)) (by rfl) T.g_pick T.F_pick.kp T.b_pick .nil pass0 (pa_cons (pv 3) (pa_cons pe_int pa_nil))))
        (pss_cons (ps_if (PW.pt (pw_or (pt_not (pt_val (pe_call (ok_written T) (hr.mono (by decide)) (by rfl) T.g_written T.F_written.kp T.b_written .nil pass0 (pa_cons (pv 4) (pa_cons (pv 5) pa_nil))))) (pw_or1 (pt_not (pt_val (pe_call (ok_formats_asked T) (hr.mono (by decide)) (by rfl) T.g_formats_asked T.F_formats_asked.kp T.b_formats_asked .nil pass0 (pa_cons (pv 3) pa_nil)))))))
        (pss_one (ps_ret pe_bl))
        pss_nil)
        (pss_cons (ps_for PassesOwn.never rfl (pi_list (pe_call (ok_words T) (hr.mono (by decide)) (by rfl) T.g_words T.F_words.kp T.b_words .nil pass0 (pa_cons (pv 3) (pa_cons (pv 4) (pa_cons (pv 5) pa_nil))))) (pg_name (i := 6) sc_law.nd rfl (.inl rfl))
        (pss_cons (ps_if (pt_not (pt_val (pe_call (ok_is_label T) (hr.mono (by decide)) (by rfl) T.g_is_label T.F_is_label.kp T.b_is_label .nil pass0 (pa_cons (pe_call (ok_read_label T) (hr.mono (by decide)) (by rfl) T.g_read_label T.F_read_label.kp T.b_read_label .nil pass0 (pa_cons (pv 6) pa_nil)) (pa_cons (pe_call (ok_law_read_label T) (hr.mono (by decide)) (by rfl) T.g_law_read_label T.F_law_read_label.kp T.b_law_read_label .nil pass0 (pa_cons (pv 6) pa_nil)) pa_nil)))))
          (pss_one (ps_ret pe_bl))
          pss_nil)
          (pss_one (ps_if (pt_not (pt_val (pe_call (ok_is_page T) (hr.mono (by decide)) (by rfl) T.g_is_page T.F_is_page.kp T.b_is_page .nil pass0 (pa_cons (pe_call (ok_read_page T) (hr.mono (by decide)) (by rfl) T.g_read_page T.F_read_page.kp T.b_read_page .nil pass0 (pa_cons (pv 6) pa_nil)) (pa_cons (pe_call (ok_law_read_page T) (hr.mono (by decide)) (by rfl) T.g_law_read_page T.F_law_read_page.kp T.b_law_read_page .nil pass0 (pa_cons (pv 6) pa_nil)) pa_nil)))))
          (pss_one (ps_ret pe_bl))
          pss_nil))))
        (pss_cons (ps_set (i := 7) sc_law.nd rfl (.inl rfl) (pe_call (ok_odd_label T) (hr.mono (by decide)) (by rfl) T.g_odd_label T.F_odd_label.kp T.b_odd_label .nil pass0 (pa_cons (pv 3) (pa_cons (pv 4) pa_nil))))
        (pss_cons (ps_for PassesOwn.never rfl (pi_list (pe_lst (pa_cons pe_int (pa_cons pe_int (pa_cons pe_int pa_nil))))) (pg_name (i := 8) sc_law.nd rfl (.inl rfl))
        (pss_one (ps_if (pt_not (pt_val (pe_callG (ok_refused T) (hr.mono (by decide)) hg (by rfl) T.g_refused T.F_refused.kp T.b_refused pass0 (pa_cons (pv 7) (pa_cons (pv 8) pa_nil)))))
          (pss_one (ps_ret pe_bl))
          pss_nil)))
        (pss_one (ps_expr (pe_bm PySem.F.plainAttrs_list PySem.F.slot_list_append PySem.F.type_list_append mt_append (pv 1) (pa_cons (pe_tup (pa_cons (pv 4) (pa_cons (pv 5) pa_nil))) pa_nil))))))))))))
      (pss_cons (ps_for PassesOwn.never rfl (pi_list (pv 1)) (pg_name (i := 9) sc_law.nd rfl (.inl rfl))
      (pss_one (ps_if (pt_not (pt_val (pe_call (ok_written T) (hr.mono (by decide)) (by rfl) T.g_written T.F_written.kp T.b_written .nil pass0 (pa_cons (pe_ix ix_tup (pv 9) pe_int (fun _ _ => rfl)) (pa_cons (pe_ix ix_tup (pv 9) pe_int (fun _ _ => rfl)) pa_nil)))))
        (pss_one (ps_ret pe_bl))
        pss_nil)))
      (pss_one (ps_ret pe_bl))))), ?_⟩
    refine ⟨Nat.zero_le _, fun D nD => ?_⟩
    have s0 : Same H (upd H D (.lst [])) := same_upd nD
    have hn : ((ns.map V.int).length : Int) ≤ 63 := by rw [List.length_map]; omega
    refine ⟨_, rfl, _, _, rfl, .inl (s0.seq hS), _, _, rfl, _, _, rfl, _, rfl, ?_, ?_, for_range (lo := 0) (fun j σ' H' => ∃ (rs : List Addr) (y2 y3 y4 y5 y6 y7 y8 : Option V), σ' = [some (.ref a), some (.ref D), y2, y3, y4, y5, y6, y7, y8, none] ∧ Same H H' ∧ H' D = some (.lst (rs.map V.ref)) ∧ rs.length = j ∧ ∀ r ∈ rs, r ≠ D ∧ Row K H' r) ⟨[], none, none, none, none, none, none, none, rfl, s0, upd_same, rfl, (fun _ h => nomatch h)⟩ ?_ ?_⟩
    · split <;> split <;> omega
    · split <;> split <;> omega
    · rintro j σ' Hx hj ⟨rs, y2, y3, y4, y5, y6, y7, y8, rfl, smh, eD, lw, good⟩
      have hj2 : j < 64 := by
        split at hj <;> split at hj <;> omega
      refine ⟨_, rfl, _, rfl, a, ns, j, ?_, smh.seq hS, fun p0 H1 sm1 n0 src1 => ?_⟩
      · show [V.ref a, V.int (0 + (j : Int))] = [V.ref a, V.int (j : Int)]
        rw [Int.zero_add]
      have nDp : D ≠ p0 := ne_of_none eD n0
      refine ⟨_, rfl, p0, rfl, src1, fun v L H2 s2 b2 hv okl => ?_⟩
      obtain ⟨l, rfl, hl⟩ := dL_inv hv
      refine ⟨_, rfl, _, _, rfl, s2, by decide, by decide, fun sd H3 s3 b3 d0 d1 => ?_⟩
      have hs : sd = 0 ∨ sd = 1 := by omega
      have hl3 := sqT_src s2 b3 hl
      refine ⟨_, rfl, _, rfl, .ref l, L, sd, rfl, dpL hl3, okl, hs, fun H4 s4 => ⟨true, rfl, iteF ?_⟩⟩
      have src4 := srcS s3 s4
      refine ⟨_, rfl, p0, rfl, src4, fun H5 s5 b5 => ⟨true, rfl, iteF ?_⟩⟩
      have hl5 := sqT_src src4 b5 (same_seqT s4 hl3)
      refine ⟨_, rfl, _, rfl, _, rfl, p0, .ref l, L, sd, rfl, s5, dpL hl5, okl, hs, fun W zs H6 s6 b6 nW eW lz => ?_⟩
      have hl6 := sqT_src s5 b6 hl5
      have b16 := (((b2.trans b3).trans (But.of s4)).trans b5).trans b6
      refine ⟨W, rfl, ⟨_, .inl (.inl eW)⟩, for_list (xs := zs.map V.str) (fun i σ' H' => ∃ z6 : Option V, σ' = [some (.ref a), some (.ref D), some (.int (0 + (j : Int))), some (.ref p0), some (.ref l), some (.int sd), z6, y7, y8, none] ∧ Same H6 H') ⟨y6, rfl, Same.refl _⟩ (fun i σ' H' _ ⟨_, _, s⟩ => .inl (.inl (s _ _ eW))) ?_ ?_⟩
      · rintro i v σ' Ha hv2 ⟨z6, rfl, sa⟩
        obtain ⟨z, rfl, hz⟩ : ∃ z, v = V.str z ∧ z ∈ zs := by
          rw [List.getElem?_map] at hv2
          cases e : zs[i]? with
          | none => rw [e] at hv2; cases hv2
          | some z => rw [e] at hv2; exact ⟨z, (Option.some.inj hv2).symm, List.mem_of_getElem? e⟩
        have hz5 : z.length ≤ 500 := by
          have := lz z hz
          omega
        refine ⟨_, rfl, z, rfl, hz5, fun v1 Hb sb dv1 => ⟨_, rfl, z, rfl, hz5, fun v2 Hc sc dv2 => ⟨v1, v2, _, rfl, dp_same sc dv1, dv2, true, rfl, iteF ?_⟩⟩⟩
        refine ⟨_, rfl, z, rfl, hz5, fun v3 Hd sd' dv3 => ⟨_, rfl, z, rfl, hz5, fun v4 He se dv4 => ⟨v3, v4, _, rfl, dp_same se dv3, dv4, true, rfl, iteF ?_⟩⟩⟩
        exact ⟨_, rfl, (((sa.trans sb).trans sc).trans sd').trans se⟩
      rintro σ' H7 ⟨z6, rfl, s7⟩
      have src7 := srcS s6 s7
      have hl7 := same_seqT s7 hl6
      refine ⟨_, rfl, _, rfl, p0, .ref l, L, rfl, src7, dpL hl7, okl, fun od d H8 s8 b8 hod kd sh nl => ?_⟩
      have hl8 := sqT_src src7 b8 hl7
      have b18 := (b16.trans (But.of s7)).trans b8
      have x8 : Same Hx H8 := b18.same n0 sm1
      refine ⟨(by show 3 ≤ sizeLine; decide), fun Z nZ => ?_⟩
      have s9 := same_upd (o := .lst [V.int 0, .int 1, .int 2]) nZ
      have e9 : upd H8 Z (.lst [V.int 0, .int 1, .int 2]) Z = some (.lst [V.int 0, .int 1, .int 2]) := upd_same
      generalize upd H8 Z (.lst [V.int 0, .int 1, .int 2]) = H9 at s9 e9
      refine ⟨Z, rfl, ⟨_, .inl (.inl e9)⟩, for_list (xs := [V.int 0, .int 1, .int 2]) (fun i σ' H' => ∃ z8 : Option V, σ' = [some (.ref a), some (.ref D), some (.int (0 + (j : Int))), some (.ref p0), some (.ref l), some (.int sd), z6, some od, z8, none] ∧ Same H9 H') ⟨y8, rfl, Same.refl _⟩ (fun i σ' H' _ ⟨_, _, s⟩ => .inl (.inl (s _ _ e9))) ?_ ?_⟩
      · rintro i v σ' Ha hv2 ⟨z8, rfl, sa⟩
        obtain ⟨k, rfl, k0, k2⟩ : ∃ k : Int, v = V.int k ∧ 0 ≤ k ∧ k ≤ 2 := by
          have hm := List.mem_of_getElem? hv2
          simp only [List.mem_cons, List.not_mem_nil, or_false] at hm
          rcases hm with rfl | rfl | rfl
          · exact ⟨0, rfl, by decide, by decide⟩
          · exact ⟨1, rfl, by decide, by decide⟩
          · exact ⟨2, rfl, by decide, by decide⟩
        refine ⟨_, rfl, _, rfl, od, d, k, rfl, dp_same (s9.trans sa) hod, kd, sh, k0, k2, fun Hb sb => ⟨true, rfl, iteF ?_⟩⟩
        exact ⟨_, rfl, sa.trans sb⟩
      rintro σ' H10 ⟨z8, rfl, s10⟩
      have x10 := (x8.trans s9).trans s10
      have eD10 := x10 _ _ eD
      refine ⟨_, rfl, .inl ⟨rfl, _, .inl (.inl eD10)⟩, _, rfl, _, rfl, (by show 2 ≤ sizeLine; decide), fun e ne => ?_⟩
      have se := same_upd (o := .tup [.ref l, .int sd]) ne
      have eD11 := se _ _ eD10
      have x11 := x10.trans se
      have nDH : H D = none := nD
      refine ⟨D, _, _, rfl, rfl, eD11, ?_, rs ++ [e], _, _, _, _, _, _, _, rfl, same_put (smh.trans x11) nDH _, ?_, ?_, fun r hr => ?_⟩
      · rw [List.length_map]; exact small1000 (by omega)
      · rw [upd_same, List.map_append]; rfl
      · rw [List.length_append, lw]; rfl
      · rcases List.mem_append.mp hr with h | h
        · exact ⟨(good r h).1, ((good r h).2.same x11).put eD11 (good r h).1⟩
        · rw [List.mem_singleton.mp h]
          have neD : e ≠ D := (ne_of_none eD10 ne).symm
          exact ⟨neD, Row.put eD11 neD ⟨l, L, sd, upd_same, same_seqT ((s9.trans s10).trans se) hl8, okl, hs⟩⟩
    · rintro σ' Hx ⟨rs, y2, y3, y4, y5, y6, y7, y8, rfl, smh, eD, lw, good⟩
      refine ⟨_, rfl, D, rfl, ⟨_, .inl (.inl eD)⟩, for_list (xs := rs.map V.ref) (fun i σ' H' => ∃ y9 : Option V, σ' = [some (.ref a), some (.ref D), y2, y3, y4, y5, y6, y7, y8, y9] ∧ Same Hx H') ⟨none, rfl, Same.refl _⟩ (fun i σ' H' _ ⟨_, _, s⟩ => .inl (.inl (s _ _ eD))) ?_ ?_⟩
      · rintro i v σ' H1 hv ⟨y9, rfl, s1⟩
        obtain ⟨r, rfl, hr⟩ := get_mapR hv
        obtain ⟨l, L, s, e, hl, okl, hs⟩ := (good r hr).2.same s1
        refine ⟨_, rfl, r, _, 0, .ref l, rfl, rfl, .inl (.inl e), rfl, _, rfl, r, _, 1, .int s, rfl, rfl, .inl (.inl e), rfl, .ref l, L, s, rfl, dpL hl, okl, hs, fun H2 s2 => ⟨true, rfl, iteF ?_⟩⟩
        exact ⟨_, rfl, s1.trans s2⟩
      · rintro σ' H1 ⟨y9, rfl, s1⟩
        exact q _
end
theorem all_mk {l : PySem.W.OpenLaw} {w : World} {K : PySem.W.Frag} {h : Heap} {mg : Str → Option Value} {fa f0 f1 f2 f3 f4 f5 f6 f7 f8 f9 f10 f11 f12 f13 f14 f15 f16 f17 f18 f19 f20 f21 f22 f23 f24 f25 f26 f27 f28 f29 f30 f31 f32 f33 f34 f35 f36 f37 f38 C_AfterError C_BadForm C_NotThere C_BadLabel C_BadFormat C_Format : Addr} (X : K.In h) (G : h.Ns mainGlobals mg) (hfa : mg "law" = some (.ref fa))
    {od0 an0 od1 an1 od2 an2 od3 an3 od4 an4 od5 an5 od6 an6 od7 an7 od8 an8 od9 an9 od10 an10 od11 an11 od12 an12 od13 an13 od14 an14 od15 an15 od16 an16 od17 an17 od18 an18 od19 an19 od20 an20 od21 an21 od22 an22 od23 an23 od24 an24 od25 an25 od26 an26 od27 an27 od28 an28 od29 an29 od30 an30 od31 an31 od32 an32 od33 an33 od34 an34 od35 an35 od36 an36 od37 an37 od38 an38 : Option Addr} {sl0 sl1 sl2 sl3 sl4 sl5 sl6 sl7 sl8 sl9 sl10 sl11 sl12 sl13 sl14 sl15 sl16 sl17 sl18 sl19 sl20 sl21 sl22 sl23 sl24 sl25 sl26 sl27 sl28 sl29 sl30 sl31 sl32 sl33 sl34 sl35 sl36 sl37 sl38 : Array (Option Value)} {oc0 kV0 dc0 pm0 cd0 ct0 oc1 kV1 dc1 pm1 cd1 ct1 oc2 kV2 dc2 pm2 cd2 ct2 oc3 kV3 dc3 pm3 cd3 ct3 oc4 kV4 dc4 pm4 cd4 ct4 oc5 kV5 dc5 pm5 cd5 ct5 oc6 kV6 dc6 pm6 cd6 ct6 oc7 kV7 dc7 pm7 cd7 ct7 oc8 kV8 dc8 pm8 cd8 ct8 oc9 kV9 dc9 pm9 cd9 ct9 oc10 kV10 dc10 pm10 cd10 ct10 oc11 kV11 dc11 pm11 cd11 ct11 oc12 kV12 dc12 pm12 cd12 ct12 oc13 kV13 dc13 pm13 cd13 ct13 oc14 kV14 dc14 pm14 cd14 ct14 oc15 kV15 dc15 pm15 cd15 ct15 oc16 kV16 dc16 pm16 cd16 ct16 oc17 kV17 dc17 pm17 cd17 ct17 oc18 kV18 dc18 pm18 cd18 ct18 oc19 kV19 dc19 pm19 cd19 ct19 oc20 kV20 dc20 pm20 cd20 ct20 oc21 kV21 dc21 pm21 cd21 ct21 oc22 kV22 dc22 pm22 cd22 ct22 oc23 kV23 dc23 pm23 cd23 ct23 oc24 kV24 dc24 pm24 cd24 ct24 oc25 kV25 dc25 pm25 cd25 ct25 oc26 kV26 dc26 pm26 cd26 ct26 oc27 kV27 dc27 pm27 cd27 ct27 oc28 kV28 dc28 pm28 cd28 ct28 oc29 kV29 dc29 pm29 cd29 ct29 oc30 kV30 dc30 pm30 cd30 ct30 oc31 kV31 dc31 pm31 cd31 ct31 oc32 kV32 dc32 pm32 cd32 ct32 oc33 kV33 dc33 pm33 cd33 ct33 oc34 kV34 dc34 pm34 cd34 ct34 oc35 kV35 dc35 pm35 cd35 ct35 oc36 kV36 dc36 pm36 cd36 ct36 oc37 kV37 dc37 pm37 cd37 ct37 oc38 kV38 dc38 pm38 cd38 ct38 : Value}
    (a0 : PySem.W.findIn K (.ref C_BadLabel) "__init__" = some (some (.ref f0))) (l0 : K.lookup f0 = some ⟨oc0, od0, .func (PySem.W.fnOf "__init__" "BadLabel.__init__" (defArgs s_BadLabel_init) (defBody s_BadLabel_init) (defScope s_BadLabel_init) .none kV0 dc0 pm0 an0 cd0 ct0), sl0⟩) (c0 : PySem.W.codeIn K cd0 "BadLabel.__init__" = true) (k0 : PySem.W.keepIn K (.ref f0) = true)
    (a1 : PySem.W.findIn K (.ref C_BadFormat) "__init__" = some (some (.ref f1))) (l1 : K.lookup f1 = some ⟨oc1, od1, .func (PySem.W.fnOf "__init__" "BadFormat.__init__" (defArgs s_BadFormat_init) (defBody s_BadFormat_init) (defScope s_BadFormat_init) .none kV1 dc1 pm1 an1 cd1 ct1), sl1⟩) (c1 : PySem.W.codeIn K cd1 "BadFormat.__init__" = true) (k1 : PySem.W.keepIn K (.ref f1) = true)
    (a2 : PySem.W.nsIn K mainGlobals "is_integer" = some (some (.ref f2))) (l2 : K.lookup f2 = some ⟨oc2, od2, .func (PySem.W.fnOf "is_integer" "is_integer" (defArgs s_is_integer) (defBody s_is_integer) (defScope s_is_integer) .none kV2 dc2 pm2 an2 cd2 ct2), sl2⟩) (c2 : PySem.W.codeIn K cd2 "is_integer" = true) (k2 : PySem.W.keepIn K (.ref f2) = true)
    (a3 : PySem.W.nsIn K mainGlobals "is_within" = some (some (.ref f3))) (l3 : K.lookup f3 = some ⟨oc3, od3, .func (PySem.W.fnOf "is_within" "is_within" (defArgs s_is_within) (defBody s_is_within) (defScope s_is_within) .none kV3 dc3 pm3 an3 cd3 ct3), sl3⟩) (c3 : PySem.W.codeIn K cd3 "is_within" = true) (k3 : PySem.W.keepIn K (.ref f3) = true)
    (a4 : PySem.W.nsIn K mainGlobals "is_tuple" = some (some (.ref f4))) (l4 : K.lookup f4 = some ⟨oc4, od4, .func (PySem.W.fnOf "is_tuple" "is_tuple" (defArgs s_is_tuple) (defBody s_is_tuple) (defScope s_is_tuple) .none kV4 dc4 pm4 an4 cd4 ct4), sl4⟩) (c4 : PySem.W.codeIn K cd4 "is_tuple" = true) (k4 : PySem.W.keepIn K (.ref f4) = true)
    (a5 : PySem.W.nsIn K mainGlobals "is_sized" = some (some (.ref f5))) (l5 : K.lookup f5 = some ⟨oc5, od5, .func (PySem.W.fnOf "is_sized" "is_sized" (defArgs s_is_sized) (defBody s_is_sized) (defScope s_is_sized) .none kV5 dc5 pm5 an5 cd5 ct5), sl5⟩) (c5 : PySem.W.codeIn K cd5 "is_sized" = true) (k5 : PySem.W.keepIn K (.ref f5) = true)
    (a6 : PySem.W.nsIn K mainGlobals "read_integer" = some (some (.ref f6))) (l6 : K.lookup f6 = some ⟨oc6, od6, .func (PySem.W.fnOf "read_integer" "read_integer" (defArgs s_read_integer) (defBody s_read_integer) (defScope s_read_integer) .none kV6 dc6 pm6 an6 cd6 ct6), sl6⟩) (c6 : PySem.W.codeIn K cd6 "read_integer" = true) (k6 : PySem.W.keepIn K (.ref f6) = true)
    (a7 : PySem.W.nsIn K mainGlobals "kept_label" = some (some (.ref f7))) (l7 : K.lookup f7 = some ⟨oc7, od7, .func (PySem.W.fnOf "kept_label" "kept_label" (defArgs s_kept_label) (defBody s_kept_label) (defScope s_kept_label) .none kV7 dc7 pm7 an7 cd7 ct7), sl7⟩) (c7 : PySem.W.codeIn K cd7 "kept_label" = true) (k7 : PySem.W.keepIn K (.ref f7) = true)
    (a8 : PySem.W.nsIn K mainGlobals "judged_label" = some (some (.ref f8))) (l8 : K.lookup f8 = some ⟨oc8, od8, .func (PySem.W.fnOf "judged_label" "judged_label" (defArgs s_judged_label) (defBody s_judged_label) (defScope s_judged_label) .none kV8 dc8 pm8 an8 cd8 ct8), sl8⟩) (c8 : PySem.W.codeIn K cd8 "judged_label" = true) (k8 : PySem.W.keepIn K (.ref f8) = true)
    (a9 : PySem.W.nsIn K mainGlobals "write_label" = some (some (.ref f9))) (l9 : K.lookup f9 = some ⟨oc9, od9, .func (PySem.W.fnOf "write_label" "write_label" (defArgs s_write_label) (defBody s_write_label) (defScope s_write_label) .none kV9 dc9 pm9 an9 cd9 ct9), sl9⟩) (c9 : PySem.W.codeIn K cd9 "write_label" = true) (k9 : PySem.W.keepIn K (.ref f9) = true)
    (a10 : PySem.W.nsIn K mainGlobals "read_label" = some (some (.ref f10))) (l10 : K.lookup f10 = some ⟨oc10, od10, .func (PySem.W.fnOf "read_label" "read_label" (defArgs s_read_label) (defBody s_read_label) (defScope s_read_label) .none kV10 dc10 pm10 an10 cd10 ct10), sl10⟩) (c10 : PySem.W.codeIn K cd10 "read_label" = true) (k10 : PySem.W.keepIn K (.ref f10) = true)
    (a11 : PySem.W.nsIn K mainGlobals "write_page" = some (some (.ref f11))) (l11 : K.lookup f11 = some ⟨oc11, od11, .func (PySem.W.fnOf "write_page" "write_page" (defArgs s_write_page) (defBody s_write_page) (defScope s_write_page) .none kV11 dc11 pm11 an11 cd11 ct11), sl11⟩) (c11 : PySem.W.codeIn K cd11 "write_page" = true) (k11 : PySem.W.keepIn K (.ref f11) = true)
    (a12 : PySem.W.nsIn K mainGlobals "read_page" = some (some (.ref f12))) (l12 : K.lookup f12 = some ⟨oc12, od12, .func (PySem.W.fnOf "read_page" "read_page" (defArgs s_read_page) (defBody s_read_page) (defScope s_read_page) .none kV12 dc12 pm12 an12 cd12 ct12), sl12⟩) (c12 : PySem.W.codeIn K cd12 "read_page" = true) (k12 : PySem.W.keepIn K (.ref f12) = true)
    {tT13 : Addr} {tc13 : Value} {td13 : Option Addr} {tn13 : Nat} {ts13 : Array (Option Value)}    (a13 : PySem.W.findIn K (.ref C_Format) "__init__" = some (some (.ref f13))) (l13 : K.lookup f13 = some ⟨oc13, od13, .func (PySem.W.fnOf "__init__" "Format.__init__" (defArgs s_Format_init) (defBody s_Format_init) (defScope s_Format_init) (.ref tT13) kV13 dc13 pm13 an13 cd13 ct13), sl13⟩) (c13 : PySem.W.codeIn K cd13 "Format.__init__" = true) (k13 : PySem.W.keepIn K (.ref f13) = true) (lt13 : K.lookup tT13 = some ⟨tc13, td13, .seq ([Value.bool true] : List Value).toArray tn13, ts13⟩)
    (a14 : PySem.W.findIn K (.ref C_Format) "__eq__" = some (some (.ref f14))) (l14 : K.lookup f14 = some ⟨oc14, od14, .func (PySem.W.fnOf "__eq__" "Format.__eq__" (defArgs s_Format_eq) (defBody s_Format_eq) (defScope s_Format_eq) .none kV14 dc14 pm14 an14 cd14 ct14), sl14⟩) (c14 : PySem.W.codeIn K cd14 "Format.__eq__" = true) (k14 : PySem.W.keepIn K (.ref f14) = true)
    (a15 : PySem.W.nsIn K mainGlobals "_law_source" = some (some (.ref f15))) (l15 : K.lookup f15 = some ⟨oc15, od15, .func (PySem.W.fnOf "_law_source" "_law_source" (defArgs s_source) (defBody s_source) (defScope s_source) .none kV15 dc15 pm15 an15 cd15 ct15), sl15⟩) (c15 : PySem.W.codeIn K cd15 "_law_source" = true) (k15 : PySem.W.keepIn K (.ref f15) = true)
    (a16 : PySem.W.nsIn K mainGlobals "_law_pick" = some (some (.ref f16))) (l16 : K.lookup f16 = some ⟨oc16, od16, .func (PySem.W.fnOf "_law_pick" "_law_pick" (defArgs s_pick) (defBody s_pick) (defScope s_pick) .none kV16 dc16 pm16 an16 cd16 ct16), sl16⟩) (c16 : PySem.W.codeIn K cd16 "_law_pick" = true) (k16 : PySem.W.keepIn K (.ref f16) = true)
    (a17 : PySem.W.nsIn K mainGlobals "_law_is_integer" = some (some (.ref f17))) (l17 : K.lookup f17 = some ⟨oc17, od17, .func (PySem.W.fnOf "_law_is_integer" "_law_is_integer" (defArgs s_law_is_integer) (defBody s_law_is_integer) (defScope s_law_is_integer) .none kV17 dc17 pm17 an17 cd17 ct17), sl17⟩) (c17 : PySem.W.codeIn K cd17 "_law_is_integer" = true) (k17 : PySem.W.keepIn K (.ref f17) = true)
    (a18 : PySem.W.nsIn K mainGlobals "_law_label_word" = some (some (.ref f18))) (l18 : K.lookup f18 = some ⟨oc18, od18, .func (PySem.W.fnOf "_law_label_word" "_law_label_word" (defArgs s_label_word) (defBody s_label_word) (defScope s_label_word) .none kV18 dc18 pm18 an18 cd18 ct18), sl18⟩) (c18 : PySem.W.codeIn K cd18 "_law_label_word" = true) (k18 : PySem.W.keepIn K (.ref f18) = true)
    (a19 : PySem.W.nsIn K mainGlobals "_law_page_word" = some (some (.ref f19))) (l19 : K.lookup f19 = some ⟨oc19, od19, .func (PySem.W.fnOf "_law_page_word" "_law_page_word" (defArgs s_page_word) (defBody s_page_word) (defScope s_page_word) .none kV19 dc19 pm19 an19 cd19 ct19), sl19⟩) (c19 : PySem.W.codeIn K cd19 "_law_page_word" = true) (k19 : PySem.W.keepIn K (.ref f19) = true)
    (a20 : PySem.W.nsIn K mainGlobals "_law_read_label" = some (some (.ref f20))) (l20 : K.lookup f20 = some ⟨oc20, od20, .func (PySem.W.fnOf "_law_read_label" "_law_read_label" (defArgs s_law_read_label) (defBody s_law_read_label) (defScope s_law_read_label) .none kV20 dc20 pm20 an20 cd20 ct20), sl20⟩) (c20 : PySem.W.codeIn K cd20 "_law_read_label" = true) (k20 : PySem.W.keepIn K (.ref f20) = true)
    (a21 : PySem.W.nsIn K mainGlobals "_law_read_page" = some (some (.ref f21))) (l21 : K.lookup f21 = some ⟨oc21, od21, .func (PySem.W.fnOf "_law_read_page" "_law_read_page" (defArgs s_law_read_page) (defBody s_law_read_page) (defScope s_law_read_page) .none kV21 dc21 pm21 an21 cd21 ct21), sl21⟩) (c21 : PySem.W.codeIn K cd21 "_law_read_page" = true) (k21 : PySem.W.keepIn K (.ref f21) = true)
    (a22 : PySem.W.nsIn K mainGlobals "_law_signs" = some (some (.ref f22))) (l22 : K.lookup f22 = some ⟨oc22, od22, .func (PySem.W.fnOf "_law_signs" "_law_signs" (defArgs s_signs) (defBody s_signs) (defScope s_signs) .none kV22 dc22 pm22 an22 cd22 ct22), sl22⟩) (c22 : PySem.W.codeIn K cd22 "_law_signs" = true) (k22 : PySem.W.keepIn K (.ref f22) = true)
    (a23 : PySem.W.nsIn K mainGlobals "_law_figure" = some (some (.ref f23))) (l23 : K.lookup f23 = some ⟨oc23, od23, .func (PySem.W.fnOf "_law_figure" "_law_figure" (defArgs s_figure) (defBody s_figure) (defScope s_figure) .none kV23 dc23 pm23 an23 cd23 ct23), sl23⟩) (c23 : PySem.W.codeIn K cd23 "_law_figure" = true) (k23 : PySem.W.keepIn K (.ref f23) = true)
    (a24 : PySem.W.nsIn K mainGlobals "_law_label" = some (some (.ref f24))) (l24 : K.lookup f24 = some ⟨oc24, od24, .func (PySem.W.fnOf "_law_label" "_law_label" (defArgs s_label) (defBody s_label) (defScope s_label) .none kV24 dc24 pm24 an24 cd24 ct24), sl24⟩) (c24 : PySem.W.codeIn K cd24 "_law_label" = true) (k24 : PySem.W.keepIn K (.ref f24) = true)
    (a25 : PySem.W.nsIn K mainGlobals "_law_sign" = some (some (.ref f25))) (l25 : K.lookup f25 = some ⟨oc25, od25, .func (PySem.W.fnOf "_law_sign" "_law_sign" (defArgs s_sign) (defBody s_sign) (defScope s_sign) .none kV25 dc25 pm25 an25 cd25 ct25), sl25⟩) (c25 : PySem.W.codeIn K cd25 "_law_sign" = true) (k25 : PySem.W.keepIn K (.ref f25) = true)
    (a26 : PySem.W.nsIn K mainGlobals "_law_spoilt" = some (some (.ref f26))) (l26 : K.lookup f26 = some ⟨oc26, od26, .func (PySem.W.fnOf "_law_spoilt" "_law_spoilt" (defArgs s_spoilt) (defBody s_spoilt) (defScope s_spoilt) .none kV26 dc26 pm26 an26 cd26 ct26), sl26⟩) (c26 : PySem.W.codeIn K cd26 "_law_spoilt" = true) (k26 : PySem.W.keepIn K (.ref f26) = true)
    (a27 : PySem.W.nsIn K mainGlobals "_law_some_word" = some (some (.ref f27))) (l27 : K.lookup f27 = some ⟨oc27, od27, .func (PySem.W.fnOf "_law_some_word" "_law_some_word" (defArgs s_some_word) (defBody s_some_word) (defScope s_some_word) .none kV27 dc27 pm27 an27 cd27 ct27), sl27⟩) (c27 : PySem.W.codeIn K cd27 "_law_some_word" = true) (k27 : PySem.W.keepIn K (.ref f27) = true)
    (a28 : PySem.W.nsIn K mainGlobals "_law_words" = some (some (.ref f28))) (l28 : K.lookup f28 = some ⟨oc28, od28, .func (PySem.W.fnOf "_law_words" "_law_words" (defArgs s_words) (defBody s_words) (defScope s_words) .none kV28 dc28 pm28 an28 cd28 ct28), sl28⟩) (c28 : PySem.W.codeIn K cd28 "_law_words" = true) (k28 : PySem.W.keepIn K (.ref f28) = true)
    (a29 : PySem.W.nsIn K mainGlobals "_law_is_label" = some (some (.ref f29))) (l29 : K.lookup f29 = some ⟨oc29, od29, .func (PySem.W.fnOf "_law_is_label" "_law_is_label" (defArgs s_is_label) (defBody s_is_label) (defScope s_is_label) .none kV29 dc29 pm29 an29 cd29 ct29), sl29⟩) (c29 : PySem.W.codeIn K cd29 "_law_is_label" = true) (k29 : PySem.W.keepIn K (.ref f29) = true)
    (a30 : PySem.W.nsIn K mainGlobals "_law_is_page" = some (some (.ref f30))) (l30 : K.lookup f30 = some ⟨oc30, od30, .func (PySem.W.fnOf "_law_is_page" "_law_is_page" (defArgs s_is_page) (defBody s_is_page) (defScope s_is_page) .none kV30 dc30 pm30 an30 cd30 ct30), sl30⟩) (c30 : PySem.W.codeIn K cd30 "_law_is_page" = true) (k30 : PySem.W.keepIn K (.ref f30) = true)
    (a31 : PySem.W.nsIn K mainGlobals "_law_odd_label" = some (some (.ref f31))) (l31 : K.lookup f31 = some ⟨oc31, od31, .func (PySem.W.fnOf "_law_odd_label" "_law_odd_label" (defArgs s_odd_label) (defBody s_odd_label) (defScope s_odd_label) .none kV31 dc31 pm31 an31 cd31 ct31), sl31⟩) (c31 : PySem.W.codeIn K cd31 "_law_odd_label" = true) (k31 : PySem.W.keepIn K (.ref f31) = true)
    (a32 : PySem.W.nsIn K mainGlobals "_law_refused" = some (some (.ref f32))) (l32 : K.lookup f32 = some ⟨oc32, od32, .func (PySem.W.fnOf "_law_refused" "_law_refused" (defArgs s_refused) (defBody s_refused) (defScope s_refused) .none kV32 dc32 pm32 an32 cd32 ct32), sl32⟩) (c32 : PySem.W.codeIn K cd32 "_law_refused" = true) (k32 : PySem.W.keepIn K (.ref f32) = true)
    (a33 : PySem.W.nsIn K mainGlobals "_law_written" = some (some (.ref f33))) (l33 : K.lookup f33 = some ⟨oc33, od33, .func (PySem.W.fnOf "_law_written" "_law_written" (defArgs s_written) (defBody s_written) (defScope s_written) .none kV33 dc33 pm33 an33 cd33 ct33), sl33⟩) (c33 : PySem.W.codeIn K cd33 "_law_written" = true) (k33 : PySem.W.keepIn K (.ref f33) = true)
    (a34 : PySem.W.nsIn K mainGlobals "_law_odd_size" = some (some (.ref f34))) (l34 : K.lookup f34 = some ⟨oc34, od34, .func (PySem.W.fnOf "_law_odd_size" "_law_odd_size" (defArgs s_odd_size) (defBody s_odd_size) (defScope s_odd_size) .none kV34 dc34 pm34 an34 cd34 ct34), sl34⟩) (c34 : PySem.W.codeIn K cd34 "_law_odd_size" = true) (k34 : PySem.W.keepIn K (.ref f34) = true)
    (a35 : PySem.W.nsIn K mainGlobals "_law_odd_near" = some (some (.ref f35))) (l35 : K.lookup f35 = some ⟨oc35, od35, .func (PySem.W.fnOf "_law_odd_near" "_law_odd_near" (defArgs s_odd_near) (defBody s_odd_near) (defScope s_odd_near) .none kV35 dc35 pm35 an35 cd35 ct35), sl35⟩) (c35 : PySem.W.codeIn K cd35 "_law_odd_near" = true) (k35 : PySem.W.keepIn K (.ref f35) = true)
    (a36 : PySem.W.nsIn K mainGlobals "_law_format_refused" = some (some (.ref f36))) (l36 : K.lookup f36 = some ⟨oc36, od36, .func (PySem.W.fnOf "_law_format_refused" "_law_format_refused" (defArgs s_format_refused) (defBody s_format_refused) (defScope s_format_refused) .none kV36 dc36 pm36 an36 cd36 ct36), sl36⟩) (c36 : PySem.W.codeIn K cd36 "_law_format_refused" = true) (k36 : PySem.W.keepIn K (.ref f36) = true)
    (a37 : PySem.W.nsIn K mainGlobals "_law_formats_asked" = some (some (.ref f37))) (l37 : K.lookup f37 = some ⟨oc37, od37, .func (PySem.W.fnOf "_law_formats_asked" "_law_formats_asked" (defArgs s_formats_asked) (defBody s_formats_asked) (defScope s_formats_asked) .none kV37 dc37 pm37 an37 cd37 ct37), sl37⟩) (c37 : PySem.W.codeIn K cd37 "_law_formats_asked" = true) (k37 : PySem.W.keepIn K (.ref f37) = true)
    (a38 : PySem.W.nsIn K mainGlobals "law" = some (some (.ref f38))) (l38 : K.lookup f38 = some ⟨oc38, od38, .func (PySem.W.fnOf "law" "law" (defArgs s_law) (defBody s_law) (defScope s_law) .none kV38 dc38 pm38 an38 cd38 ct38), sl38⟩) (c38 : PySem.W.codeIn K cd38 "law" = true) (k38 : PySem.W.keepIn K (.ref f38) = true)
    {t_DIGITS : Tok} (v_DIGITS : PySem.W.nsIn K mainGlobals "DIGITS" = some (some (.str "0123456789" t_DIGITS)))
    {t_MOST_PARTS : Tok} (v_MOST_PARTS : PySem.W.nsIn K mainGlobals "MOST_PARTS" = some (some (.int 3 t_MOST_PARTS)))
    {t_SIDES : Tok} (v_SIDES : PySem.W.nsIn K mainGlobals "SIDES" = some (some (.str "ab" t_SIDES)))
    (z_ValueError : PySem.W.nsIn K mainGlobals "ValueError" = some none)
    (z_abs : PySem.W.nsIn K mainGlobals "abs" = some none)
    (z_all : PySem.W.nsIn K mainGlobals "all" = some none)
    (z_bool : PySem.W.nsIn K mainGlobals "bool" = some none)
    (z_int : PySem.W.nsIn K mainGlobals "int" = some none)
    (z_isinstance : PySem.W.nsIn K mainGlobals "isinstance" = some none)
    (z_len : PySem.W.nsIn K mainGlobals "len" = some none)
    (z_list : PySem.W.nsIn K mainGlobals "list" = some none)
    (z_max : PySem.W.nsIn K mainGlobals "max" = some none)
    (z_min : PySem.W.nsIn K mainGlobals "min" = some none)
    (z_range : PySem.W.nsIn K mainGlobals "range" = some none)
    (z_repr : PySem.W.nsIn K mainGlobals "repr" = some none)
    (z_str : PySem.W.nsIn K mainGlobals "str" = some none)
    (z_sum : PySem.W.nsIn K mainGlobals "sum" = some none)
    (z_tuple : PySem.W.nsIn K mainGlobals "tuple" = some none)
    (h_cg_Format : PySem.W.nsIn K mainGlobals "Format" = some (some (.ref C_Format)))
    (h_cg_AfterError : PySem.W.nsIn K mainGlobals "AfterError" = some (some (.ref C_AfterError)))
    (h_cg_BadForm : PySem.W.nsIn K mainGlobals "BadForm" = some (some (.ref C_BadForm)))
    (h_cg_NotThere : PySem.W.nsIn K mainGlobals "NotThere" = some (some (.ref C_NotThere)))
    (h_cg_BadLabel : PySem.W.nsIn K mainGlobals "BadLabel" = some (some (.ref C_BadLabel)))
    (h_cg_BadFormat : PySem.W.nsIn K mainGlobals "BadFormat" = some (some (.ref C_BadFormat)))
    (h_hg_BadLabel : PySem.W.findIn K (.ref C_BadLabel) "__getattribute__" = some (some (.builtin "BaseException.__getattribute__")))
    (h_hk_BadLabel : PySem.W.findIn K (.ref C_BadLabel) "__getattr__" = some none)
    (h_hs_BadLabel : PySem.W.subIn K (.ref C_BadLabel) (.type "BaseException") = some true)
    (h_hd_BadLabel : PySem.W.hasDictIn K C_BadLabel = true)
    (h_ha_BadLabel : PySem.W.findIn K (.ref C_BadLabel) "__class__" = some (some (.builtin "object.__class__")))
    (h_hn_BadLabel : PySem.W.specialIn K (.builtin "object.__class__") "__get__" = some (some (.builtin "getset_descriptor.__get__")))
    (h_ht_BadLabel : PySem.W.takesIn K (.builtin "object.__class__") = some true)
    (h_hm_BadLabel : PySem.W.mroIn K C_BadLabel (.type "object") = some true)
    (h_hg_BadFormat : PySem.W.findIn K (.ref C_BadFormat) "__getattribute__" = some (some (.builtin "BaseException.__getattribute__")))
    (h_hk_BadFormat : PySem.W.findIn K (.ref C_BadFormat) "__getattr__" = some none)
    (h_hs_BadFormat : PySem.W.subIn K (.ref C_BadFormat) (.type "BaseException") = some true)
    (h_hd_BadFormat : PySem.W.hasDictIn K C_BadFormat = true)
    (h_ha_BadFormat : PySem.W.findIn K (.ref C_BadFormat) "__class__" = some (some (.builtin "object.__class__")))
    (h_hn_BadFormat : PySem.W.specialIn K (.builtin "object.__class__") "__get__" = some (some (.builtin "getset_descriptor.__get__")))
    (h_ht_BadFormat : PySem.W.takesIn K (.builtin "object.__class__") = some true)
    (h_hm_BadFormat : PySem.W.mroIn K C_BadFormat (.type "object") = some true)
    (h_n_BadLabel_label : PySem.W.findIn K (.ref C_BadLabel) "label" = some none)
    (h_i_BadLabel : PySem.W.typeIn K (.ref f0) = some (.type "function"))
    (h_n_BadFormat_word : PySem.W.findIn K (.ref C_BadFormat) "word" = some none)
    (h_i_BadFormat : PySem.W.typeIn K (.ref f1) = some (.type "function"))
    (h_ms_Format : PySem.W.makesIn K C_Format = true)
    (h_kc_Format : PySem.W.keepIn K (.ref C_Format) = true)
    (h_ca_Format : PySem.W.findIn K (.ref C_Format) "__class__" = some (some (.builtin "object.__class__")))
    (h_cn_Format : PySem.W.specialIn K (.builtin "object.__class__") "__get__" = some (some (.builtin "getset_descriptor.__get__")))
    (h_ct_Format : PySem.W.takesIn K (.builtin "object.__class__") = some true)
    (h_cm_Format : PySem.W.mroIn K C_Format (.type "object") = some true)
    (h_ic_Format : PySem.W.isClsIn K C_Format = true)
    (h_tc_Format : PySem.W.typeIn K (.ref C_Format) = some (.type "type"))
    (h_na_Format_width : PySem.W.findIn K (.ref C_Format) "width" = some none)
    (h_na_Format_height : PySem.W.findIn K (.ref C_Format) "height" = some none)
    (h_na_Format_near : PySem.W.findIn K (.ref C_Format) "near" = some none)
    (h_ns_Format_tuple : PySem.W.subIn K (.type "tuple") (.ref C_Format) = some false)
    (h_ns_Format_NoneType : PySem.W.subIn K (.type "NoneType") (.ref C_Format) = some false)
    (h_fn_Format_init : PySem.W.isFn K (.ref f13) = true)
    (h_fn_Format_eq : PySem.W.isFn K (.ref f14) = true)
    (h_q_BadLabel_BadForm : PySem.W.subIn K (.ref C_BadLabel) (.ref C_BadForm) = some true)
    (h_q_BadLabel_AfterError : PySem.W.subIn K (.ref C_BadLabel) (.ref C_AfterError) = some true)
    (h_q_BadLabel_ValueError : PySem.W.subIn K (.ref C_BadLabel) (.type "ValueError") = some true)
    (h_q_BadLabel_BadFormat : PySem.W.subIn K (.ref C_BadLabel) (.ref C_BadFormat) = some false)
    (h_q_BadFormat_BadFormat : PySem.W.subIn K (.ref C_BadFormat) (.ref C_BadFormat) = some true)
    (h_q_BadFormat_ValueError : PySem.W.subIn K (.ref C_BadFormat) (.type "ValueError") = some true)
    (h_q_BadFormat_NotThere : PySem.W.subIn K (.ref C_BadFormat) (.ref C_NotThere) = some false)
    (h_q_BadFormat_BadLabel : PySem.W.subIn K (.ref C_BadFormat) (.ref C_BadLabel) = some false)
    (h_e_BadLabel_BadLabel : PySem.W.subIn K (.ref C_BadLabel) (.ref C_BadLabel) = some true)
    (h_e_BadFormat_BadForm : PySem.W.subIn K (.ref C_BadFormat) (.ref C_BadForm) = some true)
    {nm_BadLabel qn_BadLabel : Str} {N_BadLabel : Addr} {bs_BadLabel sub_BadLabel : List Value} {sn_BadLabel : List Str} {ab_BadLabel : Bool} {col_BadLabel : Option Bool} {dd_BadLabel : Option Addr} {m0_BadLabel m1_BadLabel m2_BadLabel m3_BadLabel m5_BadLabel : Option Value} {bm_BadLabel : List Value}
    (xl_BadLabel : K.lookup C_BadLabel = some (excClassObj nm_BadLabel qn_BadLabel C_BadLabel N_BadLabel bs_BadLabel bm_BadLabel true sn_BadLabel sub_BadLabel ab_BadLabel col_BadLabel dd_BadLabel m0_BadLabel m1_BadLabel m2_BadLabel m3_BadLabel m5_BadLabel "ValueError.__new__"))
    (rf_BadLabel : PySem.HandSPX.refsVE bm_BadLabel = true)
    (sa_BadLabel : PySem.W.findIn K (.ref C_BadLabel) "__setattr__" = some (some (.builtin "object.__setattr__"))) (eb_BadLabel : PySem.W.subIn K (.ref C_BadLabel) (.type "BaseException") = some true) (ty_BadLabel : PySem.W.typeIn K (.ref C_BadLabel) = some (.type "type")) (kc_BadLabel : PySem.W.keepIn K (.ref C_BadLabel) = true)
    {nm_BadFormat qn_BadFormat : Str} {N_BadFormat : Addr} {bs_BadFormat sub_BadFormat : List Value} {sn_BadFormat : List Str} {ab_BadFormat : Bool} {col_BadFormat : Option Bool} {dd_BadFormat : Option Addr} {m0_BadFormat m1_BadFormat m2_BadFormat m3_BadFormat m5_BadFormat : Option Value} {bm_BadFormat : List Value}
    (xl_BadFormat : K.lookup C_BadFormat = some (excClassObj nm_BadFormat qn_BadFormat C_BadFormat N_BadFormat bs_BadFormat bm_BadFormat true sn_BadFormat sub_BadFormat ab_BadFormat col_BadFormat dd_BadFormat m0_BadFormat m1_BadFormat m2_BadFormat m3_BadFormat m5_BadFormat "ValueError.__new__"))
    (rf_BadFormat : PySem.HandSPX.refsVE bm_BadFormat = true)
    (sa_BadFormat : PySem.W.findIn K (.ref C_BadFormat) "__setattr__" = some (some (.builtin "object.__setattr__"))) (eb_BadFormat : PySem.W.subIn K (.ref C_BadFormat) (.type "BaseException") = some true) (ty_BadFormat : PySem.W.typeIn K (.ref C_BadFormat) = some (.type "type")) (kc_BadFormat : PySem.W.keepIn K (.ref C_BadFormat) = true)
    (pg_Format : PySem.W.plainGet K C_Format Str.empty = true)
    (hd_Format : PySem.W.hasDictIn K C_Format = true)
    (po_Format : PySem.W.plainOver K C_Format = true)
    (sa_Format : PySem.W.findIn K (.ref C_Format) "__setattr__" = some (some (.builtin "object.__setattr__")))
    (ic_AfterError : PySem.W.isClsIn K C_AfterError = true)
    (tc_AfterError : PySem.W.typeIn K (.ref C_AfterError) = some (.type "type"))
    (sc_AfterError : PySem.W.subIn K (.ref C_AfterError) (.type "BaseException") = some true)
    (dc_AfterError : PySem.W.hasDictIn K C_AfterError = true)
    (ic_BadForm : PySem.W.isClsIn K C_BadForm = true)
    (tc_BadForm : PySem.W.typeIn K (.ref C_BadForm) = some (.type "type"))
    (sc_BadForm : PySem.W.subIn K (.ref C_BadForm) (.type "BaseException") = some true)
    (dc_BadForm : PySem.W.hasDictIn K C_BadForm = true)
    (ic_NotThere : PySem.W.isClsIn K C_NotThere = true)
    (tc_NotThere : PySem.W.typeIn K (.ref C_NotThere) = some (.type "type"))
    (sc_NotThere : PySem.W.subIn K (.ref C_NotThere) (.type "BaseException") = some true)
    (dc_NotThere : PySem.W.hasDictIn K C_NotThere = true)
    (ic_BadLabel : PySem.W.isClsIn K C_BadLabel = true)
    (tc_BadLabel : PySem.W.typeIn K (.ref C_BadLabel) = some (.type "type"))
    (sc_BadLabel : PySem.W.subIn K (.ref C_BadLabel) (.type "BaseException") = some true)
    (dc_BadLabel : PySem.W.hasDictIn K C_BadLabel = true)
    (ic_BadFormat : PySem.W.isClsIn K C_BadFormat = true)
    (tc_BadFormat : PySem.W.typeIn K (.ref C_BadFormat) = some (.type "type"))
    (sc_BadFormat : PySem.W.subIn K (.ref C_BadFormat) (.type "BaseException") = some true)
    (dc_BadFormat : PySem.W.hasDictIn K C_BadFormat = true)
    (ne_BadLabel_BadFormat : C_BadLabel ≠ C_BadFormat)
    (ne_BadFormat_NotThere : C_BadFormat ≠ C_NotThere)
    (ne_BadFormat_BadLabel : C_BadFormat ≠ C_BadLabel)
    : ∃ fd : FuncData, (∀ (s : Shared) (v : Value), BindsTo s fd ⟨[v], []⟩ [("_law_script", v)]) ∧ ∀ base : Heap, K.In base → base.Ns mainGlobals mg → GnOk l.prog w K mg base CX0 8 fa fd ["_law_script"] (sp_law K) := by
  have e := hfa.symm.trans (PySem.W.mg_of X G a38)
  cases e
  have F0 := fun_mk (st := s_BadLabel_init) l0 c0 k0
  have b0 := F0.binds (ps := ["self", "label"]) fun _ _ _ _ _ _ us hl => match us, hl with | [_, _], _ => rfl
  have F1 := fun_mk (st := s_BadFormat_init) l1 c1 k1
  have b1 := F1.binds (ps := ["self", "word"]) fun _ _ _ _ _ _ us hl => match us, hl with | [_, _], _ => rfl
  have F2 := fun_mk (st := s_is_integer) l2 c2 k2
  have b2 := F2.binds (ps := ["thing"]) fun _ _ _ _ _ _ us hl => match us, hl with | [_], _ => rfl
  have F3 := fun_mk (st := s_is_within) l3 c3 k3
  have b3 := F3.binds (ps := ["thing", "least", "most"]) fun _ _ _ _ _ _ us hl => match us, hl with | [_, _, _], _ => rfl
  have F4 := fun_mk (st := s_is_tuple) l4 c4 k4
  have b4 := F4.binds (ps := ["thing"]) fun _ _ _ _ _ _ us hl => match us, hl with | [_], _ => rfl
  have F5 := fun_mk (st := s_is_sized) l5 c5 k5
  have b5 := F5.binds (ps := ["thing", "least", "most"]) fun _ _ _ _ _ _ us hl => match us, hl with | [_, _, _], _ => rfl
  have F6 := fun_mk (st := s_read_integer) l6 c6 k6
  have b6 := F6.binds (ps := ["word", "least", "most"]) fun _ _ _ _ _ _ us hl => match us, hl with | [_, _, _], _ => rfl
  have F7 := fun_mk (st := s_kept_label) l7 c7 k7
  have b7 := F7.binds (ps := ["thing"]) fun _ _ _ _ _ _ us hl => match us, hl with | [_], _ => rfl
  have F8 := fun_mk (st := s_judged_label) l8 c8 k8
  have b8 := F8.binds (ps := ["thing"]) fun _ _ _ _ _ _ us hl => match us, hl with | [_], _ => rfl
  have F9 := fun_mk (st := s_write_label) l9 c9 k9
  have b9 := F9.binds (ps := ["label"]) fun _ _ _ _ _ _ us hl => match us, hl with | [_], _ => rfl
  have F10 := fun_mk (st := s_read_label) l10 c10 k10
  have b10 := F10.binds (ps := ["word"]) fun _ _ _ _ _ _ us hl => match us, hl with | [_], _ => rfl
  have F11 := fun_mk (st := s_write_page) l11 c11 k11
  have b11 := F11.binds (ps := ["page"]) fun _ _ _ _ _ _ us hl => match us, hl with | [_], _ => rfl
  have F12 := fun_mk (st := s_read_page) l12 c12 k12
  have b12 := F12.binds (ps := ["word"]) fun _ _ _ _ _ _ us hl => match us, hl with | [_], _ => rfl
  have F13 : FunD K "__init__" "Format.__init__" (defArgs s_Format_init) (defBody s_Format_init) (defScope s_Format_init) [V.bl true] [] f13 _ := ⟨⟨_, _, .ref tT13, _, _, _, _, _, _, _, rfl, l13, c13, .inr ⟨by simp, tT13, _, [Value.bool true], _, rfl, lt13, rfl, .cons rfl .nil⟩, .inl rfl⟩, k13⟩
  have b13 := format_b4 F13
  have F14 := fun_mk (st := s_Format_eq) l14 c14 k14
  have b14 := F14.binds (ps := ["self", "other"]) fun _ _ _ _ _ _ us hl => match us, hl with | [_, _], _ => rfl
  have F15 := fun_mk (st := s_source) l15 c15 k15
  have b15 := F15.binds (ps := ["_law_script", "_law_k"]) fun _ _ _ _ _ _ us hl => match us, hl with | [_, _], _ => rfl
  have F16 := fun_mk (st := s_pick) l16 c16 k16
  have b16 := F16.binds (ps := ["_law_source_here", "_law_many"]) fun _ _ _ _ _ _ us hl => match us, hl with | [_, _], _ => rfl
  have F17 := fun_mk (st := s_law_is_integer) l17 c17 k17
  have b17 := F17.binds (ps := ["_law_actual"]) fun _ _ _ _ _ _ us hl => match us, hl with | [_], _ => rfl
  have F18 := fun_mk (st := s_label_word) l18 c18 k18
  have b18 := F18.binds (ps := ["_law_label_here"]) fun _ _ _ _ _ _ us hl => match us, hl with | [_], _ => rfl
  have F19 := fun_mk (st := s_page_word) l19 c19 k19
  have b19 := F19.binds (ps := ["_law_page"]) fun _ _ _ _ _ _ us hl => match us, hl with | [_], _ => rfl
  have F20 := fun_mk (st := s_law_read_label) l20 c20 k20
  have b20 := F20.binds (ps := ["_law_word"]) fun _ _ _ _ _ _ us hl => match us, hl with | [_], _ => rfl
  have F21 := fun_mk (st := s_law_read_page) l21 c21 k21
  have b21 := F21.binds (ps := ["_law_word"]) fun _ _ _ _ _ _ us hl => match us, hl with | [_], _ => rfl
  have F22 := fun_mk (st := s_signs) l22 c22 k22
  have b22 := F22.binds (ps := []) fun _ _ _ _ _ _ us hl => match us, hl with | [], _ => rfl
  have F23 := fun_mk (st := s_figure) l23 c23 k23
  have b23 := F23.binds (ps := ["_law_source_here", "_law_least"]) fun _ _ _ _ _ _ us hl => match us, hl with | [_, _], _ => rfl
  have F24 := fun_mk (st := s_label) l24 c24 k24
  have b24 := F24.binds (ps := ["_law_source_here"]) fun _ _ _ _ _ _ us hl => match us, hl with | [_], _ => rfl
  have F25 := fun_mk (st := s_sign) l25 c25 k25
  have b25 := F25.binds (ps := ["_law_source_here"]) fun _ _ _ _ _ _ us hl => match us, hl with | [_], _ => rfl
  have F26 := fun_mk (st := s_spoilt) l26 c26 k26
  have b26 := F26.binds (ps := ["_law_source_here", "_law_word"]) fun _ _ _ _ _ _ us hl => match us, hl with | [_, _], _ => rfl
  have F27 := fun_mk (st := s_some_word) l27 c27 k27
  have b27 := F27.binds (ps := ["_law_source_here"]) fun _ _ _ _ _ _ us hl => match us, hl with | [_], _ => rfl
  have F28 := fun_mk (st := s_words) l28 c28 k28
  have b28 := F28.binds (ps := ["_law_source_here", "_law_label_here", "_law_side"]) fun _ _ _ _ _ _ us hl => match us, hl with | [_, _, _], _ => rfl
  have F29 := fun_mk (st := s_is_label) l29 c29 k29
  have b29 := F29.binds (ps := ["_law_actual", "_law_due"]) fun _ _ _ _ _ _ us hl => match us, hl with | [_, _], _ => rfl
  have F30 := fun_mk (st := s_is_page) l30 c30 k30
  have b30 := F30.binds (ps := ["_law_actual", "_law_due"]) fun _ _ _ _ _ _ us hl => match us, hl with | [_, _], _ => rfl
  have F31 := fun_mk (st := s_odd_label) l31 c31 k31
  have b31 := F31.binds (ps := ["_law_source_here", "_law_label_here"]) fun _ _ _ _ _ _ us hl => match us, hl with | [_, _], _ => rfl
  have F32 := fun_mk (st := s_refused) l32 c32 k32
  have b32 := F32.binds (ps := ["_law_thing", "_law_way"]) fun _ _ _ _ _ _ us hl => match us, hl with | [_, _], _ => rfl
  have F33 := fun_mk (st := s_written) l33 c33 k33
  have b33 := F33.binds (ps := ["_law_label_here", "_law_side"]) fun _ _ _ _ _ _ us hl => match us, hl with | [_, _], _ => rfl
  have F34 := fun_mk (st := s_odd_size) l34 c34 k34
  have b34 := F34.binds (ps := ["_law_source_here", "_law_low", "_law_high"]) fun _ _ _ _ _ _ us hl => match us, hl with | [_, _, _], _ => rfl
  have F35 := fun_mk (st := s_odd_near) l35 c35 k35
  have b35 := F35.binds (ps := ["_law_source_here"]) fun _ _ _ _ _ _ us hl => match us, hl with | [_], _ => rfl
  have F36 := fun_mk (st := s_format_refused) l36 c36 k36
  have b36 := F36.binds (ps := ["_law_one", "_law_other", "_law_third", "_law_word"]) fun _ _ _ _ _ _ us hl => match us, hl with | [_, _, _, _], _ => rfl
  have F37 := fun_mk (st := s_formats_asked) l37 c37 k37
  have b37 := F37.binds (ps := ["_law_source_here"]) fun _ _ _ _ _ _ us hl => match us, hl with | [_], _ => rfl
  have F38 := fun_mk (st := s_law) l38 c38 k38
  have b38 := F38.binds (ps := ["_law_script"]) fun _ _ _ _ _ _ us hl => match us, hl with | [_], _ => rfl
  let T : Tab K mg := ⟨C_AfterError, C_BadForm, C_NotThere, C_BadLabel, C_BadFormat, C_Format, _, _, F0, b0, a0, _, _, F1, b1, a1, _, _, F2, b2, PySem.W.mg_of X G a2, _, _, F3, b3, PySem.W.mg_of X G a3, _, _, F4, b4, PySem.W.mg_of X G a4, _, _, F5, b5, PySem.W.mg_of X G a5, _, _, F6, b6, PySem.W.mg_of X G a6, _, _, F7, b7, PySem.W.mg_of X G a7, _, _, F8, b8, PySem.W.mg_of X G a8, _, _, F9, b9, PySem.W.mg_of X G a9, _, _, F10, b10, PySem.W.mg_of X G a10, _, _, F11, b11, PySem.W.mg_of X G a11, _, _, F12, b12, PySem.W.mg_of X G a12, _, _, F13, b13, a13, format_b3 F13, format_kb F13, _, _, F14, b14, a14, _, _, F15, b15, PySem.W.mg_of X G a15, _, _, F16, b16, PySem.W.mg_of X G a16, _, _, F17, b17, PySem.W.mg_of X G a17, _, _, F18, b18, PySem.W.mg_of X G a18, _, _, F19, b19, PySem.W.mg_of X G a19, _, _, F20, b20, PySem.W.mg_of X G a20, _, _, F21, b21, PySem.W.mg_of X G a21, _, _, F22, b22, PySem.W.mg_of X G a22, _, _, F23, b23, PySem.W.mg_of X G a23, _, _, F24, b24, PySem.W.mg_of X G a24, _, _, F25, b25, PySem.W.mg_of X G a25, _, _, F26, b26, PySem.W.mg_of X G a26, _, _, F27, b27, PySem.W.mg_of X G a27, _, _, F28, b28, PySem.W.mg_of X G a28, _, _, F29, b29, PySem.W.mg_of X G a29, _, _, F30, b30, PySem.W.mg_of X G a30, _, _, F31, b31, PySem.W.mg_of X G a31, _, _, F32, b32, PySem.W.mg_of X G a32, _, _, F33, b33, PySem.W.mg_of X G a33, _, _, F34, b34, PySem.W.mg_of X G a34, _, _, F35, b35, PySem.W.mg_of X G a35, _, _, F36, b36, PySem.W.mg_of X G a36, _, _, F37, b37, PySem.W.mg_of X G a37, _, _, F38, b38, PySem.W.mg_of X G a38, PySem.W.mg_of X G h_cg_Format, PySem.W.mg_of X G h_cg_AfterError, PySem.W.mg_of X G h_cg_BadForm, PySem.W.mg_of X G h_cg_NotThere, PySem.W.mg_of X G h_cg_BadLabel, PySem.W.mg_of X G h_cg_BadFormat, h_hg_BadLabel, h_hk_BadLabel, h_hs_BadLabel, h_hd_BadLabel, h_ha_BadLabel, h_hn_BadLabel, h_ht_BadLabel, h_hm_BadLabel, h_hg_BadFormat, h_hk_BadFormat, h_hs_BadFormat, h_hd_BadFormat, h_ha_BadFormat, h_hn_BadFormat, h_ht_BadFormat, h_hm_BadFormat, ⟨⟨_, _, _, _, _, _, _, _, _, _, _, _, _, _, _, xl_BadLabel, rf_BadLabel⟩, sa_BadLabel, eb_BadLabel, ty_BadLabel, kc_BadLabel⟩, h_n_BadLabel_label, h_i_BadLabel, ⟨⟨_, _, _, _, _, _, _, _, _, _, _, _, _, _, _, xl_BadFormat, rf_BadFormat⟩, sa_BadFormat, eb_BadFormat, ty_BadFormat, kc_BadFormat⟩, h_n_BadFormat_word, h_i_BadFormat, ⟨pg_Format, hd_Format, po_Format, sa_Format⟩, h_ms_Format, h_kc_Format, h_ca_Format, h_cn_Format, h_ct_Format, h_cm_Format, h_ic_Format, h_tc_Format, h_na_Format_width, h_na_Format_height, h_na_Format_near, h_ns_Format_tuple, h_ns_Format_NoneType, h_fn_Format_init, h_fn_Format_eq, kit_ref ic_BadForm tc_BadForm h_q_BadLabel_BadForm (fun _ => rfl), kit_ref ic_AfterError tc_AfterError h_q_BadLabel_AfterError (fun _ => rfl), kit_rty h_q_BadLabel_ValueError (by decide +kernel), kit_ref ic_BadFormat tc_BadFormat h_q_BadLabel_BadFormat (fun z => absurd z ne_BadLabel_BadFormat), kit_ref ic_BadFormat tc_BadFormat h_q_BadFormat_BadFormat (fun _ => rfl), kit_rty h_q_BadFormat_ValueError (by decide +kernel), kit_ref ic_NotThere tc_NotThere h_q_BadFormat_NotThere (fun z => absurd z ne_BadFormat_NotThere), kit_ref ic_BadLabel tc_BadLabel h_q_BadFormat_BadLabel (fun z => absurd z ne_BadFormat_BadLabel), PySem.W.exm_ref sc_BadLabel dc_BadLabel tc_BadLabel h_e_BadLabel_BadLabel, PySem.W.exm_ref sc_BadForm dc_BadForm tc_BadForm h_e_BadFormat_BadForm, _, PySem.W.mg_of X G v_DIGITS, _, PySem.W.mg_of X G v_MOST_PARTS, _, PySem.W.mg_of X G v_SIDES, PySem.W.mg_none_of X G z_ValueError, PySem.W.mg_none_of X G z_abs, PySem.W.mg_none_of X G z_all, PySem.W.mg_none_of X G z_bool, PySem.W.mg_none_of X G z_int, PySem.W.mg_none_of X G z_isinstance, PySem.W.mg_none_of X G z_len, PySem.W.mg_none_of X G z_list, PySem.W.mg_none_of X G z_max, PySem.W.mg_none_of X G z_min, PySem.W.mg_none_of X G z_range, PySem.W.mg_none_of X G z_repr, PySem.W.mg_none_of X G z_str, PySem.W.mg_none_of X G z_sum, PySem.W.mg_none_of X G z_tuple⟩
  exact ⟨PySem.W.fnOf "law" "law" (defArgs s_law) (defBody s_law) (defScope s_law) .none kV38 dc38 pm38 an38 cd38 ct38, fun s v => .of_eq rfl, fun base _ _ => ok_law T⟩
end K02
open PySem PySem.W PyProof.Rows
set_option maxRecDepth 100000 in
set_option maxHeartbeats 0 in
theorem PySem.Challenge.cw_afterleaves_k02_pages_written_holds : PySem.Challenge.rw_afterleaves_k02_pages_written.Holds := by
  w_on; o_law; k_head; (case hw => w_witness2)
  k_fill
  refine K02.walk_ofG (l := PySem.Challenge.rw_afterleaves_k02_pages_written) (n := 63) (k := 8) (x := "_law_script") (CX := fun _ => L2.CX0) (sp := fun w => K02.sp_law _) rfl (by decide) rfl ⟨rfl, by decide, by decide⟩ (fun w h Y => PySem.W.kIn_of Y) ?F (fun _ _ a ns hl _ hS => ⟨a, ns, rfl, hS, hl, fun _ => rfl⟩) (fun _ _ _ _ _ h => h)
  case F =>
    intro w mg fa h KX G hmg
    refine' K02.all_mk KX G hmg ?a0 ?l0 ?c0 ?k0 ?a1 ?l1 ?c1 ?k1 ?a2 ?l2 ?c2 ?k2 ?a3 ?l3 ?c3 ?k3 ?a4 ?l4 ?c4 ?k4 ?a5 ?l5 ?c5 ?k5 ?a6 ?l6 ?c6 ?k6 ?a7 ?l7 ?c7 ?k7 ?a8 ?l8 ?c8 ?k8 ?a9 ?l9 ?c9 ?k9 ?a10 ?l10 ?c10 ?k10 ?a11 ?l11 ?c11 ?k11 ?a12 ?l12 ?c12 ?k12 ?a13 ?l13 ?c13 ?k13 ?lt13 ?a14 ?l14 ?c14 ?k14 ?a15 ?l15 ?c15 ?k15 ?a16 ?l16 ?c16 ?k16 ?a17 ?l17 ?c17 ?k17 ?a18 ?l18 ?c18 ?k18 ?a19 ?l19 ?c19 ?k19 ?a20 ?l20 ?c20 ?k20 ?a21 ?l21 ?c21 ?k21 ?a22 ?l22 ?c22 ?k22 ?a23 ?l23 ?c23 ?k23 ?a24 ?l24 ?c24 ?k24 ?a25 ?l25 ?c25 ?k25 ?a26 ?l26 ?c26 ?k26 ?a27 ?l27 ?c27 ?k27 ?a28 ?l28 ?c28 ?k28 ?a29 ?l29 ?c29 ?k29 ?a30 ?l30 ?c30 ?k30 ?a31 ?l31 ?c31 ?k31 ?a32 ?l32 ?c32 ?k32 ?a33 ?l33 ?c33 ?k33 ?a34 ?l34 ?c34 ?k34 ?a35 ?l35 ?c35 ?k35 ?a36 ?l36 ?c36 ?k36 ?a37 ?l37 ?c37 ?k37 ?a38 ?l38 ?c38 ?k38 ?v_DIGITS ?v_MOST_PARTS ?v_SIDES ?z_ValueError ?z_abs ?z_all ?z_bool ?z_int ?z_isinstance ?z_len ?z_list ?z_max ?z_min ?z_range ?z_repr ?z_str ?z_sum ?z_tuple ?h_cg_Format ?h_cg_AfterError ?h_cg_BadForm ?h_cg_NotThere ?h_cg_BadLabel ?h_cg_BadFormat ?h_hg_BadLabel ?h_hk_BadLabel ?h_hs_BadLabel ?h_hd_BadLabel ?h_ha_BadLabel ?h_hn_BadLabel ?h_ht_BadLabel ?h_hm_BadLabel ?h_hg_BadFormat ?h_hk_BadFormat ?h_hs_BadFormat ?h_hd_BadFormat ?h_ha_BadFormat ?h_hn_BadFormat ?h_ht_BadFormat ?h_hm_BadFormat ?h_n_BadLabel_label ?h_i_BadLabel ?h_n_BadFormat_word ?h_i_BadFormat ?h_ms_Format ?h_kc_Format ?h_ca_Format ?h_cn_Format ?h_ct_Format ?h_cm_Format ?h_ic_Format ?h_tc_Format ?h_na_Format_width ?h_na_Format_height ?h_na_Format_near ?h_ns_Format_tuple ?h_ns_Format_NoneType ?h_fn_Format_init ?h_fn_Format_eq ?h_q_BadLabel_BadForm ?h_q_BadLabel_AfterError ?h_q_BadLabel_ValueError ?h_q_BadLabel_BadFormat ?h_q_BadFormat_BadFormat ?h_q_BadFormat_ValueError ?h_q_BadFormat_NotThere ?h_q_BadFormat_BadLabel ?h_e_BadLabel_BadLabel ?h_e_BadFormat_BadForm ?xl_BadLabel ?rf_BadLabel ?sa_BadLabel ?eb_BadLabel ?ty_BadLabel ?kc_BadLabel ?xl_BadFormat ?rf_BadFormat ?sa_BadFormat ?eb_BadFormat ?ty_BadFormat ?kc_BadFormat ?pg_Format ?hd_Format ?po_Format ?sa_Format ?ic_AfterError ?tc_AfterError ?sc_AfterError ?dc_AfterError ?ic_BadForm ?tc_BadForm ?sc_BadForm ?dc_BadForm ?ic_NotThere ?tc_NotThere ?sc_NotThere ?dc_NotThere ?ic_BadLabel ?tc_BadLabel ?sc_BadLabel ?dc_BadLabel ?ic_BadFormat ?tc_BadFormat ?sc_BadFormat ?dc_BadFormat ?ne_BadLabel_BadFormat ?ne_BadFormat_NotThere ?ne_BadFormat_BadLabel
    (case h_cg_Format => k_is)
    (case h_cg_AfterError => k_is)
    (case h_cg_BadForm => k_is)
    (case h_cg_NotThere => k_is)
    (case h_cg_BadLabel => k_is)
    (case h_cg_BadFormat => k_is)
    (case a0 => k_is)
    (case l0 => k_is)
    (case c0 => k_is)
    (case k0 => k_is)
    (case a1 => k_is)
    (case l1 => k_is)
    (case c1 => k_is)
    (case k1 => k_is)
    (case a2 => k_is)
    (case l2 => k_is)
    (case c2 => k_is)
    (case k2 => k_is)
    (case a3 => k_is)
    (case l3 => k_is)
    (case c3 => k_is)
    (case k3 => k_is)
    (case a4 => k_is)
    (case l4 => k_is)
    (case c4 => k_is)
    (case k4 => k_is)
    (case a5 => k_is)
    (case l5 => k_is)
    (case c5 => k_is)
    (case k5 => k_is)
    (case a6 => k_is)
    (case l6 => k_is)
    (case c6 => k_is)
    (case k6 => k_is)
    (case a7 => k_is)
    (case l7 => k_is)
    (case c7 => k_is)
    (case k7 => k_is)
    (case a8 => k_is)
    (case l8 => k_is)
    (case c8 => k_is)
    (case k8 => k_is)
    (case a9 => k_is)
    (case l9 => k_is)
    (case c9 => k_is)
    (case k9 => k_is)
    (case a10 => k_is)
    (case l10 => k_is)
    (case c10 => k_is)
    (case k10 => k_is)
    (case a11 => k_is)
    (case l11 => k_is)
    (case c11 => k_is)
    (case k11 => k_is)
    (case a12 => k_is)
    (case l12 => k_is)
    (case c12 => k_is)
    (case k12 => k_is)
    (case a13 => k_is)
    (case l13 => k_is)
    (case c13 => k_is)
    (case k13 => k_is)
    (case lt13 => k_is)
    (case a14 => k_is)
    (case l14 => k_is)
    (case c14 => k_is)
    (case k14 => k_is)
    (case a15 => k_is)
    (case l15 => k_is)
    (case c15 => k_is)
    (case k15 => k_is)
    (case a16 => k_is)
    (case l16 => k_is)
    (case c16 => k_is)
    (case k16 => k_is)
    (case a17 => k_is)
    (case l17 => k_is)
    (case c17 => k_is)
    (case k17 => k_is)
    (case a18 => k_is)
    (case l18 => k_is)
    (case c18 => k_is)
    (case k18 => k_is)
    (case a19 => k_is)
    (case l19 => k_is)
    (case c19 => k_is)
    (case k19 => k_is)
    (case a20 => k_is)
    (case l20 => k_is)
    (case c20 => k_is)
    (case k20 => k_is)
    (case a21 => k_is)
    (case l21 => k_is)
    (case c21 => k_is)
    (case k21 => k_is)
    (case a22 => k_is)
    (case l22 => k_is)
    (case c22 => k_is)
    (case k22 => k_is)
    (case a23 => k_is)
    (case l23 => k_is)
    (case c23 => k_is)
    (case k23 => k_is)
    (case a24 => k_is)
    (case l24 => k_is)
    (case c24 => k_is)
    (case k24 => k_is)
    (case a25 => k_is)
    (case l25 => k_is)
    (case c25 => k_is)
    (case k25 => k_is)
    (case a26 => k_is)
    (case l26 => k_is)
    (case c26 => k_is)
    (case k26 => k_is)
    (case a27 => k_is)
    (case l27 => k_is)
    (case c27 => k_is)
    (case k27 => k_is)
    (case a28 => k_is)
    (case l28 => k_is)
    (case c28 => k_is)
    (case k28 => k_is)
    (case a29 => k_is)
    (case l29 => k_is)
    (case c29 => k_is)
    (case k29 => k_is)
    (case a30 => k_is)
    (case l30 => k_is)
    (case c30 => k_is)
    (case k30 => k_is)
    (case a31 => k_is)
    (case l31 => k_is)
    (case c31 => k_is)
    (case k31 => k_is)
    (case a32 => k_is)
    (case l32 => k_is)
    (case c32 => k_is)
    (case k32 => k_is)
    (case a33 => k_is)
    (case l33 => k_is)
    (case c33 => k_is)
    (case k33 => k_is)
    (case a34 => k_is)
    (case l34 => k_is)
    (case c34 => k_is)
    (case k34 => k_is)
    (case a35 => k_is)
    (case l35 => k_is)
    (case c35 => k_is)
    (case k35 => k_is)
    (case a36 => k_is)
    (case l36 => k_is)
    (case c36 => k_is)
    (case k36 => k_is)
    (case a37 => k_is)
    (case l37 => k_is)
    (case c37 => k_is)
    (case k37 => k_is)
    (case a38 => k_is)
    (case l38 => k_is)
    (case c38 => k_is)
    (case k38 => k_is)
    (case v_DIGITS => k_is)
    (case v_MOST_PARTS => k_is)
    (case v_SIDES => k_is)
    (case z_ValueError => k_is)
    (case z_abs => k_is)
    (case z_all => k_is)
    (case z_bool => k_is)
    (case z_int => k_is)
    (case z_isinstance => k_is)
    (case z_len => k_is)
    (case z_list => k_is)
    (case z_max => k_is)
    (case z_min => k_is)
    (case z_range => k_is)
    (case z_repr => k_is)
    (case z_str => k_is)
    (case z_sum => k_is)
    (case z_tuple => k_is)
    (case h_hg_BadLabel => k_is)
    (case h_hk_BadLabel => k_is)
    (case h_hs_BadLabel => k_is)
    (case h_hd_BadLabel => k_is)
    (case h_ha_BadLabel => k_is)
    (case h_hn_BadLabel => k_is)
    (case h_ht_BadLabel => k_is)
    (case h_hm_BadLabel => k_is)
    (case h_hg_BadFormat => k_is)
    (case h_hk_BadFormat => k_is)
    (case h_hs_BadFormat => k_is)
    (case h_hd_BadFormat => k_is)
    (case h_ha_BadFormat => k_is)
    (case h_hn_BadFormat => k_is)
    (case h_ht_BadFormat => k_is)
    (case h_hm_BadFormat => k_is)
    (case h_n_BadLabel_label => k_is)
    (case h_i_BadLabel => k_is)
    (case h_n_BadFormat_word => k_is)
    (case h_i_BadFormat => k_is)
    (case h_ms_Format => k_is)
    (case h_kc_Format => k_is)
    (case h_ca_Format => k_is)
    (case h_cn_Format => k_is)
    (case h_ct_Format => k_is)
    (case h_cm_Format => k_is)
    (case h_ic_Format => k_is)
    (case h_tc_Format => k_is)
    (case h_na_Format_width => k_is)
    (case h_na_Format_height => k_is)
    (case h_na_Format_near => k_is)
    (case h_ns_Format_tuple => k_is)
    (case h_ns_Format_NoneType => k_is)
    (case h_fn_Format_init => k_is)
    (case h_fn_Format_eq => k_is)
    (case h_q_BadLabel_BadForm => k_is)
    (case h_q_BadLabel_AfterError => k_is)
    (case h_q_BadLabel_ValueError => k_is)
    (case h_q_BadLabel_BadFormat => k_is)
    (case h_q_BadFormat_BadFormat => k_is)
    (case h_q_BadFormat_ValueError => k_is)
    (case h_q_BadFormat_NotThere => k_is)
    (case h_q_BadFormat_BadLabel => k_is)
    (case h_e_BadLabel_BadLabel => k_is)
    (case h_e_BadFormat_BadForm => k_is)
    (case xl_BadLabel => k_is)
    (case rf_BadLabel => first | rfl | decide +kernel | k_is)
    (case sa_BadLabel => k_is)
    (case eb_BadLabel => k_is)
    (case ty_BadLabel => k_is)
    (case kc_BadLabel => k_is)
    (case xl_BadFormat => k_is)
    (case rf_BadFormat => first | rfl | decide +kernel | k_is)
    (case sa_BadFormat => k_is)
    (case eb_BadFormat => k_is)
    (case ty_BadFormat => k_is)
    (case kc_BadFormat => k_is)
    (case pg_Format => k_is)
    (case hd_Format => k_is)
    (case po_Format => k_is)
    (case sa_Format => k_is)
    (case ic_AfterError => k_is)
    (case tc_AfterError => k_is)
    (case sc_AfterError => k_is)
    (case dc_AfterError => k_is)
    (case ic_BadForm => k_is)
    (case tc_BadForm => k_is)
    (case sc_BadForm => k_is)
    (case dc_BadForm => k_is)
    (case ic_NotThere => k_is)
    (case tc_NotThere => k_is)
    (case sc_NotThere => k_is)
    (case dc_NotThere => k_is)
    (case ic_BadLabel => k_is)
    (case tc_BadLabel => k_is)
    (case sc_BadLabel => k_is)
    (case dc_BadLabel => k_is)
    (case ic_BadFormat => k_is)
    (case tc_BadFormat => k_is)
    (case sc_BadFormat => k_is)
    (case dc_BadFormat => k_is)
    (case ne_BadLabel_BadFormat => decide)
    (case ne_BadFormat_NotThere => decide)
    (case ne_BadFormat_BadLabel => decide)

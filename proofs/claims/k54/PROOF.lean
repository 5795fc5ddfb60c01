import PyProof.Rows.All
import Wide.All
import OpenK.AllK
import Wide.FinOn
import HandS.ForMost
import HandS.Codes
import HandS.IsInst
import HandS.Walk
import HandS.TupLe
import HandS.DeepEq
import HandS.TupAny
import HandS.Deep
import HandS.FStr
import HandS.StrMore
import HandS.TryMany
import HandS.NoneIn
import HandS.ForExc
import HandS.ExcInit
import HandS.ExcField
import HandS.ExcIs
import KE.KExcIs
import KE.KRevSl
import PyProof.StrLawsRepr
import HandS.Flow
import HandS.OwnEq
import HandS.Defaults
import HandS.MakeKw
import HandS.MakeKwOnly
import HandS.SortRule
import HandS.NamedTupSort
import KE.GoesRaise
import HandS.HotCalls
import HandS.DictComp
import HandS.IterVal
import HandS.Property
import KE.DataCmp
import KE.SortCalls
import KE.SortData
import KE.GoesEnum
import HandS.Zip
import KE.KDictKeyed
import HandS.Strs
import KE.DataMinMax
import HandS.ForDict
import HandS.Iter
import HandS.SetKeys
import HandS.BoundList
import HandS.Head0
import HandS.Head1
import HandS.Head2
import HandS.HeadEnd
import HandS.HeadHook1
import PySem.Challenge.RW_afterleaves_k54_bad_errata_lines
set_option Elab.async false
set_option linter.all false
set_option maxRecDepth 100000
set_option maxHeartbeats 4000000
namespace K54
open PySem PySem.Spec PyProof.Rows L2
/-! ### the text -/
def topS (i : Nat) : Stmt := PySem.Challenge.pw_afterleaves_k54_bad_errata_lines.main.body.getD i (.Pass ⟨0, 0, 0, 0⟩)
abbrev s_BadLine_init : Stmt := inClass (topS 7) 0
abbrev N_BadLine_init : List Str := ["self", "line", "word"]
theorem sc_BadLine_init : FnScope N_BadLine_init ["self", "line", "word"] (defScope s_BadLine_init) := ⟨rfl, rfl, rfl, by decide +kernel, rfl, by decide +kernel, by decide +kernel⟩
abbrev s_BadCorrection_init : Stmt := inClass (topS 11) 0
abbrev N_BadCorrection_init : List Str := ["self", "place"]
theorem sc_BadCorrection_init : FnScope N_BadCorrection_init ["self", "place"] (defScope s_BadCorrection_init) := ⟨rfl, rfl, rfl, by decide +kernel, rfl, by decide +kernel, by decide +kernel⟩
abbrev s_TooMany_init : Stmt := inClass (topS 13) 0
abbrev N_TooMany_init : List Str := ["self", "word"]
theorem sc_TooMany_init : FnScope N_TooMany_init ["self", "word"] (defScope s_TooMany_init) := ⟨rfl, rfl, rfl, by decide +kernel, rfl, by decide +kernel, by decide +kernel⟩
abbrev s_is_integer : Stmt := topS 16
abbrev N_is_integer : List Str := ["thing"]
theorem sc_is_integer : FnScope N_is_integer ["thing"] (defScope s_is_integer) := ⟨rfl, rfl, rfl, by decide +kernel, rfl, by decide +kernel, by decide +kernel⟩
abbrev s_is_within : Stmt := topS 17
abbrev N_is_within : List Str := ["thing", "least", "most"]
theorem sc_is_within : FnScope N_is_within ["thing", "least", "most"] (defScope s_is_within) := ⟨rfl, rfl, rfl, by decide +kernel, rfl, by decide +kernel, by decide +kernel⟩
abbrev s_is_tuple : Stmt := topS 18
abbrev N_is_tuple : List Str := ["thing"]
theorem sc_is_tuple : FnScope N_is_tuple ["thing"] (defScope s_is_tuple) := ⟨rfl, rfl, rfl, by decide +kernel, rfl, by decide +kernel, by decide +kernel⟩
abbrev s_is_sized : Stmt := topS 19
abbrev N_is_sized : List Str := ["thing", "least", "most"]
theorem sc_is_sized : FnScope N_is_sized ["thing", "least", "most"] (defScope s_is_sized) := ⟨rfl, rfl, rfl, by decide +kernel, rfl, by decide +kernel, by decide +kernel⟩
abbrev s_read_integer : Stmt := topS 20
abbrev N_read_integer : List Str := ["word", "least", "most", "number", "digit"]
theorem sc_read_integer : FnScope N_read_integer ["word", "least", "most"] (defScope s_read_integer) := ⟨rfl, rfl, rfl, by decide +kernel, rfl, by decide +kernel, by decide +kernel⟩
abbrev s_kept_label : Stmt := topS 24
abbrev N_kept_label : List Str := ["thing", "part"]
theorem sc_kept_label : FnScope N_kept_label ["thing"] (defScope s_kept_label) := ⟨rfl, rfl, rfl, by decide +kernel, rfl, by decide +kernel, by decide +kernel⟩
abbrev s_kept_page : Stmt := topS 26
abbrev N_kept_page : List Str := ["thing", "label"]
theorem sc_kept_page : FnScope N_kept_page ["thing"] (defScope s_kept_page) := ⟨rfl, rfl, rfl, by decide +kernel, rfl, by decide +kernel, by decide +kernel⟩
abbrev s_read_label : Stmt := topS 27
abbrev N_read_label : List Str := ["word", "part"]
theorem sc_read_label : FnScope N_read_label ["word"] (defScope s_read_label) := ⟨rfl, rfl, rfl, by decide +kernel, rfl, by decide +kernel, by decide +kernel⟩
abbrev s_read_page : Stmt := topS 28
abbrev N_read_page : List Str := ["word", "label"]
theorem sc_read_page : FnScope N_read_page ["word"] (defScope s_read_page) := ⟨rfl, rfl, rfl, by decide +kernel, rfl, by decide +kernel, by decide +kernel⟩
abbrev s_line_words : Stmt := topS 30
abbrev N_line_words : List Str := ["line", "number"]
theorem sc_line_words : FnScope N_line_words ["line", "number"] (defScope s_line_words) := ⟨rfl, rfl, rfl, by decide +kernel, rfl, by decide +kernel, by decide +kernel⟩
abbrev s_Cursor_init : Stmt := inClass (topS 31) 0
abbrev N_Cursor_init : List Str := ["self", "words", "line", "at"]
theorem sc_Cursor_init : FnScope N_Cursor_init ["self", "words", "line", "at"] (defScope s_Cursor_init) := ⟨rfl, rfl, rfl, by decide +kernel, rfl, by decide +kernel, by decide +kernel⟩
abbrev s_Cursor_more : Stmt := inClass (topS 31) 1
abbrev N_Cursor_more : List Str := ["self"]
theorem sc_Cursor_more : FnScope N_Cursor_more ["self"] (defScope s_Cursor_more) := ⟨rfl, rfl, rfl, by decide +kernel, rfl, by decide +kernel, by decide +kernel⟩
abbrev s_Cursor_look : Stmt := inClass (topS 31) 2
abbrev N_Cursor_look : List Str := ["self"]
theorem sc_Cursor_look : FnScope N_Cursor_look ["self"] (defScope s_Cursor_look) := ⟨rfl, rfl, rfl, by decide +kernel, rfl, by decide +kernel, by decide +kernel⟩
abbrev s_Cursor_take : Stmt := inClass (topS 31) 3
abbrev N_Cursor_take : List Str := ["self", "worth"]
theorem sc_Cursor_take : FnScope N_Cursor_take ["self", "worth"] (defScope s_Cursor_take) := ⟨rfl, rfl, rfl, by decide +kernel, rfl, by decide +kernel, by decide +kernel⟩
abbrev s_Cursor_take_one : Stmt := inClass (topS 31) 5
abbrev N_Cursor_take_one : List Str := ["self", "words", "word"]
theorem sc_Cursor_take_one : FnScope N_Cursor_take_one ["self", "words"] (defScope s_Cursor_take_one) := ⟨rfl, rfl, rfl, by decide +kernel, rfl, by decide +kernel, by decide +kernel⟩
abbrev s_Cursor_take_integer : Stmt := inClass (topS 31) 6
abbrev N_Cursor_take_integer : List Str := ["self", "least", "most"]
theorem sc_Cursor_take_integer : FnScope N_Cursor_take_integer ["self", "least", "most"] (defScope s_Cursor_take_integer) := ⟨rfl, rfl, rfl, by decide +kernel, rfl, by decide +kernel, by decide +kernel⟩
abbrev s_Cursor_take_end : Stmt := inClass (topS 31) 9
abbrev N_Cursor_take_end : List Str := ["self"]
theorem sc_Cursor_take_end : FnScope N_Cursor_take_end ["self"] (defScope s_Cursor_take_end) := ⟨rfl, rfl, rfl, by decide +kernel, rfl, by decide +kernel, by decide +kernel⟩
abbrev s_is_token : Stmt := topS 38
abbrev N_is_token : List Str := ["thing"]
theorem sc_is_token : FnScope N_is_token ["thing"] (defScope s_is_token) := ⟨rfl, rfl, rfl, by decide +kernel, rfl, by decide +kernel, by decide +kernel⟩
abbrev s_Errata_init : Stmt := inClass (topS 51) 0
abbrev N_Errata_init : List Str := ["self", "corrections"]
theorem sc_Errata_init : FnScope N_Errata_init ["self", "corrections"] (defScope s_Errata_init) := ⟨rfl, rfl, rfl, by decide +kernel, rfl, by decide +kernel, by decide +kernel⟩
abbrev s_turns_at_places : Stmt := topS 53
abbrev N_turns_at_places : List Str := ["corrections", "turns", "page", "row", "word", "old", "new"]
theorem sc_turns_at_places : FnScope N_turns_at_places ["corrections"] (defScope s_turns_at_places) := ⟨rfl, rfl, rfl, by decide +kernel, rfl, by decide +kernel, by decide +kernel⟩
abbrev s_judged_corrections : Stmt := topS 54
abbrev N_judged_corrections : List Str := ["corrections", "kept", "thing"]
theorem sc_judged_corrections : FnScope N_judged_corrections ["corrections"] (defScope s_judged_corrections) := ⟨rfl, rfl, rfl, by decide +kernel, rfl, by decide +kernel, by decide +kernel⟩
abbrev s_kept_correction : Stmt := topS 55
abbrev N_kept_correction : List Str := ["thing", "page", "row", "word", "old", "new"]
theorem sc_kept_correction : FnScope N_kept_correction ["thing"] (defScope s_kept_correction) := ⟨rfl, rfl, rfl, by decide +kernel, rfl, by decide +kernel, by decide +kernel⟩
abbrev s_read_errata : Stmt := topS 57
abbrev N_read_errata : List Str := ["lines", "k", "line"]
theorem sc_read_errata : FnScope N_read_errata ["lines"] (defScope s_read_errata) := ⟨rfl, rfl, rfl, by decide +kernel, rfl, by decide +kernel, by decide +kernel⟩
abbrev s_read_correction : Stmt := topS 58
abbrev N_read_correction : List Str := ["cursor", "page", "row", "word", "old", "new"]
theorem sc_read_correction : FnScope N_read_correction ["cursor"] (defScope s_read_correction) := ⟨rfl, rfl, rfl, by decide +kernel, rfl, by decide +kernel, by decide +kernel⟩
abbrev s_take_token : Stmt := topS 59
abbrev N_take_token : List Str := ["cursor", "word"]
theorem sc_take_token : FnScope N_take_token ["cursor"] (defScope s_take_token) := ⟨rfl, rfl, rfl, by decide +kernel, rfl, by decide +kernel, by decide +kernel⟩
abbrev s_source : Stmt := topS 61
abbrev N_source : List Str := ["_law_script", "_law_k", "_law_cell", "_law_number_here", "_law_great"]
theorem sc_source : FnScope N_source ["_law_script", "_law_k"] (defScope s_source) := ⟨rfl, rfl, rfl, by decide +kernel, rfl, by decide +kernel, by decide +kernel⟩
abbrev s_pick : Stmt := topS 62
abbrev N_pick : List Str := ["_law_source_here", "_law_many", "_law_taken"]
theorem sc_pick : FnScope N_pick ["_law_source_here", "_law_many"] (defScope s_pick) := ⟨rfl, rfl, rfl, by decide +kernel, rfl, by decide +kernel, by decide +kernel⟩
abbrev s_label_word : Stmt := topS 63
abbrev N_label_word : List Str := ["_law_label_here", "_law_part"]
theorem sc_label_word : FnScope N_label_word ["_law_label_here"] (defScope s_label_word) := ⟨rfl, rfl, rfl, by decide +kernel, rfl, by decide +kernel, by decide +kernel⟩
abbrev s_page_word : Stmt := topS 64
abbrev N_page_word : List Str := ["_law_page"]
theorem sc_page_word : FnScope N_page_word ["_law_page"] (defScope s_page_word) := ⟨rfl, rfl, rfl, by decide +kernel, rfl, by decide +kernel, by decide +kernel⟩
abbrev s_law_read_label : Stmt := topS 65
abbrev N_law_read_label : List Str := ["_law_word", "_law_label_here", "_law_part", "_law_bad", "_law_sign"]
theorem sc_law_read_label : FnScope N_law_read_label ["_law_word"] (defScope s_law_read_label) := ⟨rfl, rfl, rfl, by decide +kernel, rfl, by decide +kernel, by decide +kernel⟩
abbrev s_law_read_page : Stmt := topS 66
abbrev N_law_read_page : List Str := ["_law_word", "_law_label_here"]
theorem sc_law_read_page : FnScope N_law_read_page ["_law_word"] (defScope s_law_read_page) := ⟨rfl, rfl, rfl, by decide +kernel, rfl, by decide +kernel, by decide +kernel⟩
abbrev s_token : Stmt := topS 67
abbrev N_token : List Str := ["_law_source_here", "_law_most", "_law_signs", "_law_size", "_law_word", "_law_k", "_law_at"]
theorem sc_token : FnScope N_token ["_law_source_here", "_law_most"] (defScope s_token) := ⟨rfl, rfl, rfl, by decide +kernel, rfl, by decide +kernel, by decide +kernel⟩
abbrev s_other : Stmt := topS 68
abbrev N_other : List Str := ["_law_token_here"]
theorem sc_other : FnScope N_other ["_law_token_here"] (defScope s_other) := ⟨rfl, rfl, rfl, by decide +kernel, rfl, by decide +kernel, by decide +kernel⟩
abbrev s_label : Stmt := topS 69
abbrev N_label : List Str := ["_law_source_here", "_law_most", "_law_size", "_law_parts", "_law_k"]
theorem sc_label : FnScope N_label ["_law_source_here"] (defScope s_label) := ⟨rfl, rfl, rfl, by decide +kernel, rfl, by decide +kernel, by decide +kernel⟩
abbrev s_line : Stmt := topS 70
abbrev N_line : List Str := ["_law_source_here", "_law_page", "_law_row", "_law_word", "_law_most", "_law_old", "_law_new"]
theorem sc_line : FnScope N_line ["_law_source_here"] (defScope s_line) := ⟨rfl, rfl, rfl, by decide +kernel, rfl, by decide +kernel, by decide +kernel⟩
abbrev s_odd_word : Stmt := topS 71
abbrev N_odd_word : List Str := ["_law_source_here", "_law_words"]
theorem sc_odd_word : FnScope N_odd_word ["_law_source_here"] (defScope s_odd_word) := ⟨rfl, rfl, rfl, by decide +kernel, rfl, by decide +kernel, by decide +kernel⟩
abbrev s_spoilt_words : Stmt := topS 72
abbrev N_spoilt_words : List Str := ["_law_source_here", "_law_words", "_law_way", "_law_at", "_law_other_here"]
theorem sc_spoilt_words : FnScope N_spoilt_words ["_law_source_here", "_law_words"] (defScope s_spoilt_words) := ⟨rfl, rfl, rfl, by decide +kernel, rfl, by decide +kernel, by decide +kernel⟩
abbrev s_spoilt : Stmt := topS 73
abbrev N_spoilt : List Str := ["_law_source_here", "_law_lines", "_law_at", "_law_other_here", "_law_way", "_law_words"]
theorem sc_spoilt : FnScope N_spoilt ["_law_source_here", "_law_lines"] (defScope s_spoilt) := ⟨rfl, rfl, rfl, by decide +kernel, rfl, by decide +kernel, by decide +kernel⟩
abbrev s_number : Stmt := topS 74
abbrev N_number : List Str := ["_law_word", "_law_most", "_law_sign"]
theorem sc_number : FnScope N_number ["_law_word", "_law_most"] (defScope s_number) := ⟨rfl, rfl, rfl, by decide +kernel, rfl, by decide +kernel, by decide +kernel⟩
abbrev s_fits : Stmt := topS 75
abbrev N_fits : List Str := ["_law_place", "_law_word"]
theorem sc_fits : FnScope N_fits ["_law_place", "_law_word"] (defScope s_fits) := ⟨rfl, rfl, rfl, by decide +kernel, rfl, by decide +kernel, by decide +kernel⟩
abbrev s_due : Stmt := topS 76
abbrev N_due : List Str := ["_law_lines", "_law_rows", "_law_at", "_law_words", "_law_place", "_law_page"]
theorem sc_due : FnScope N_due ["_law_lines"] (defScope s_due) := ⟨rfl, rfl, rfl, by decide +kernel, rfl, by decide +kernel, by decide +kernel⟩
abbrev s_told : Stmt := topS 77
abbrev N_told : List Str := ["_law_lines", "_law_made", "e", "_law_kinds"]
theorem sc_told : FnScope N_told ["_law_lines"] (defScope s_told) := ⟨rfl, rfl, rfl, by decide +kernel, rfl, by decide +kernel, by decide +kernel⟩
abbrev s_law : Stmt := topS 78
abbrev N_law : List Str := ["_law_script", "_law_source_here", "_law_many", "_law_good", "_law_spoiler", "_law_lines", "_law_turn", "_law_handed", "_law_k"]
theorem sc_law : FnScope N_law ["_law_script"] (defScope s_law) := ⟨rfl, rfl, rfl, by decide +kernel, rfl, by decide +kernel, by decide +kernel⟩
structure Tab (K : PySem.W.Frag) (mg : Str → Option Value) where
  C_AfterError : Addr
  C_BadForm : Addr
  C_BadLine : Addr
  C_BadErrata : Addr
  C_BadCorrection : Addr
  C_TooMany : Addr
  C_Cursor : Addr
  C_Errata : Addr
  f_BadLine_init : Addr
  d_BadLine_init : FuncData
  F_BadLine_init : Fun K "__init__" "BadLine.__init__" s_BadLine_init f_BadLine_init d_BadLine_init
  b_BadLine_init : Binds K d_BadLine_init ["self", "line", "word"] []
  g_BadLine_init : PySem.W.findIn K (.ref C_BadLine) "__init__" = some (some (.ref f_BadLine_init))
  f_BadCorrection_init : Addr
  d_BadCorrection_init : FuncData
  F_BadCorrection_init : Fun K "__init__" "BadCorrection.__init__" s_BadCorrection_init f_BadCorrection_init d_BadCorrection_init
  b_BadCorrection_init : Binds K d_BadCorrection_init ["self", "place"] []
  g_BadCorrection_init : PySem.W.findIn K (.ref C_BadCorrection) "__init__" = some (some (.ref f_BadCorrection_init))
  f_TooMany_init : Addr
  d_TooMany_init : FuncData
  F_TooMany_init : Fun K "__init__" "TooMany.__init__" s_TooMany_init f_TooMany_init d_TooMany_init
  b_TooMany_init : Binds K d_TooMany_init ["self", "word"] []
  g_TooMany_init : PySem.W.findIn K (.ref C_TooMany) "__init__" = some (some (.ref f_TooMany_init))
  f_is_integer : Addr
  d_is_integer : FuncData
  F_is_integer : Fun K "is_integer" "is_integer" s_is_integer f_is_integer d_is_integer
  b_is_integer : Binds K d_is_integer ["thing"] []
  g_is_integer : mg "is_integer" = some (.ref f_is_integer)
  f_is_within : Addr
  d_is_within : FuncData
  F_is_within : Fun K "is_within" "is_within" s_is_within f_is_within d_is_within
  b_is_within : Binds K d_is_within ["thing", "least", "most"] []
  g_is_within : mg "is_within" = some (.ref f_is_within)
  f_is_tuple : Addr
  d_is_tuple : FuncData
  F_is_tuple : Fun K "is_tuple" "is_tuple" s_is_tuple f_is_tuple d_is_tuple
  b_is_tuple : Binds K d_is_tuple ["thing"] []
  g_is_tuple : mg "is_tuple" = some (.ref f_is_tuple)
  f_is_sized : Addr
  d_is_sized : FuncData
  F_is_sized : Fun K "is_sized" "is_sized" s_is_sized f_is_sized d_is_sized
  b_is_sized : Binds K d_is_sized ["thing", "least", "most"] []
  g_is_sized : mg "is_sized" = some (.ref f_is_sized)
  f_read_integer : Addr
  d_read_integer : FuncData
  F_read_integer : Fun K "read_integer" "read_integer" s_read_integer f_read_integer d_read_integer
  b_read_integer : Binds K d_read_integer ["word", "least", "most"] []
  g_read_integer : mg "read_integer" = some (.ref f_read_integer)
  f_kept_label : Addr
  d_kept_label : FuncData
  F_kept_label : Fun K "kept_label" "kept_label" s_kept_label f_kept_label d_kept_label
  b_kept_label : Binds K d_kept_label ["thing"] []
  g_kept_label : mg "kept_label" = some (.ref f_kept_label)
  f_kept_page : Addr
  d_kept_page : FuncData
  F_kept_page : Fun K "kept_page" "kept_page" s_kept_page f_kept_page d_kept_page
  b_kept_page : Binds K d_kept_page ["thing"] []
  g_kept_page : mg "kept_page" = some (.ref f_kept_page)
  f_read_label : Addr
  d_read_label : FuncData
  F_read_label : Fun K "read_label" "read_label" s_read_label f_read_label d_read_label
  b_read_label : Binds K d_read_label ["word"] []
  g_read_label : mg "read_label" = some (.ref f_read_label)
  f_read_page : Addr
  d_read_page : FuncData
  F_read_page : Fun K "read_page" "read_page" s_read_page f_read_page d_read_page
  b_read_page : Binds K d_read_page ["word"] []
  g_read_page : mg "read_page" = some (.ref f_read_page)
  f_line_words : Addr
  d_line_words : FuncData
  F_line_words : Fun K "line_words" "line_words" s_line_words f_line_words d_line_words
  b_line_words : Binds K d_line_words ["line", "number"] []
  g_line_words : mg "line_words" = some (.ref f_line_words)
  f_Cursor_init : Addr
  d_Cursor_init : FuncData
  F_Cursor_init : Fun K "__init__" "Cursor.__init__" s_Cursor_init f_Cursor_init d_Cursor_init
  b_Cursor_init : Binds K d_Cursor_init ["self", "words", "line", "at"] []
  g_Cursor_init : PySem.W.findIn K (.ref C_Cursor) "__init__" = some (some (.ref f_Cursor_init))
  f_Cursor_more : Addr
  d_Cursor_more : FuncData
  F_Cursor_more : Fun K "more" "Cursor.more" s_Cursor_more f_Cursor_more d_Cursor_more
  b_Cursor_more : Binds K d_Cursor_more ["self"] []
  g_Cursor_more : PySem.W.findIn K (.ref C_Cursor) "more" = some (some (.ref f_Cursor_more))
  f_Cursor_look : Addr
  d_Cursor_look : FuncData
  F_Cursor_look : Fun K "look" "Cursor.look" s_Cursor_look f_Cursor_look d_Cursor_look
  b_Cursor_look : Binds K d_Cursor_look ["self"] []
  g_Cursor_look : PySem.W.findIn K (.ref C_Cursor) "look" = some (some (.ref f_Cursor_look))
  f_Cursor_take : Addr
  d_Cursor_take : FuncData
  F_Cursor_take : Fun K "take" "Cursor.take" s_Cursor_take f_Cursor_take d_Cursor_take
  b_Cursor_take : Binds K d_Cursor_take ["self", "worth"] []
  g_Cursor_take : PySem.W.findIn K (.ref C_Cursor) "take" = some (some (.ref f_Cursor_take))
  f_Cursor_take_one : Addr
  d_Cursor_take_one : FuncData
  F_Cursor_take_one : Fun K "take_one" "Cursor.take_one" s_Cursor_take_one f_Cursor_take_one d_Cursor_take_one
  b_Cursor_take_one : Binds K d_Cursor_take_one ["self", "words"] []
  g_Cursor_take_one : PySem.W.findIn K (.ref C_Cursor) "take_one" = some (some (.ref f_Cursor_take_one))
  f_Cursor_take_integer : Addr
  d_Cursor_take_integer : FuncData
  F_Cursor_take_integer : Fun K "take_integer" "Cursor.take_integer" s_Cursor_take_integer f_Cursor_take_integer d_Cursor_take_integer
  b_Cursor_take_integer : Binds K d_Cursor_take_integer ["self", "least", "most"] []
  g_Cursor_take_integer : PySem.W.findIn K (.ref C_Cursor) "take_integer" = some (some (.ref f_Cursor_take_integer))
  f_Cursor_take_end : Addr
  d_Cursor_take_end : FuncData
  F_Cursor_take_end : Fun K "take_end" "Cursor.take_end" s_Cursor_take_end f_Cursor_take_end d_Cursor_take_end
  b_Cursor_take_end : Binds K d_Cursor_take_end ["self"] []
  g_Cursor_take_end : PySem.W.findIn K (.ref C_Cursor) "take_end" = some (some (.ref f_Cursor_take_end))
  f_is_token : Addr
  d_is_token : FuncData
  F_is_token : Fun K "is_token" "is_token" s_is_token f_is_token d_is_token
  b_is_token : Binds K d_is_token ["thing"] []
  g_is_token : mg "is_token" = some (.ref f_is_token)
  f_Errata_init : Addr
  d_Errata_init : FuncData
  F_Errata_init : Fun K "__init__" "Errata.__init__" s_Errata_init f_Errata_init d_Errata_init
  b_Errata_init : Binds K d_Errata_init ["self", "corrections"] []
  g_Errata_init : PySem.W.findIn K (.ref C_Errata) "__init__" = some (some (.ref f_Errata_init))
  f_turns_at_places : Addr
  d_turns_at_places : FuncData
  F_turns_at_places : Fun K "_turns_at_places" "_turns_at_places" s_turns_at_places f_turns_at_places d_turns_at_places
  b_turns_at_places : Binds K d_turns_at_places ["corrections"] []
  g_turns_at_places : mg "_turns_at_places" = some (.ref f_turns_at_places)
  f_judged_corrections : Addr
  d_judged_corrections : FuncData
  F_judged_corrections : Fun K "_judged_corrections" "_judged_corrections" s_judged_corrections f_judged_corrections d_judged_corrections
  b_judged_corrections : Binds K d_judged_corrections ["corrections"] []
  g_judged_corrections : mg "_judged_corrections" = some (.ref f_judged_corrections)
  f_kept_correction : Addr
  d_kept_correction : FuncData
  F_kept_correction : Fun K "_kept_correction" "_kept_correction" s_kept_correction f_kept_correction d_kept_correction
  b_kept_correction : Binds K d_kept_correction ["thing"] []
  g_kept_correction : mg "_kept_correction" = some (.ref f_kept_correction)
  f_read_errata : Addr
  d_read_errata : FuncData
  F_read_errata : Fun K "read_errata" "read_errata" s_read_errata f_read_errata d_read_errata
  b_read_errata : Binds K d_read_errata ["lines"] []
  g_read_errata : mg "read_errata" = some (.ref f_read_errata)
  f_read_correction : Addr
  d_read_correction : FuncData
  F_read_correction : Fun K "_read_correction" "_read_correction" s_read_correction f_read_correction d_read_correction
  b_read_correction : Binds K d_read_correction ["cursor"] []
  g_read_correction : mg "_read_correction" = some (.ref f_read_correction)
  f_take_token : Addr
  d_take_token : FuncData
  F_take_token : Fun K "_take_token" "_take_token" s_take_token f_take_token d_take_token
  b_take_token : Binds K d_take_token ["cursor"] []
  g_take_token : mg "_take_token" = some (.ref f_take_token)
  f_source : Addr
  d_source : FuncData
  F_source : Fun K "_law_source" "_law_source" s_source f_source d_source
  b_source : Binds K d_source ["_law_script", "_law_k"] []
  g_source : mg "_law_source" = some (.ref f_source)
  f_pick : Addr
  d_pick : FuncData
  F_pick : Fun K "_law_pick" "_law_pick" s_pick f_pick d_pick
  b_pick : Binds K d_pick ["_law_source_here", "_law_many"] []
  g_pick : mg "_law_pick" = some (.ref f_pick)
  f_label_word : Addr
  d_label_word : FuncData
  F_label_word : Fun K "_law_label_word" "_law_label_word" s_label_word f_label_word d_label_word
  b_label_word : Binds K d_label_word ["_law_label_here"] []
  g_label_word : mg "_law_label_word" = some (.ref f_label_word)
  f_page_word : Addr
  d_page_word : FuncData
  F_page_word : Fun K "_law_page_word" "_law_page_word" s_page_word f_page_word d_page_word
  b_page_word : Binds K d_page_word ["_law_page"] []
  g_page_word : mg "_law_page_word" = some (.ref f_page_word)
  f_law_read_label : Addr
  d_law_read_label : FuncData
  F_law_read_label : Fun K "_law_read_label" "_law_read_label" s_law_read_label f_law_read_label d_law_read_label
  b_law_read_label : Binds K d_law_read_label ["_law_word"] []
  g_law_read_label : mg "_law_read_label" = some (.ref f_law_read_label)
  f_law_read_page : Addr
  d_law_read_page : FuncData
  F_law_read_page : Fun K "_law_read_page" "_law_read_page" s_law_read_page f_law_read_page d_law_read_page
  b_law_read_page : Binds K d_law_read_page ["_law_word"] []
  g_law_read_page : mg "_law_read_page" = some (.ref f_law_read_page)
  f_token : Addr
  d_token : FuncData
  F_token : Fun K "_law_token" "_law_token" s_token f_token d_token
  b_token : Binds K d_token ["_law_source_here", "_law_most"] []
  g_token : mg "_law_token" = some (.ref f_token)
  f_other : Addr
  d_other : FuncData
  F_other : Fun K "_law_other" "_law_other" s_other f_other d_other
  b_other : Binds K d_other ["_law_token_here"] []
  g_other : mg "_law_other" = some (.ref f_other)
  f_label : Addr
  d_label : FuncData
  F_label : Fun K "_law_label" "_law_label" s_label f_label d_label
  b_label : Binds K d_label ["_law_source_here"] []
  g_label : mg "_law_label" = some (.ref f_label)
  f_line : Addr
  d_line : FuncData
  F_line : Fun K "_law_line" "_law_line" s_line f_line d_line
  b_line : Binds K d_line ["_law_source_here"] []
  g_line : mg "_law_line" = some (.ref f_line)
  f_odd_word : Addr
  d_odd_word : FuncData
  F_odd_word : Fun K "_law_odd_word" "_law_odd_word" s_odd_word f_odd_word d_odd_word
  b_odd_word : Binds K d_odd_word ["_law_source_here"] []
  g_odd_word : mg "_law_odd_word" = some (.ref f_odd_word)
  f_spoilt_words : Addr
  d_spoilt_words : FuncData
  F_spoilt_words : Fun K "_law_spoilt_words" "_law_spoilt_words" s_spoilt_words f_spoilt_words d_spoilt_words
  b_spoilt_words : Binds K d_spoilt_words ["_law_source_here", "_law_words"] []
  g_spoilt_words : mg "_law_spoilt_words" = some (.ref f_spoilt_words)
  f_spoilt : Addr
  d_spoilt : FuncData
  F_spoilt : Fun K "_law_spoilt" "_law_spoilt" s_spoilt f_spoilt d_spoilt
  b_spoilt : Binds K d_spoilt ["_law_source_here", "_law_lines"] []
  g_spoilt : mg "_law_spoilt" = some (.ref f_spoilt)
  f_number : Addr
  d_number : FuncData
  F_number : Fun K "_law_number" "_law_number" s_number f_number d_number
  b_number : Binds K d_number ["_law_word", "_law_most"] []
  g_number : mg "_law_number" = some (.ref f_number)
  f_fits : Addr
  d_fits : FuncData
  F_fits : Fun K "_law_fits" "_law_fits" s_fits f_fits d_fits
  b_fits : Binds K d_fits ["_law_place", "_law_word"] []
  g_fits : mg "_law_fits" = some (.ref f_fits)
  f_due : Addr
  d_due : FuncData
  F_due : Fun K "_law_due" "_law_due" s_due f_due d_due
  b_due : Binds K d_due ["_law_lines"] []
  g_due : mg "_law_due" = some (.ref f_due)
  f_told : Addr
  d_told : FuncData
  F_told : Fun K "_law_told" "_law_told" s_told f_told d_told
  b_told : Binds K d_told ["_law_lines"] []
  g_told : mg "_law_told" = some (.ref f_told)
  f_law : Addr
  d_law : FuncData
  F_law : Fun K "law" "law" s_law f_law d_law
  b_law : Binds K d_law ["_law_script"] []
  g_law : mg "law" = some (.ref f_law)
  cg_Errata : mg "Errata" = some (.ref C_Errata)
  cg_Cursor : mg "Cursor" = some (.ref C_Cursor)
  cg_AfterError : mg "AfterError" = some (.ref C_AfterError)
  cg_BadForm : mg "BadForm" = some (.ref C_BadForm)
  cg_BadLine : mg "BadLine" = some (.ref C_BadLine)
  cg_BadErrata : mg "BadErrata" = some (.ref C_BadErrata)
  cg_BadCorrection : mg "BadCorrection" = some (.ref C_BadCorrection)
  cg_TooMany : mg "TooMany" = some (.ref C_TooMany)
  x_BadErrata : PySem.W.excIn K C_BadErrata [.type "ValueError", .type "Exception", .type "BaseException", .type "object"] "ValueError.__new__" = true
  k_BadErrata : PySem.W.keepIn K (.ref C_BadErrata) = true
  t_BadErrata : PySem.W.typeIn K (.ref C_BadErrata) = some (.type "type")
  hg_BadLine : PySem.W.findIn K (.ref C_BadLine) "__getattribute__" = some (some (.builtin "BaseException.__getattribute__"))
  hk_BadLine : PySem.W.findIn K (.ref C_BadLine) "__getattr__" = some none
  hs_BadLine : PySem.W.subIn K (.ref C_BadLine) (.type "BaseException") = some true
  hd_BadLine : PySem.W.hasDictIn K C_BadLine = true
  ha_BadLine : PySem.W.findIn K (.ref C_BadLine) "__class__" = some (some (.builtin "object.__class__"))
  hn_BadLine : PySem.W.specialIn K (.builtin "object.__class__") "__get__" = some (some (.builtin "getset_descriptor.__get__"))
  ht_BadLine : PySem.W.takesIn K (.builtin "object.__class__") = some true
  hm_BadLine : PySem.W.mroIn K C_BadLine (.type "object") = some true
  hg_TooMany : PySem.W.findIn K (.ref C_TooMany) "__getattribute__" = some (some (.builtin "BaseException.__getattribute__"))
  hk_TooMany : PySem.W.findIn K (.ref C_TooMany) "__getattr__" = some none
  hs_TooMany : PySem.W.subIn K (.ref C_TooMany) (.type "BaseException") = some true
  hd_TooMany : PySem.W.hasDictIn K C_TooMany = true
  ha_TooMany : PySem.W.findIn K (.ref C_TooMany) "__class__" = some (some (.builtin "object.__class__"))
  hn_TooMany : PySem.W.specialIn K (.builtin "object.__class__") "__get__" = some (some (.builtin "getset_descriptor.__get__"))
  ht_TooMany : PySem.W.takesIn K (.builtin "object.__class__") = some true
  hm_TooMany : PySem.W.mroIn K C_TooMany (.type "object") = some true
  hg_BadCorrection : PySem.W.findIn K (.ref C_BadCorrection) "__getattribute__" = some (some (.builtin "BaseException.__getattribute__"))
  hk_BadCorrection : PySem.W.findIn K (.ref C_BadCorrection) "__getattr__" = some none
  hs_BadCorrection : PySem.W.subIn K (.ref C_BadCorrection) (.type "BaseException") = some true
  hd_BadCorrection : PySem.W.hasDictIn K C_BadCorrection = true
  ha_BadCorrection : PySem.W.findIn K (.ref C_BadCorrection) "__class__" = some (some (.builtin "object.__class__"))
  hn_BadCorrection : PySem.W.specialIn K (.builtin "object.__class__") "__get__" = some (some (.builtin "getset_descriptor.__get__"))
  ht_BadCorrection : PySem.W.takesIn K (.builtin "object.__class__") = some true
  hm_BadCorrection : PySem.W.mroIn K C_BadCorrection (.type "object") = some true
  hg_BadErrata : PySem.W.findIn K (.ref C_BadErrata) "__getattribute__" = some (some (.builtin "BaseException.__getattribute__"))
  hk_BadErrata : PySem.W.findIn K (.ref C_BadErrata) "__getattr__" = some none
  hs_BadErrata : PySem.W.subIn K (.ref C_BadErrata) (.type "BaseException") = some true
  hd_BadErrata : PySem.W.hasDictIn K C_BadErrata = true
  ha_BadErrata : PySem.W.findIn K (.ref C_BadErrata) "__class__" = some (some (.builtin "object.__class__"))
  hn_BadErrata : PySem.W.specialIn K (.builtin "object.__class__") "__get__" = some (some (.builtin "getset_descriptor.__get__"))
  ht_BadErrata : PySem.W.takesIn K (.builtin "object.__class__") = some true
  hm_BadErrata : PySem.W.mroIn K C_BadErrata (.type "object") = some true
  o_BadLine : OexC K C_BadLine
  n_BadLine_line : PySem.W.findIn K (.ref C_BadLine) "line" = some none
  n_BadLine_word : PySem.W.findIn K (.ref C_BadLine) "word" = some none
  i_BadLine : PySem.W.typeIn K (.ref f_BadLine_init) = some (.type "function")
  o_TooMany : OexC K C_TooMany
  n_TooMany_word : PySem.W.findIn K (.ref C_TooMany) "word" = some none
  i_TooMany : PySem.W.typeIn K (.ref f_TooMany_init) = some (.type "function")
  o_BadCorrection : OexC K C_BadCorrection
  n_BadCorrection_place : PySem.W.findIn K (.ref C_BadCorrection) "place" = some none
  i_BadCorrection : PySem.W.typeIn K (.ref f_BadCorrection_init) = some (.type "function")
  cl_Cursor : Cls K C_Cursor
  ms_Cursor : PySem.W.makesIn K C_Cursor = true
  kc_Cursor : PySem.W.keepIn K (.ref C_Cursor) = true
  ca_Cursor : PySem.W.findIn K (.ref C_Cursor) "__class__" = some (some (.builtin "object.__class__"))
  cn_Cursor : PySem.W.specialIn K (.builtin "object.__class__") "__get__" = some (some (.builtin "getset_descriptor.__get__"))
  ct_Cursor : PySem.W.takesIn K (.builtin "object.__class__") = some true
  cm_Cursor : PySem.W.mroIn K C_Cursor (.type "object") = some true
  ic_Cursor : PySem.W.isClsIn K C_Cursor = true
  tc_Cursor : PySem.W.typeIn K (.ref C_Cursor) = some (.type "type")
  na_Cursor_words : NoAttr K C_Cursor "words"
  na_Cursor_line : NoAttr K C_Cursor "line"
  na_Cursor_at : NoAttr K C_Cursor "at"
  cl_Errata : Cls K C_Errata
  ms_Errata : PySem.W.makesIn K C_Errata = true
  kc_Errata : PySem.W.keepIn K (.ref C_Errata) = true
  ca_Errata : PySem.W.findIn K (.ref C_Errata) "__class__" = some (some (.builtin "object.__class__"))
  cn_Errata : PySem.W.specialIn K (.builtin "object.__class__") "__get__" = some (some (.builtin "getset_descriptor.__get__"))
  ct_Errata : PySem.W.takesIn K (.builtin "object.__class__") = some true
  cm_Errata : PySem.W.mroIn K C_Errata (.type "object") = some true
  ic_Errata : PySem.W.isClsIn K C_Errata = true
  tc_Errata : PySem.W.typeIn K (.ref C_Errata) = some (.type "type")
  na_Errata_corrections : NoAttr K C_Errata "corrections"
  na_Errata__turns : NoAttr K C_Errata "_turns"
  fn_Cursor_init : PySem.W.isFn K (.ref f_Cursor_init) = true
  fn_Cursor_more : PySem.W.isFn K (.ref f_Cursor_more) = true
  fn_Cursor_look : PySem.W.isFn K (.ref f_Cursor_look) = true
  fn_Cursor_take : PySem.W.isFn K (.ref f_Cursor_take) = true
  fn_Cursor_take_one : PySem.W.isFn K (.ref f_Cursor_take_one) = true
  fn_Cursor_take_integer : PySem.W.isFn K (.ref f_Cursor_take_integer) = true
  fn_Cursor_take_end : PySem.W.isFn K (.ref f_Cursor_take_end) = true
  fn_Errata_init : PySem.W.isFn K (.ref f_Errata_init) = true
  q_BadLine_BadLine : PySem.W.kitOne K (.ref C_BadLine) (.ref C_BadLine) = some true
  q_BadLine_TooMany : PySem.W.kitOne K (.ref C_BadLine) (.ref C_TooMany) = some false
  q_BadLine_BadCorrection : PySem.W.kitOne K (.ref C_BadLine) (.ref C_BadCorrection) = some false
  q_BadLine_ValueError : PySem.W.kitOne K (.ref C_BadLine) (.type "ValueError") = some true
  q_BadLine_BadForm : PySem.W.kitOne K (.ref C_BadLine) (.ref C_BadForm) = some true
  q_TooMany_BadLine : PySem.W.kitOne K (.ref C_TooMany) (.ref C_BadLine) = some false
  q_TooMany_TooMany : PySem.W.kitOne K (.ref C_TooMany) (.ref C_TooMany) = some true
  q_TooMany_BadCorrection : PySem.W.kitOne K (.ref C_TooMany) (.ref C_BadCorrection) = some false
  q_TooMany_ValueError : PySem.W.kitOne K (.ref C_TooMany) (.type "ValueError") = some true
  q_TooMany_BadForm : PySem.W.kitOne K (.ref C_TooMany) (.ref C_BadForm) = some false
  q_BadCorrection_BadLine : PySem.W.kitOne K (.ref C_BadCorrection) (.ref C_BadLine) = some false
  q_BadCorrection_TooMany : PySem.W.kitOne K (.ref C_BadCorrection) (.ref C_TooMany) = some false
  q_BadCorrection_BadCorrection : PySem.W.kitOne K (.ref C_BadCorrection) (.ref C_BadCorrection) = some true
  q_BadCorrection_ValueError : PySem.W.kitOne K (.ref C_BadCorrection) (.type "ValueError") = some true
  q_BadCorrection_BadForm : PySem.W.kitOne K (.ref C_BadCorrection) (.ref C_BadForm) = some true
  e_BadLine_AfterError : PySem.W.exmOne K (.ref C_BadLine) (.ref C_AfterError) = some true
  e_TooMany_AfterError : PySem.W.exmOne K (.ref C_TooMany) (.ref C_AfterError) = some true
  e_BadCorrection_AfterError : PySem.W.exmOne K (.ref C_BadCorrection) (.ref C_AfterError) = some true
  t_DIGITS : Tok
  c_DIGITS : mg "DIGITS" = some (.str "0123456789" t_DIGITS)
  t_MOST_CORRECTIONS : Tok
  c_MOST_CORRECTIONS : mg "MOST_CORRECTIONS" = some (.int 60 t_MOST_CORRECTIONS)
  t_MOST_PARTS : Tok
  c_MOST_PARTS : mg "MOST_PARTS" = some (.int 3 t_MOST_PARTS)
  t_MOST_ROWS : Tok
  c_MOST_ROWS : mg "MOST_ROWS" = some (.int 12 t_MOST_ROWS)
  t_MOST_SIGNS : Tok
  c_MOST_SIGNS : mg "MOST_SIGNS" = some (.int 20 t_MOST_SIGNS)
  t_MOST_TOKENS : Tok
  c_MOST_TOKENS : mg "MOST_TOKENS" = some (.int 30 t_MOST_TOKENS)
  t_SIDES : Tok
  c_SIDES : mg "SIDES" = some (.str "ab" t_SIDES)
  m_ValueError : mg "ValueError" = none
  m_abs : mg "abs" = none
  m_all : mg "all" = none
  m_bool : mg "bool" = none
  m_enumerate : mg "enumerate" = none
  m_int : mg "int" = none
  m_isinstance : mg "isinstance" = none
  m_len : mg "len" = none
  m_list : mg "list" = none
  m_range : mg "range" = none
  m_repr : mg "repr" = none
  m_str : mg "str" = none
  m_sum : mg "sum" = none
  m_tuple : mg "tuple" = none
/-! ### heaps and sources -/
theorem un2 {k : Nat} {A : Around} (r : Room k A) : A.units + 65 < cLine := by have := r.un; omega
theorem same_upd {H : Hp} {p : Addr} {o : HO} (h : H p = none) : Same H (upd H p o) := fun b x e => by
  rw [upd_ne (ne_of_none e h)]
  exact e
/-- all but a stand as they stood -/
def But (a : Addr) (H H' : Hp) : Prop := ∀ b o, b ≠ a → H b = some o → H' b = some o
theorem But.refl (a : Addr) (H : Hp) : But a H H := fun _ _ _ e => e
theorem But.trans {a : Addr} {H H1 H2 : Hp} (x : But a H H1) (y : But a H1 H2) : But a H H2 := fun b o n e => y b o n (x b o n e)
theorem But.of {a : Addr} {H H1 : Hp} (x : Same H H1) : But a H H1 := fun b o _ e => x b o e
theorem But.upd {a : Addr} {H : Hp} (o : HO) : But a H (upd H a o) := fun b u n e => by
  rw [upd_ne n]
  exact e
/-- what changes is not there at first -/
theorem But.same {a : Addr} {H0 H H' : Hp} (n : H0 a = none) (s : Same H0 H) (x : But a H H') : Same H0 H' := fun b o e => x b o (ne_of_none e n) (s b o e)
/-- a source of numbers: three ints -/
def Src (H : Hp) (a : Addr) : Prop := ∃ g x c : Int, H a = some (.lst [.int g, .int x, .int c])
theorem cut_map (ns : List Int) (lo hi : Option Int) : ∃ ms : List Int, cutV (ns.map V.int) lo hi = ms.map V.int := by
  unfold cutV
  exact ⟨_, by rw [← List.map_drop, ← List.map_take]⟩
theorem at_of' {α : Type} {xs : List α} {z : Int} {j : Nat} {v : α} (e : z = (j : Int)) (h : xs[j]? = some v) : atI xs z = some v := by
  subst e
  exact atI_nat h
theorem str_len_snoc (z : Str) (c : Nat) : (z ++ (⟨#[c]⟩ : Str)).length = z.length + 1 := by
  show (z.cps ++ #[c]).size = z.cps.size + 1
  rw [Array.size_append]
  rfl
theorem But.none {a D : Addr} {H H3 : Hp} (x : But a H H3) (n : H3 D = .none) (h : D ≠ a) : H D = .none := by
  cases e : H D with
  | none => rfl
  | some o =>
    rw [x D o h e] at n
    cases n
theorem But.put {a D : Addr} {H H' : Hp} (x : But a H H') (n : H D = .none) (o : HO) : But a H (L2.upd H' D o) := fun b u nb e => by
  rw [upd_ne (ne_of_none e n)]
  exact x b u nb e
theorem Src.put {a D : Addr} {H : Hp} (x : Src H a) (n : a ≠ D) (o : HO) : Src (upd H D o) a := by
  obtain ⟨g, y, c, e⟩ := x
  exact ⟨g, y, c, by rw [upd_ne n]; exact e⟩
theorem Src.ne {a D : Addr} {H : Hp} (x : Src H a) (n : H D = .none) : a ≠ D := by
  obtain ⟨g, y, c, e⟩ := x
  exact ne_of_none e n
theorem get_map {xs : List Str} {i : Nat} {x : V} (h : (xs.map V.str)[i]? = some x) : ∃ z, x = .str z ∧ xs[i]? = some z := by
  rw [List.getElem?_map] at h
  cases e : xs[i]? with
  | none => rw [e] at h; cases h
  | some z => rw [e] at h; exact ⟨z, (Option.some.inj h).symm, rfl⟩
theorem get_mapR {xs : List Addr} {i : Nat} {x : V} (h : (xs.map V.ref)[i]? = some x) : ∃ z, x = .ref z ∧ z ∈ xs := by
  rw [List.getElem?_map] at h
  cases e : xs[i]? with
  | none => rw [e] at h; cases h
  | some z => rw [e] at h; exact ⟨z, (Option.some.inj h).symm, List.mem_of_getElem? e⟩
section
variable {X : Cx} {tg e : Expr} {w1 w2 : TI}
theorem pi_or (a : PI X tg e w1) (b : PI X tg e w2) : PI X tg e (fun σ H R => w1 σ H R ∨ w2 σ H R) :=
  ⟨fun pins s σ H R I h => h.elim (fun h => a.run pins s σ H R I h) (fun h => b.run pins s σ H R I h)⟩
theorem op_rep_str : OpR X (binaryOp .Mult) (fun x y H Q => ∃ z n, x = .str z ∧ y = .int n ∧ PySem.MulOk z n ∧ Q (.str (Txt.mul z n)) H) := by
  intro pins s σ H x y v u Q I rx ry h
  obtain ⟨z, n, rfl, rfl, hm, q⟩ := h
  obtain ⟨t, rfl⟩ := rx
  obtain ⟨t', rfl⟩ := ry
  exact PySem.SB.mul hm (fun t' tk => ⟨.str _, H, I.tok _, ⟨_, rfl⟩, q⟩)
end
theorem eq_strs {K : PySem.W.Frag} {H : Hp} : ∀ zs : List Str, Paired (EqV K H 1) (zs.map V.str) (zs.map V.str)
  | [] => .nil
  | z :: r => .cons (.inl ⟨rfl, rfl⟩) (eq_strs r)
theorem same_seqT {K : PySem.W.Frag} {H H' : Hp} {a : Addr} {xs : List V} (e : Same H H') (h : SqT K H a xs) : SqT K H' a xs :=
  h.elim (fun r => .inl (r.elim (fun e1 => .inl (e _ _ e1)) (fun ⟨o, e1⟩ => .inr ⟨o, e _ _ e1⟩))) .inr
theorem same_sq {K : PySem.W.Frag} {H H' : Hp} {a : Addr} {xs : List V} (e : Same H H') (h : SqL K H a xs ∨ SqT K H a xs) : SqL K H' a xs ∨ SqT K H' a xs :=
  h.elim (fun h => .inl (e.seq h)) (fun h => .inr (same_seqT e h))
theorem same_put {H H' : Hp} {b : Addr} (x : Same H H') (n : H b = .none) (o : HO) : Same H (upd H' b o) := fun c u e => by
  rw [upd_ne (ne_of_none e n)]
  exact x c u e
/-! ### == of rows of texts and of numbers -/
theorem dp_strs {K : PySem.W.Frag} {H : Hp} : ∀ zs : List Str, DpAll K H (zs.map V.str) (zs.map PyData.str)
  | [] => .nil
  | z :: r => .cons (.str z) (dp_strs r)
theorem dp_ints {K : PySem.W.Frag} {H : Hp} : ∀ zs : List Int, DpAll K H (zs.map V.int) (zs.map PyData.int)
  | [] => .nil
  | z :: r => .cons (.int z) (dp_ints r)
theorem can_strs : ∀ zs : List Str, (∀ z ∈ zs, PyData.strOk z = true) → PyData.canLayAll0 (zs.map PyData.str) = true
  | [], _ => rfl
  | z :: r, h => by
    show (PyData.strOk z && PyData.canLayAll0 (r.map PyData.str)) = true
    rw [can_strs r fun y hy => h y (List.mem_cons_of_mem _ hy), Bool.and_true]
    exact h z (List.mem_cons_self ..)
theorem can_ints : ∀ zs : List Int, PyData.canLayAll0 (zs.map PyData.int) = true
  | [] => rfl
  | z :: r => by
    show (true && PyData.canLayAll0 (r.map PyData.int)) = true
    rw [can_ints r]
    rfl
theorem depth_strs : ∀ zs : List Str, PyData.depthAll (zs.map PyData.str) = 0
  | [] => rfl
  | z :: r => by
    show max 0 (PyData.depthAll (r.map PyData.str)) = 0
    rw [depth_strs r]
    rfl
theorem depth_ints : ∀ zs : List Int, PyData.depthAll (zs.map PyData.int) = 0
  | [] => rfl
  | z :: r => by
    show max 0 (PyData.depthAll (r.map PyData.int)) = 0
    rw [depth_ints r]
    rfl
theorem shaped_l (zs : List Str) (h : ∀ z ∈ zs, PyData.strOk z = true) : SeqAt.shaped (.list (zs.map PyData.str)) = true := by
  unfold SeqAt.shaped
  rw [Bool.and_eq_true]
  refine ⟨can_strs zs h, decide_eq_true ?_⟩
  show PyData.depthAll (zs.map PyData.str) + 1 ≤ 64
  rw [depth_strs]
  decide
theorem shaped_t (zs : List Str) (h : ∀ z ∈ zs, PyData.strOk z = true) : SeqAt.shaped (.tuple (zs.map PyData.str)) = true := by
  unfold SeqAt.shaped
  rw [Bool.and_eq_true]
  refine ⟨can_strs zs h, decide_eq_true ?_⟩
  show PyData.depthAll (zs.map PyData.str) + 1 ≤ 64
  rw [depth_strs]
  decide
theorem shaped_il (zs : List Int) : SeqAt.shaped (.list (zs.map PyData.int)) = true := by
  unfold SeqAt.shaped
  rw [Bool.and_eq_true]
  refine ⟨can_ints zs, decide_eq_true ?_⟩
  show PyData.depthAll (zs.map PyData.int) + 1 ≤ 64
  rw [depth_ints]
  decide
theorem shaped_it (zs : List Int) : SeqAt.shaped (.tuple (zs.map PyData.int)) = true := by
  unfold SeqAt.shaped
  rw [Bool.and_eq_true]
  refine ⟨can_ints zs, decide_eq_true ?_⟩
  show PyData.depthAll (zs.map PyData.int) + 1 ≤ 64
  rw [depth_ints]
  decide
theorem eqv_strs : ∀ xs ys : List Str, PyData.eqvAll (xs.map PyData.str) (ys.map PyData.str) = decide (xs = ys)
  | [], [] => rfl
  | [], y :: s => rfl
  | x :: r, [] => rfl
  | x :: r, y :: s => by
    show ((x == y) && PyData.eqvAll (r.map PyData.str) (s.map PyData.str)) = decide (x :: r = y :: s)
    rw [eqv_strs r s]
    by_cases h : x = y
    · subst h
      simp
    · simp [h]
theorem eqv_ints : ∀ xs ys : List Int, PyData.eqvAll (xs.map PyData.int) (ys.map PyData.int) = decide (xs = ys)
  | [], [] => rfl
  | [], y :: s => rfl
  | x :: r, [] => rfl
  | x :: r, y :: s => by
    show ((x == y) && PyData.eqvAll (r.map PyData.int) (s.map PyData.int)) = decide (x :: r = y :: s)
    rw [eqv_ints r s]
    by_cases h : x = y
    · subst h
      simp
    · simp [h]
theorem ok_app (a b : Str) (ha : PyData.strOk a = true) (hb : PyData.strOk b = true) : PyData.strOk (a ++ b) = true := by
  show (a.cps ++ b.cps).all (· < 0x110000) = true
  rw [Array.all_append]
  exact Bool.and_eq_true_iff.mpr ⟨ha, hb⟩
/-! ### labels, pages, ranges as words -/
def rdN : List Nat → Option Int
  | [a] => if 48 ≤ a ∧ a ≤ 57 then some ((a : Int) - 48) else none
  | [a, b] => if (48 < a ∧ a ≤ 57) ∧ (48 ≤ b ∧ b ≤ 57) then some (((a : Int) - 48) * 10 + ((b : Int) - 48)) else none
  | _ => none
def rdI (z : Str) : Option Int := rdN z.cps.toList
def allSome : List (Option Int) → Option (List Int)
  | [] => some []
  | none :: _ => none
  | some i :: r => match allSome r with | some L => some (i :: L) | none => none
def keep (os : List (Option Int)) : Option (List Int) :=
  match allSome os with
  | some L => if L.length ≤ 3 ∧ L.getLastD 0 ≠ 0 then some L else none
  | none => none
def rdL (z : Str) : Option (List Int) := keep ((Txt.split z ".").map rdI)
abbrev Pg := List Int × Int
def rdP (z : Str) : Option Pg :=
  match z.cps.toList.getLast? with
  | some c => if c = 97 ∨ c = 98 then (match rdL (cutS z none (some (-1))) with | some L => some (L, (c : Int) - 97) | none => none) else none
  | none => none
def rdR (z : Str) : Option (Pg × Pg) :=
  match (Txt.split z "-").map rdP with
  | [some p] => some (p, p)
  | [some p, some q] => some (p, q)
  | _ => none
def rdR2 : List (Option Pg) → Option (Pg × Pg)
  | [some p] => some (p, p)
  | [some p, some q] => some (p, q)
  | _ => none
theorem rdR_eq (z : Str) : rdR z = rdR2 ((Txt.split z "-").map rdP) := by
  unfold rdR
  generalize (Txt.split z "-").map rdP = ps
  match ps with
  | [] => rfl
  | [none] => rfl
  | [some p] => rfl
  | [none, b] => rfl
  | [some p, none] => rfl
  | [some p, some q] => rfl
  | none :: b :: c :: r => rfl
  | some a :: none :: c :: r => rfl
  | some a :: some b :: c :: r => rfl
def okL (L : List Int) : Prop := L.length ≤ 3 ∧ L.getLastD 0 ≠ 0 ∧ ∀ i ∈ L, 0 ≤ i ∧ i ≤ 99
def okP (p : Pg) : Prop := okL p.1 ∧ (p.2 = 0 ∨ p.2 = 1)
def fL (L : List Int) : Str := Txt.join "." (L.map fun i => (toString i : Str))
def fP (p : Pg) : Str := fL p.1 ++ (if p.2 = 0 then ("a" : Str) else "b")
def fR (p q : Pg) : Str := if fP p = fP q then fP p else fP p ++ "-" ++ fP q
def dL (L : List Int) : PyData := .tuple (L.map PyData.int)
def dP (p : Pg) : PyData := .tuple [dL p.1, .int p.2]
def dR (r : Pg × Pg) : PyData := .tuple [dP r.1, dP r.2]
def oD {α : Type} (f : α → PyData) : Option α → PyData
  | none => .none
  | some x => f x
def optI : Option Int → V
  | none => .non
  | some i => .int i
theorem num_all : ((List.range 100).all fun i => decide (((toString (i : Int) : Str)).length ≤ 2) && decide (1 ≤ ((toString (i : Int) : Str)).length) && ((toString (i : Int) : Str)).cps.toList.all (fun c => decide (48 ≤ c ∧ c ≤ 57)) && decide (rdI (toString (i : Int)) = some (i : Int))) = true := by decide +kernel
theorem num_ok {i : Int} (h0 : 0 ≤ i) (h1 : i ≤ 99) : ((toString i : Str)).length ≤ 2 ∧ 1 ≤ ((toString i : Str)).length ∧ (∀ c ∈ ((toString i : Str)).cps.toList, 48 ≤ c ∧ c ≤ 57) ∧ rdI (toString i) = some i := by
  have h := List.all_eq_true.mp num_all i.toNat (List.mem_range.mpr (by omega))
  rw [Int.toNat_of_nonneg h0] at h
  simp only [Bool.and_eq_true, decide_eq_true_eq, List.all_eq_true] at h
  exact ⟨h.1.1.1, h.1.1.2, h.1.2, h.2⟩
theorem int_all : ((List.range 10).all fun i => decide (PySem.intText? (⟨#[48 + i]⟩ : Str) = some (i : Int)) && (List.range 10).all fun j => decide (PySem.intText? (⟨#[48 + i, 48 + j]⟩ : Str) = some ((i : Int) * 10 + (j : Int)))) = true := by decide +kernel
theorem int1 {a : Nat} (h : 48 ≤ a ∧ a ≤ 57) : PySem.intText? (⟨#[a]⟩ : Str) = some ((a : Int) - 48) := by
  have h1 := List.all_eq_true.mp int_all (a - 48) (List.mem_range.mpr (by omega))
  simp only [Bool.and_eq_true, decide_eq_true_eq] at h1
  have h2 := h1.1
  rw [show 48 + (a - 48) = a by omega] at h2
  rw [h2]
  congr 1
  omega
theorem int2 {a b : Nat} (h : 48 ≤ a ∧ a ≤ 57) (hb : 48 ≤ b ∧ b ≤ 57) : PySem.intText? (⟨#[a, b]⟩ : Str) = some (((a : Int) - 48) * 10 + ((b : Int) - 48)) := by
  have h1 := List.all_eq_true.mp int_all (a - 48) (List.mem_range.mpr (by omega))
  simp only [Bool.and_eq_true, decide_eq_true_eq] at h1
  have h2 := List.all_eq_true.mp h1.2 (b - 48) (List.mem_range.mpr (by omega))
  simp only [decide_eq_true_eq] at h2
  rw [show 48 + (a - 48) = a by omega, show 48 + (b - 48) = b by omega] at h2
  rw [h2]
  congr 1
  omega
theorem rd_bound {z : Str} {i : Int} (h : rdI z = some i) : 0 ≤ i ∧ i ≤ 99 := by
  unfold rdI at h
  match e : z.cps.toList with
  | [] => rw [e] at h; cases h
  | [a] =>
    rw [e] at h
    simp only [rdN] at h
    split at h
    · injection h with h; omega
    · cases h
  | [a, b] =>
    rw [e] at h
    simp only [rdN] at h
    split at h
    · injection h with h; omega
    · cases h
  | a :: b :: c :: r => rw [e] at h; cases h
theorem allSome_map (L : List Int) : allSome (L.map some) = some L := by
  induction L with
  | nil => rfl
  | cons i r ih => rw [List.map_cons]; unfold allSome; rw [ih]
theorem keep_ok {L : List Int} (h : okL L) : keep (L.map some) = some L := by
  unfold keep
  rw [allSome_map]
  simp only
  rw [if_pos ⟨h.1, h.2.1⟩]
theorem okL_ne {L : List Int} (h : okL L) : L ≠ [] := fun e => by
  subst e
  exact h.2.1 rfl
theorem rdL_fL {L : List Int} (h : okL L) : rdL (fL L) = some L := by
  unfold rdL fL
  rw [TL.split_join (s := 46) (S := []) (by rfl) (by decide +kernel) (fun e => okL_ne h (List.map_eq_nil_iff.mp e)) fun p hp => ?_]
  · rw [List.map_map]
    have e : L.map (rdI ∘ fun i => (toString i : Str)) = L.map some := List.map_congr_left fun i hi => (num_ok (h.2.2 i hi).1 (h.2.2 i hi).2).2.2.2
    rw [e, keep_ok h]
  · obtain ⟨i, hi, rfl⟩ := List.mem_map.mp hp
    intro hc
    have := (num_ok (h.2.2 i hi).1 (h.2.2 i hi).2).2.2.1 46 hc
    omega
theorem cut_m1 (z : Str) (c : Nat) : cutS (z ++ (⟨#[c]⟩ : Str)) none (some (-1)) = z := by
  unfold cutS
  have e : (z ++ (⟨#[c]⟩ : Str)).cps.toList = z.cps.toList ++ [c] := cps_toList_append z _
  have l : (z ++ (⟨#[c]⟩ : Str)).length = z.length + 1 := str_len_snoc z c
  rw [e, HT.sIx_none, List.drop_zero, l]
  rw [show HT.sIx (z.length + 1) (z.length + 1) (some (-1)) = z.length by
    show ((-1 : Int) + ((z.length + 1 : Nat) : Int)).toNat = z.length
    omega]
  rw [Nat.sub_zero, List.take_left' (show z.cps.toList.length = z.length from rfl)]
theorem rdP_fP {p : Pg} (h : okP p) : rdP (fP p) = some p := by
  obtain ⟨L, s⟩ := p
  obtain ⟨hL, hs⟩ := h
  have key : ∀ c : Nat, rdP (fL L ++ (⟨#[c]⟩ : Str)) = if c = 97 ∨ c = 98 then some (L, (c : Int) - 97) else none := fun c => by
    unfold rdP
    rw [show (fL L ++ (⟨#[c]⟩ : Str)).cps.toList = (fL L).cps.toList ++ [c] from cps_toList_append _ _, List.getLast?_append, cut_m1, rdL_fL hL]
    rfl
  rcases hs with rfl | rfl
  · exact key 97
  · exact key 98
theorem fP_inj {p q : Pg} (hp : okP p) (hq : okP q) (e : fP p = fP q) : p = q := by
  have h := rdP_fP hp
  rw [e, rdP_fP hq] at h
  exact (Option.some.inj h).symm
theorem fL_free {L : List Int} (h : okL L) : ∀ c ∈ (fL L).cps.toList, c ≠ 45 := by
  intro c hc e
  subst e
  unfold fL at hc
  rw [TL.join_eq] at hc
  rcases (mem_join _ _ _).mp hc with ⟨t, ht, h1⟩ | ⟨_, h1⟩
  · obtain ⟨i, hi, rfl⟩ := List.mem_map.mp ht
    have := (num_ok (h.2.2 i hi).1 (h.2.2 i hi).2).2.2.1 45 h1
    omega
  · revert h1
    decide +kernel
theorem fP_free {p : Pg} (h : okP p) : 45 ∉ TL.tl (fP p) := by
  intro hc
  have hc2 : 45 ∈ (fP p).cps.toList := hc
  unfold fP at hc2
  rw [cps_toList_append] at hc2
  rcases List.mem_append.mp hc2 with h1 | h1
  · exact fL_free h.1 45 h1 rfl
  · split at h1 <;> (revert h1; decide +kernel)
theorem rdR_two {p q : Pg} (hp : okP p) (hq : okP q) : rdR (fP p ++ "-" ++ fP q) = some (p, q) := by
  unfold rdR
  have e : fP p ++ "-" ++ fP q = Txt.join "-" [fP p, fP q] := by rw [TL.join_eq]; rfl
  rw [e, TL.split_join (s := 45) (S := []) (by rfl) (by decide +kernel) (by simp) fun z hz => ?_]
  · simp only [List.map_cons, List.map_nil, rdP_fP hp, rdP_fP hq]
  · rcases List.mem_cons.mp hz with h | h
    · rw [h]; exact fP_free hp
    · rw [List.mem_singleton.mp h]; exact fP_free hq
theorem rdR_one {p : Pg} (hp : okP p) : rdR (fP p) = some (p, p) := by
  unfold rdR
  have e : fP p = Txt.join "-" [fP p] := by rw [TL.join_eq]; rfl
  rw [e, TL.split_join (s := 45) (S := []) (by rfl) (by decide +kernel) (by simp) fun z hz => ?_]
  · simp only [List.map_cons, List.map_nil]
    rw [rdP_fP hp]
  · rw [List.mem_singleton.mp hz]; exact fP_free hp
theorem rdR_fR {p q : Pg} (hp : okP p) (hq : okP q) : rdR (fR p q) = some (p, q) := by
  unfold fR
  split
  · rename_i e
    rw [← fP_inj hp hq e]
    exact rdR_one hp
  · exact rdR_two hp hq
theorem fL_len {L : List Int} (h : okL L) : (fL L).length ≤ 8 ∧ 1 ≤ (fL L).length := by
  have hn := okL_ne h
  have l1 : ("." : Str).length = 1 := by decide +kernel
  have ap : ∀ x y : Str, (x ++ y).length = x.length + y.length := fun x y => by
    show (x.cps ++ y.cps).size = _
    rw [Array.size_append]; rfl
  have nn := fun i hi => num_ok (h.2.2 i hi).1 (h.2.2 i hi).2
  unfold fL
  rw [TL.join_eq]
  match L, h, hn, nn with
  | [a], _, _, nn =>
    have := nn a (List.mem_singleton.mpr rfl)
    show ((toString a : Str)).length ≤ 8 ∧ 1 ≤ ((toString a : Str)).length
    omega
  | [a, b], _, _, nn =>
    have h1 := nn a (by simp)
    have h2 := nn b (by simp)
    show ((toString a : Str) ++ "." ++ (toString b : Str)).length ≤ 8 ∧ 1 ≤ ((toString a : Str) ++ "." ++ (toString b : Str)).length
    rw [ap, ap, l1]
    omega
  | [a, b, c], _, _, nn =>
    have h1 := nn a (by simp)
    have h2 := nn b (by simp)
    have h3 := nn c (by simp)
    show ((toString a : Str) ++ "." ++ ((toString b : Str) ++ "." ++ (toString c : Str))).length ≤ 8 ∧ 1 ≤ ((toString a : Str) ++ "." ++ ((toString b : Str) ++ "." ++ (toString c : Str))).length
    rw [ap, ap, ap, ap, l1]
    omega
  | a :: b :: c :: d :: r, h, _, _ => have := h.1; simp only [List.length_cons] at this; omega
theorem fP_len {p : Pg} (h : okP p) : (fP p).length ≤ 9 ∧ 2 ≤ (fP p).length := by
  have h1 := fL_len h.1
  have ap : ∀ x y : Str, (x ++ y).length = x.length + y.length := fun x y => by
    show (x.cps ++ y.cps).size = _
    rw [Array.size_append]; rfl
  unfold fP
  rw [ap]
  have : (if p.2 = 0 then ("a" : Str) else "b").length = 1 := by split <;> decide +kernel
  omega
/-! ### data in the heap -/
def Seq (K : PySem.W.Frag) (H : Hp) (a : Addr) (xs : List V) : Prop := SqL K H a xs ∨ SqT K H a xs
def PageAt (K : PySem.W.Frag) (H : Hp) (v : V) (p : Pg) : Prop := ∃ a l : Addr, v = .ref a ∧ Seq K H a [.ref l, .int p.2] ∧ Seq K H l (p.1.map V.int)
theorem ty_L {K : PySem.W.Frag} {H : Hp} {a : Addr} {xs : List V} (h : SqL K H a xs) : TyX K H (.ref a) (.type "list") := by
  rcases h with (h | ⟨o, h⟩) | ⟨o, its, n, h, c, _⟩
  · exact .base (.lst h)
  · exact .base (.frz h)
  · exact .kList h c
theorem ty_T {K : PySem.W.Frag} {H : Hp} {a : Addr} {xs : List V} (h : SqT K H a xs) : TyX K H (.ref a) (.type "tuple") := by
  rcases h with (h | ⟨o, h⟩) | ⟨o, its, n, h, c, _⟩
  · exact .base (.tup h)
  · exact .fTuple h
  · exact .kTuple h c
theorem kit2_T {K : PySem.W.Frag} : PySem.W.kitAny K (.type "tuple") [.type "tuple", .type "list"] = some true :=
  kitAny_cons (kit_ty (r := true) (by decide +kernel)) (fun h => nomatch h) (fun _ => rfl)
theorem kit2_L {K : PySem.W.Frag} : PySem.W.kitAny K (.type "list") [.type "tuple", .type "list"] = some true :=
  kitAny_cons (kit_ty (r := false) (by decide +kernel)) (fun _ => kitAny_cons (kit_ty (r := true) (by decide +kernel)) (fun h => nomatch h) (fun _ => rfl)) (fun h => nomatch h)
mutual
theorem dp_same {K : PySem.W.Frag} {H H' : Hp} (e : Same H H') : ∀ {v : V} {d : PyData}, Dp K H v d → Dp K H' v d
  | _, _, .non => .non
  | _, _, .bl b => .bl b
  | _, _, .int i => .int i
  | _, _, .str x => .str x
  | _, _, .lst h a => .lst (e.seq h) (dpAll_same e a)
  | _, _, .tup h a => .tup (same_seqT e h) (dpAll_same e a)
theorem dpAll_same {K : PySem.W.Frag} {H H' : Hp} (e : Same H H') : ∀ {vs : List V} {ds : List PyData}, DpAll K H vs ds → DpAll K H' vs ds
  | _, _, .nil => .nil
  | _, _, .cons h a => .cons (dp_same e h) (dpAll_same e a)
end
theorem dpL {K : PySem.W.Frag} {H : Hp} {a : Addr} {L : List Int} (h : SqT K H a (L.map V.int)) : Dp K H (.ref a) (dL L) := .tup h (dp_ints L)
theorem dp_ints_inv {K : PySem.W.Frag} {H : Hp} : ∀ {L : List Int} {vs : List V}, DpAll K H vs (L.map PyData.int) → vs = L.map V.int
  | [], _, .nil => rfl
  | i :: r, _, .cons h a => by
    cases h
    rw [dp_ints_inv a]
    rfl
theorem dL_inv {K : PySem.W.Frag} {H : Hp} {v : V} {L : List Int} (h : Dp K H v (dL L)) : ∃ a, v = .ref a ∧ SqT K H a (L.map V.int) := by
  cases h with
  | tup h a =>
    rw [dp_ints_inv a] at h
    exact ⟨_, rfl, h⟩
theorem dP_inv {K : PySem.W.Frag} {H : Hp} {v : V} {p : Pg} (h : Dp K H v (dP p)) : ∃ a l, v = .ref a ∧ SqT K H a [.ref l, .int p.2] ∧ SqT K H l (p.1.map V.int) := by
  cases h with
  | tup h a =>
    cases a with
    | cons h1 a =>
      cases a with
      | cons h2 a =>
        cases a
        cases h2
        obtain ⟨l, rfl, hl⟩ := dL_inv h1
        exact ⟨_, l, rfl, h, hl⟩
theorem dR_inv {K : PySem.W.Frag} {H : Hp} {v : V} {r : Pg × Pg} (h : Dp K H v (dR r)) : ∃ a x y, v = .ref a ∧ SqT K H a [x, y] ∧ Dp K H x (dP r.1) ∧ Dp K H y (dP r.2) := by
  cases h with
  | tup h a =>
    cases a with
    | cons h1 a =>
      cases a with
      | cons h2 a =>
        cases a
        exact ⟨_, _, _, rfl, h, h1, h2⟩
theorem pageAt_of {K : PySem.W.Frag} {H : Hp} {v : V} {p : Pg} (h : Dp K H v (dP p)) : PageAt K H v p := by
  obtain ⟨a, l, rfl, h1, h2⟩ := dP_inv h
  exact ⟨a, l, rfl, .inr h1, .inr h2⟩
theorem pageAt_same {K : PySem.W.Frag} {H H' : Hp} (e : Same H H') {v : V} {p : Pg} (h : PageAt K H v p) : PageAt K H' v p := by
  obtain ⟨a, l, rfl, h1, h2⟩ := h
  exact ⟨a, l, rfl, same_sq e h1, same_sq e h2⟩
theorem dp_opt {K : PySem.W.Frag} {H : Hp} {v : V} {α : Type} {f : α → PyData} (h : Dp K H v (oD f none)) : v = .non := by
  cases h
  rfl
theorem log_small {n : Nat} (h : n ≤ 99) : n.log2 < 1920 := Nat.lt_of_le_of_lt (Nat.log2_le_self n) (by omega)
section
variable {X : Cx} {e : Expr} {t u : TG}
theorem pg_or (a : PG X e t) (b : PG X e u) : PG X e (fun v σ H Q => t v σ H Q ∨ u v σ H Q) :=
  ⟨fun pins s σ H v w Q I r h => h.elim (fun h => a.run pins s σ H v w Q I r h) (fun h => b.run pins s σ H v w Q I r h)⟩
end
def dg (c : Nat) : Bool := decide (48 ≤ c ∧ c ≤ 57)
theorem dig_in (c : Nat) : decide (c ∈ ("0123456789" : Str).cps.toList) = dg c := by
  have e : ("0123456789" : Str).cps.toList = [48, 49, 50, 51, 52, 53, 54, 55, 56, 57] := by decide +kernel
  unfold dg
  rw [e]
  apply decide_eq_decide.mpr
  simp only [List.mem_cons, List.not_mem_nil, or_false]
  omega
theorem str1 {z : Str} {a : Nat} (h : z.cps.toList = [a]) : z = ⟨#[a]⟩ := TL.ext_tl h
theorem str2 {z : Str} {a b : Nat} (h : z.cps.toList = [a, b]) : z = ⟨#[a, b]⟩ := TL.ext_tl h
theorem len_cps (z : Str) : z.length = z.cps.toList.length := rfl
theorem zero_ne2 (a b : Nat) : (V.str ⟨#[a, b]⟩ = V.str "0") = False := by
  apply propext
  refine ⟨fun h => ?_, False.elim⟩
  injection h with h
  have := congrArg (fun s : Str => s.cps.size) h
  cases this
theorem zero_eq1 (a : Nat) : (V.str ⟨#[a]⟩ = V.str "0") = (a = 48) := by
  apply propext
  refine ⟨fun h => ?_, fun h => by subst h; rfl⟩
  injection h with h
  injection h with h
  exact (List.cons.inj (congrArg Array.toList h)).1
theorem split_cnt (x y : Str) (hy : 1 ≤ y.length) : (Txt.split x y).length ≤ x.length + 1 := by
  have := split_weight x y hy
  omega
theorem mem_sum {zs : List Str} {z : Str} (h : z ∈ zs) : z.length + zs.length ≤ (zs.map (·.length)).sum + zs.length := by
  have : z.length ≤ (zs.map (·.length)).sum := by
    induction zs with
    | nil => cases h
    | cons y r ih =>
      rw [List.map_cons, List.sum_cons]
      rcases List.mem_cons.mp h with e | e
      · rw [e]; omega
      · have := ih e; omega
  omega
theorem split_part (x y : Str) (hy : 1 ≤ y.length) {z : Str} (h : z ∈ Txt.split x y) : z.length ≤ x.length := by
  have h1 := split_weight x y hy
  have h2 := mem_sum h
  have h3 : 1 ≤ (Txt.split x y).length := List.length_pos_of_mem h
  omega
theorem rdI_some {os : List Str} {i : Int} (h : some i ∈ os.map rdI) : 0 ≤ i ∧ i ≤ 99 := by
  obtain ⟨z, _, e⟩ := List.mem_map.mp h
  exact rd_bound e
theorem some_bound {L : List Int} (h : okL L) {i : Int} (hi : some i ∈ L.map some) : 0 ≤ i ∧ i ≤ 99 := by
  obtain ⟨j, hj, e⟩ := List.mem_map.mp hi
  injection e with e
  subst e
  exact h.2.2 _ hj
theorem optI_map (L : List Int) : (L.map some).map optI = L.map V.int := by
  rw [List.map_map]
  rfl
theorem num_fit {L : List Int} (h : okL L) : ((L.map fun i => (toString i : Str)).map (·.length)).sum + (L.map fun i => (toString i : Str)).length * ("." : Str).length ≤ 16777216 := by
  have l1 : ("." : Str).length = 1 := by decide +kernel
  have h1 : ((L.map fun i => (toString i : Str)).map (·.length)).sum ≤ 2 * L.length := by
    have hb := h.2.2
    clear h
    induction L with
    | nil => exact Nat.le_refl _
    | cons i r ih =>
      have hi := num_ok (hb i (List.mem_cons_self ..)).1 (hb i (List.mem_cons_self ..)).2
      have := ih fun j hj => hb j (List.mem_cons_of_mem _ hj)
      simp only [List.map_cons, List.sum_cons, List.length_cons]
      omega
  have h2 := h.1
  rw [l1, List.length_map]
  omega
theorem split_ne (x y : Str) : Txt.split x y ≠ [] := by
  unfold Txt.split
  split
  · simp
  · split
    · simp
    · rw [StrLaws.partsBetween_eq]
      intro h
      generalize Builtin.Str.occurrences x y 0 x.length (x.length + 1) = cuts at h
      cases cuts with
      | nil => cases h
      | cons c r => cases h
theorem seqT_but {K : PySem.W.Frag} {H H' : Hp} {a p : Addr} {xs ys : List V} (ha : H a = some (.lst xs)) (b : But a H H') (h : SqT K H p ys) : SqT K H' p ys :=
  h.elim (fun r => .inl (r.elim (fun e => .inl (b p _ (ne_of e ha (by intro z; cases z)) e)) (fun ⟨o, e⟩ => .inr ⟨o, b p _ (ne_of e ha (by intro z; cases z)) e⟩))) .inr
/-- nothing, ints, tuples -/
def Pn : Nat → PyData → Prop
  | _, .none => True
  | _, .int _ => True
  | n + 1, .tuple ds => ∀ d ∈ ds, Pn n d
  | _, _ => False
mutual
theorem dp_but {K : PySem.W.Frag} {H H' : Hp} {a : Addr} {xs : List V} (ha : H a = some (.lst xs)) (b : But a H H') : ∀ {v : V} {d : PyData}, Dp K H v d → (∃ n, Pn n d) → Dp K H' v d
  | _, _, .non, _ => .non
  | _, _, .bl b, _ => .bl b
  | _, _, .int i, _ => .int i
  | _, _, .str x, _ => .str x
  | _, _, .lst _ _, ⟨n, h⟩ => by cases n <;> exact h.elim
  | _, _, .tup h k, ⟨0, z⟩ => z.elim
  | _, _, .tup h k, ⟨n + 1, z⟩ => .tup (seqT_but ha b h) (dpAll_but ha b k fun d hd => ⟨n, z d hd⟩)
theorem dpAll_but {K : PySem.W.Frag} {H H' : Hp} {a : Addr} {xs : List V} (ha : H a = some (.lst xs)) (b : But a H H') : ∀ {vs : List V} {ds : List PyData}, DpAll K H vs ds → (∀ d ∈ ds, ∃ n, Pn n d) → DpAll K H' vs ds
  | _, _, .nil, _ => .nil
  | _, _, .cons h k, z => .cons (dp_but ha b h (z _ (List.mem_cons_self ..))) (dpAll_but ha b k fun d hd => z d (List.mem_cons_of_mem _ hd))
end
theorem dpAll_snoc {K : PySem.W.Frag} {H : Hp} : ∀ {vs : List V} {ds : List PyData} {v : V} {d : PyData}, DpAll K H vs ds → Dp K H v d → DpAll K H (vs ++ [v]) (ds ++ [d])
  | _, _, _, _, .nil, h => .cons h .nil
  | _, _, _, _, .cons k r, h => .cons k (dpAll_snoc r h)
theorem dpAll_len {K : PySem.W.Frag} {H : Hp} : ∀ {vs : List V} {ds : List PyData}, DpAll K H vs ds → vs.length = ds.length
  | _, _, .nil => rfl
  | _, _, .cons _ r => congrArg (· + 1) (dpAll_len r)
theorem pn_L (L : List Int) : Pn 1 (dL L) := fun d hd => by
  obtain ⟨i, _, rfl⟩ := List.mem_map.mp hd
  trivial
theorem pn_P (p : Pg) : Pn 2 (dP p) := fun d hd => by
  rcases List.mem_cons.mp hd with h | h
  · rw [h]; exact pn_L p.1
  · rw [List.mem_singleton.mp h]; trivial
theorem pn_oL : ∀ o : Option (List Int), Pn 1 (oD dL o)
  | none => trivial
  | some L => pn_L L
theorem pn_oP : ∀ o : Option Pg, Pn 2 (oD dP o)
  | none => trivial
  | some p => pn_P p
theorem lay_pn : ∀ (n : Nat) (d : PyData), Pn n d → d.canLay0 = true ∧ d.depth ≤ n
  | _, .none, _ => ⟨rfl, Nat.zero_le _⟩
  | _, .int _, _ => ⟨rfl, Nat.zero_le _⟩
  | 0, .tuple ds, h => h.elim
  | n + 1, .tuple ds, h => by
    have key : ∀ es : List PyData, (∀ d ∈ es, Pn n d) → PyData.canLayAll0 es = true ∧ PyData.depthAll es ≤ n := by
      intro es
      induction es with
      | nil => exact fun _ => ⟨rfl, Nat.zero_le _⟩
      | cons d r ih =>
        intro hh
        have h1 := lay_pn n d (hh d (List.mem_cons_self ..))
        have h2 := ih fun e he => hh e (List.mem_cons_of_mem _ he)
        refine ⟨?_, ?_⟩
        · show (d.canLay0 && PyData.canLayAll0 r) = true
          rw [h1.1, h2.1]
          rfl
        · show max d.depth (PyData.depthAll r) ≤ n
          omega
    have := key ds h
    exact ⟨this.1, Nat.succ_le_succ this.2⟩
  | _, .bool _, h => by simp [Pn] at h
  | _, .str _, h => by simp [Pn] at h
  | _, .list _, h => by simp [Pn] at h
  | _, .dict _, h => by simp [Pn] at h
theorem shaped_pn {n : Nat} {d : PyData} (h : Pn n d) (hn : n ≤ 64) : SeqAt.shaped d = true := by
  have := lay_pn n d h
  unfold SeqAt.shaped
  rw [Bool.and_eq_true]
  exact ⟨this.1, decide_eq_true (by omega)⟩
theorem shaped_pnl {n : Nat} {ds : List PyData} (h : ∀ d ∈ ds, Pn n d) (hn : n ≤ 63) : SeqAt.shaped (.list ds) = true := by
  have := lay_pn (n + 1) (.tuple ds) h
  unfold SeqAt.shaped
  rw [Bool.and_eq_true]
  exact ⟨this.1, decide_eq_true (by have := this.2; show PyData.depthAll ds + 1 ≤ 64; have e : (PyData.tuple ds).depth = PyData.depthAll ds + 1 := rfl; omega)⟩
theorem none_in (os : List (Option Pg)) : ((os.map (oD dP)).any fun z => PyData.eqv z .none) = os.any (·.isNone) := by
  induction os with
  | nil => rfl
  | cons o r ih =>
    rw [List.map_cons, List.any_cons, List.any_cons, ih]
    cases o <;> rfl
theorem cut_end (z : Str) : (z.cps.toList = [] ∧ cutS z (some (-1)) none = Str.empty) ∨ ∃ c, z.cps.toList.getLast? = some c ∧ cutS z (some (-1)) none = ⟨#[c]⟩ := by
  cases e : z.cps.toList.getLast? with
  | none =>
    have h := List.getLast?_eq_none_iff.mp e
    refine .inl ⟨h, ?_⟩
    unfold cutS
    rw [h]
    simp [Str.empty]
  | some c =>
    refine .inr ⟨c, rfl, ?_⟩
    obtain ⟨l, hl⟩ := List.getLast?_eq_some_iff.mp e
    unfold cutS
    have hz : z.length = l.length + 1 := by
      show z.cps.toList.length = _
      rw [hl, List.length_append]
      rfl
    rw [hz, HT.sIx_none, show HT.sIx (l.length + 1) 0 (some (-1)) = l.length by
      show ((-1 : Int) + ((l.length + 1 : Nat) : Int)).toNat = l.length
      omega, hl, List.drop_left' rfl]
    rw [show l.length + 1 - l.length = 1 by omega]
    rfl
theorem ab_in (y : Str) : inV (.str y) [.str "a", .str "b"] = decide (y = ⟨#[97]⟩ ∨ y = ⟨#[98]⟩) := by
  show ((("a" : Str) == y) || ((("b" : Str) == y) || false)) = _
  have ea : ("a" : Str) = ⟨#[97]⟩ := rfl
  have eb : ("b" : Str) = ⟨#[98]⟩ := rfl
  rw [ea, eb, Bool.or_false]
  by_cases h1 : y = ⟨#[97]⟩
  · subst h1; simp
  · by_cases h2 : y = ⟨#[98]⟩
    · subst h2; simp
    · have h1' : ¬ (⟨#[97]⟩ : Str) = y := fun e => h1 e.symm
      have h2' : ¬ (⟨#[98]⟩ : Str) = y := fun e => h2 e.symm
      simp [h1, h2, h1', h2']
theorem one_inj {a b : Nat} (h : (⟨#[a]⟩ : Str) = ⟨#[b]⟩) : a = b := by
  injection h with h
  exact (List.cons.inj (congrArg Array.toList h)).1
theorem eqv_dP (p q : Pg) : PyData.eqv (dP p) (dP q) = decide (p = q) := by
  show (PyData.eqvAll (p.1.map PyData.int) (q.1.map PyData.int) && ((p.2 == q.2) && true)) = _
  rw [eqv_ints, Bool.and_true]
  obtain ⟨a, b⟩ := p
  obtain ⟨c, d⟩ := q
  by_cases h1 : a = c
  · by_cases h2 : b = d
    · subst h1; subst h2; simp
    · simp [h1, h2]
  · simp [h1]
theorem allSome_none {os : List (Option Int)} (h : none ∈ os) : allSome os = none := by
  induction os with
  | nil => cases h
  | cons o r ih =>
    rcases o with _ | i
    · rfl
    · have h2 : none ∈ r := (List.mem_cons.mp h).resolve_left (by simp)
      unfold allSome
      rw [ih h2]
theorem keep_none {os : List (Option Int)} (h : none ∈ os) : keep os = none := by
  unfold keep
  rw [allSome_none h]
theorem keep_map (L : List Int) : keep (L.map some) = if L.length ≤ 3 ∧ L.getLastD 0 ≠ 0 then some L else none := by
  unfold keep
  rw [allSome_map]
/-! ### data that was laid since -/
mutual
inductive Fd (H0 H : Hp) : V → PyData → Prop
  | int (i : Int) : Fd H0 H (.int i) (.int i)
  | lst {a : Addr} {vs : List V} {ds : List PyData} (h : H a = some (.lst vs)) (n : H0 a = none) (r : FdAll H0 H vs ds) : Fd H0 H (.ref a) (.list ds)
inductive FdAll (H0 H : Hp) : List V → List PyData → Prop
  | nil : FdAll H0 H [] []
  | cons {v : V} {vs : List V} {d : PyData} {ds : List PyData} (h : Fd H0 H v d) (r : FdAll H0 H vs ds) : FdAll H0 H (v :: vs) (d :: ds)
end
mutual
theorem fd_to {H0 H H0' H' : Hp} (hm : ∀ a o, H0 a = none → H a = some o → H0' a = none ∧ H' a = some o) : ∀ {v : V} {d : PyData}, Fd H0 H v d → Fd H0' H' v d
  | _, _, .int i => .int i
  | _, _, .lst h n r => .lst (hm _ _ n h).2 (hm _ _ n h).1 (fdAll_to hm r)
theorem fdAll_to {H0 H H0' H' : Hp} (hm : ∀ a o, H0 a = none → H a = some o → H0' a = none ∧ H' a = some o) : ∀ {vs : List V} {ds : List PyData}, FdAll H0 H vs ds → FdAll H0' H' vs ds
  | _, _, .nil => .nil
  | _, _, .cons h r => .cons (fd_to hm h) (fdAll_to hm r)
end
mutual
theorem fd_dp {K : PySem.W.Frag} {H0 H : Hp} : ∀ {v : V} {d : PyData}, Fd H0 H v d → Dp K H v d
  | _, _, .int i => .int i
  | _, _, .lst h _ r => .lst (.inl (.inl h)) (fdAll_dp r)
theorem fdAll_dp {K : PySem.W.Frag} {H0 H : Hp} : ∀ {vs : List V} {ds : List PyData}, FdAll H0 H vs ds → DpAll K H vs ds
  | _, _, .nil => .nil
  | _, _, .cons h r => .cons (fd_dp h) (fdAll_dp r)
end
theorem fdAll_snoc {H0 H : Hp} : ∀ {vs : List V} {ds : List PyData} {v : V} {d : PyData}, FdAll H0 H vs ds → Fd H0 H v d → FdAll H0 H (vs ++ [v]) (ds ++ [d])
  | _, _, _, _, .nil, h => .cons h .nil
  | _, _, _, _, .cons k r, h => .cons k (fdAll_snoc r h)
theorem fdAll_len {H0 H : Hp} : ∀ {vs : List V} {ds : List PyData}, FdAll H0 H vs ds → vs.length = ds.length
  | _, _, .nil => rfl
  | _, _, .cons _ r => congrArg (· + 1) (fdAll_len r)
theorem fdAll_same {H0 H H' : Hp} (s : Same H H') {vs : List V} {ds : List PyData} (h : FdAll H0 H vs ds) : FdAll H0 H' vs ds := fdAll_to (fun a o n e => ⟨n, s a o e⟩) h
theorem dpAll_get {K : PySem.W.Frag} {H : Hp} : ∀ {vs : List V} {ds : List PyData} {i : Nat} {v : V}, DpAll K H vs ds → vs[i]? = some v → ∃ d, ds[i]? = some d ∧ Dp K H v d
  | _, _, _, _, .nil, e => nomatch e
  | _, _, 0, _, .cons h r, e => by
    injection e with e
    subst e
    exact ⟨_, rfl, h⟩
  | _, _, i + 1, _, .cons h r, e => by
    obtain ⟨d, e1, e2⟩ := dpAll_get (i := i) r e
    exact ⟨d, e1, e2⟩
theorem dpAll_get2 {K : PySem.W.Frag} {H : Hp} {vs : List V} {ds : List PyData} {i : Nat} {d : PyData} (h : DpAll K H vs ds) (e : ds[i]? = some d) : ∃ v, vs[i]? = some v ∧ Dp K H v d := by
  have hi := (List.getElem?_eq_some_iff.mp e).1
  rw [← dpAll_len h] at hi
  have e1 := List.getElem?_eq_getElem hi
  obtain ⟨d', e2, e3⟩ := dpAll_get h e1
  rw [e] at e2
  injection e2 with e2
  subst e2
  exact ⟨_, e1, e3⟩
theorem ixN_end (R : List Int) (x : Int) : ixN ((R ++ [x]).map V.int).length (-1) = some R.length := by
  unfold ixN
  rw [List.length_map, List.length_append, List.length_singleton, if_neg (by decide), if_pos (by omega)]
  congr 1
  omega
theorem set_end (R : List Int) (x v : Int) : ((R ++ [x]).map V.int).set R.length (.int v) = (R ++ [v]).map V.int := by
  rw [List.map_append, List.map_append, List.set_append_right _ _ (by rw [List.length_map]; exact Nat.le_refl _), List.length_map, Nat.sub_self]
  rfl
theorem at_end (R : List Int) (x : Int) : atI ((R ++ [x]).map V.int) (-1) = some (.int x) := by
  rw [List.map_append]
  exact atI_last _ _
/-- a page that was laid apart from a -/
def PT (a : Addr) (H : Hp) (o : Addr) (p : Pg) : Prop := ∃ l, l ≠ a ∧ o ≠ a ∧ H o = some (.tup [.ref l, .int p.2]) ∧ H l = some (.tup (p.1.map V.int))
theorem PT.but {a o : Addr} {H H' : Hp} {p : Pg} (h : PT a H o p) (b : But a H H') : PT a H' o p := by
  obtain ⟨l, h1, h2, h3, h4⟩ := h
  exact ⟨l, h1, h2, b _ _ h2 h3, b _ _ h1 h4⟩
theorem PT.dp {K : PySem.W.Frag} {a o : Addr} {H : Hp} {p : Pg} (h : PT a H o p) : Dp K H (.ref o) (dP p) := by
  obtain ⟨l, h1, h2, h3, h4⟩ := h
  exact .tup (.inl (.inl h3)) (.cons (dpL (.inl (.inl h4))) (.cons (.int _) .nil))
theorem cut_to (z : Str) (k : Int) (h0 : 0 ≤ k) (h1 : k ≤ (z.length : Int)) : (cutS z none (some k)).length = k.toNat := by
  obtain ⟨n, rfl⟩ := Int.eq_ofNat_of_zero_le h0
  show (((z.cps.toList.drop 0).take (HT.sIx z.length z.length (some (n : Int)) - 0)).toArray).size = _
  rw [HT.sIx_nat, List.size_toArray, List.length_take, List.drop_zero, Array.length_toList]
  show min (min n z.length - 0) z.length = _
  omega
theorem cut_from (z : Str) (k : Int) (h0 : 0 ≤ k) : (cutS z (some k) none).length = z.length - k.toNat := by
  obtain ⟨n, rfl⟩ := Int.eq_ofNat_of_zero_le h0
  show (((z.cps.toList.drop (HT.sIx z.length 0 (some (n : Int)))).take (z.length - HT.sIx z.length 0 (some (n : Int)))).toArray).size = _
  rw [HT.sIx_nat, List.size_toArray, List.length_take, List.length_drop, Array.length_toList]
  show min (z.length - min n z.length) (z.length - min n z.length) = _
  omega
theorem at_some {α : Type} (xs : List α) (k : Int) (h0 : 0 ≤ k) (h1 : k < (xs.length : Int)) : ∃ c, atI xs k = some c := by
  obtain ⟨n, rfl⟩ := Int.eq_ofNat_of_zero_le h0
  exact ⟨_, atI_nat (List.getElem?_eq_getElem (show n < xs.length by omega))⟩
/-! ### == and != of lists of plain values that are the same -/
section
variable {X : Cx}
/-- two lists of the same plain values -/
def rSameL (K : PySem.W.Frag) (b : Bool) : R2 := fun x y H Q => ∃ (p q : Addr) (zs : List V), x = .ref p ∧ y = .ref q ∧ H p = some (.lst zs) ∧ H q = some (.lst zs) ∧ (∀ z ∈ zs, flatB z = true) ∧ Q (.bl b) H
theorem same_items {A : Around} {s : Shared} : ∀ {zs : List V} {us ws : List Value}, Vals zs us → Vals zs ws → (∀ z ∈ zs, flatB z = true) → ∀ j (h1 : j < us.length) (h2 : j < ws.length), SeqAt.EqAt A s us[j] ws[j] true
  | [], _, _, .nil, _, _, j, h1, _ => absurd h1 (Nat.not_lt_zero j)
  | z :: r, _, _, .cons a1 b1, .cons a2 b2, f, j, h1, h2 => by
    cases j with
    | zero => exact eqAt_same a1 a2 (f z (List.mem_cons_self ..))
    | succ j => exact same_items b1 b2 (fun y hy => f y (List.mem_cons_of_mem _ hy)) j (Nat.lt_of_succ_lt_succ h1) (Nat.lt_of_succ_lt_succ h2)
theorem op_neS (hu : X.A.units + 64 < cLine) : OpR X (compareOp .NotEq) (rSameL X.K false) := by
  intro pins s σ H x y v u Q I rx ry h
  obtain ⟨p, q, zs, rfl, rfl, hp, hq, hf, k⟩ := h
  obtain rfl : v = Value.ref p := rx
  obtain rfl : u = Value.ref q := ry
  obtain ⟨us, r1, p1, _⟩ := I.list (.inl (.inl hp))
  obtain ⟨ws, r2, p2, _⟩ := I.list (.inl (.inl hq))
  have hsz : us.toArray.size = ws.toArray.size := by
    rw [List.size_toArray, List.size_toArray, ← r1.length, ← r2.length]
  refine SeqAt.RcNeAt.lists (e := fun _ => true) p1.isList p2.isList hsz (by omega) (fun j h1 h2 => ?_) _ _ _ _ ?_
  · have k := same_items (A := X.A.in1) (s := s) r1 r2 hf j (by simpa using h1) (by simpa using h2)
    simpa using k
  · rw [show ((List.range us.toArray.size).all fun _ => true) = true from List.all_eq_true.mpr fun _ _ => rfl]
    exact ⟨.bl false, H, I, rfl, k⟩
end
/-! ### a def that is called where no object is being shown: its promise may count on that (repr) -/
structure GnOk (P : Program) (w : World) (K : PySem.W.Frag) (mg : Str → Option Value) (base : Heap) (CX : CXT) (k : Nat) (f : Addr) (fd : FuncData) (ps : List Str) (sp : Sp) : Prop where
  size : ∀ vs H Q E, sp vs H Q E → vs.length = ps.length
  go : ∀ (A : Around) (outer : List Env) (s : Shared) (H : Hp) (args : Args) (us : List Value) (vs : List V) (Q : VK) (E : XK), Room k A → A.guards = some [] → Env0 P w K mg base A outer s H →
    BindsTo s fd args (ps.zip us) → Vals vs us → sp vs H Q E → codeAny (model P w) A (.call (.ref f) args) (CR CX outer P w H s Q E) s
section
variable {P : Program} {w : World} {K : PySem.W.Frag} {mg : Str → Option Value} {base : Heap}
theorem ce_of {X : Cx} {Q : VK} {σ : L2.St} {H H1 : Hp} {s s1 : Shared} {v : V} {u : Value} (J : Inv X [] σ H1 s1) (r : RelV v u) (q : Q v H1) (e1 : s1.os = s.os) (e2 : Un (frs X.outer) [] H H1 s.heap s1.heap) :
    CE X.outer X.prog X.w H s Q u s1 := ⟨v, H1, e1, J.bare, e2, J.hok, r, q⟩
theorem gn_of {CX : CXT} {k : Nat} {x qual : Str} {st : Stmt} {f : Addr} {fd : FuncData} {N ps : List Str} {sp : Sp} (F : Fun K x qual st f fd) (S : FnScope N ps (defScope st)) (len : ∀ vs H Q E, sp vs H Q E → vs.length = ps.length)
    (body : ∀ (cdv : Value) (A : Around) (outer : List Env) (s : Shared) (H : Hp) (vs : List V) (Q : VK) (E : XK), Room k (A.deeper (envOfC qual (defScope st) s.heap.objs.size f cdv)) → A.guards = some [] → sp vs H Q E →
      ∃ t, PSs (cxOf CX P w K mg base N qual (defScope st) f cdv A outer s H E) (defBody st) t ∧ t { nx := fun _ H' => Q .non H', rt := Q } (start N vs) H) : GnOk P w K mg base CX (k + 1) f fd ps sp := by
  obtain ⟨oc, od, kV, doc, pm, an, cdv, ct, osl, rfl, lk, hcd⟩ := F.ex
  constructor
  · exact len
  intro A outer s H args us vs Q E hr hg env0 bind rel hsp
  have up := env0.bs
  have KX : K.In s.heap := env0.mod.kin.keeps (fun b o e => (up b o e).1)
  refine codeAny_call_function (hroom := hr.depth) (KX _ _ lk) rfl S.co S.gen rfl (PySem.W.codeRec_of KX hcd) (bind _ _ _ _ ?_)
  have kinds : ∀ y ∈ ps.zip us, (defScope st).names.lookup y.1 = some .local ∨
      ((defScope st).names.lookup y.1 = some .cell ∧ ((cellsFrom (s.heap.objs.size + 1) (defScope st).names []).lookup y.1).isSome = true) := by
    rintro ⟨n, v⟩ hy
    exact (S.par n (List.of_mem_zip hy).1).elim .inl (fun q => .inr ⟨q, PySem.W.cellsFrom_some _ _ _ (.inl q)⟩)
  refine wpAny_newFunctionEnv_cells S.kind kinds (fun env he s1 fresh => ?_)
  subst he
  refine ⟨(env0.mod.nolimit.keeps (fun b o e => (up b o e).1)).keeps fresh.toInCall.keep, codeAny_func ?_⟩
  obtain ⟨t, walk, want⟩ := body cdv A outer s H vs Q E (hr.deeper _) hg hsp
  have J := inv_start (CX := CX) (E := E) S hr.hd env0 (len _ _ _ _ hsp) rel fresh
  refine wpAny_mono (walk.run [] s1 (start N vs) H _ J want) ?_ (fun _ _ z => z)
  rintro (_ | _ | _ | u) s2 h
  · obtain ⟨σ2, H2, J2, q⟩ := h
    exact ⟨.non, H2, J2.os, J2.bare, J2.base, J2.hok, rfl, q⟩
  · obtain ⟨_, _, _, q⟩ := h
    exact q.elim
  · obtain ⟨_, _, _, q⟩ := h
    exact q.elim
  · obtain ⟨v, σ2, H2, J2, r, q⟩ := h
    exact ⟨v, H2, J2.os, J2.bare, J2.base, J2.hok, r, q⟩
end
section
variable {X : Cx} {CX : CXT} {k : Nat} {f : Addr} {fd : FuncData} {ps : List Str} {sp : Sp} {E : XK} {x : Str} {p pos : Pos} {e : Expr} {es : List Expr} {t : TA}
/-- such a def is called by its name -/
theorem pe_callG (F : GnOk X.prog X.w X.K X.mg X.base CX k f fd ps sp) (hr : Room k X.A) (hg : X.A.guards = some []) (gl : Gl X x) (hm : X.mg x = some (.ref f)) (hk : PySem.W.keepIn X.K (.ref f) = true) (hb : Binds X.K fd ps []) (hx : Passes CX X E)
    (ha : PA X (e :: es) t) (hdb : (x == ("__debug__" : Str)) = false := by decide) (he : starEach (e :: es) X.env = (false, eval e X.env) :: starEach es X.env := by rfl) (hpl : (backTo pos (starEach es X.env)).any (·.1) = false := by rfl) :
    PE X (.Call (.Name x p) (e :: es) [] pos) (tCall sp [] E t) := by
  constructor
  intro pins s σ H Q I h
  refine wpAny_Call_Name_kw (ld_glob I gl hm ?_ hdb)
  refine PySem.W.callWith_K (h₀ := X.base) I.ok.mod.kin hk ?_ he hpl
  refine thn (ha.run pos pins s σ H _ I h) ?_
  rintro us s1 ⟨vs, H1, I1, rel, q⟩
  refine ⟨I1.kIn, ?_⟩
  have q : sp vs H1 Q E := by rw [List.append_nil] at q; exact q
  have bd := hb s1 us I1.kIn (by rw [List.append_nil, ← rel.length]; exact F.size _ _ _ _ q)
  rw [List.append_nil] at bd
  refine wpAny_call (codeAny_mono (F.go X.A X.stack s1 H1 _ us vs Q E hr hg I1.env0 bd rel q) ?_)
  rintro (er | fl) s2 h2
  · exact hx pins σ H1 s1 er s2 I1 h2
  · rcases fl with _ | _ | _ | u
    · exact h2.elim
    · exact h2.elim
    · exact h2.elim
    · exact I1.after h2
end
section
variable {P : Program} {w : World} {K : PySem.W.Frag} {mg mb : Str → Option Value} {CX : CXT} {k : Nat} {fa a : Addr} {fd : FuncData} {x : Str} {sp : Sp} {s₁ : Shared} {vs : List Value} {ns : List Int}
/-- what the top asks of the law's call -/
def Ended (s₁ : Shared) (r : Result) (s' : Shared) : Prop := r = .ok (.ret (.bool true)) ∧ OldK s₁.heap s'.heap ∧ s'.os = s₁.os ∧ AllBare s'.gens
theorem only_at {H : Hp} (hA : ∀ b, H b ≠ none → b = a) {b : Addr} {u : HO} (q : H b = some u) : b = a := hA b (fun z => by rw [q] at z; cases z)
theorem go_with {H : Hp} (KX : K.In s₁.heap) (hns : s₁.heap.Ns mainGlobals mg) (hb : s₁.heap.Ns builtinsNs mb) (hbb : ∀ x : Str, x ≠ "__name__" → mb x = bootBuiltins x) (hlim : s₁.heap.NoLimit) (hg : s₁.gens = #[])
    (ha : s₁.heap.get? a = some { cls := .type "list", data := .seq vs.toArray }) (hr : Room k callerA) (F : ∀ base : Heap, K.In base → base.Ns mainGlobals mg → GnOk P w K mg base CX k fa fd [x] sp)
    (hbind : ∀ (s : Shared) (u : Value), BindsTo s fd ⟨[u], []⟩ [(x, u)]) (hO : Only H) (hok : HOk P w H s₁.heap) (hA : ∀ b, H b ≠ none → b = a) (hK : H a ≠ none → K.lookup a = none)
    (hsp : sp [.ref a] H (fun v _ => v = .bl true) fun _ _ _ => False) (hCX : ∀ e s', CX [] H s₁ (fun _ _ _ => False) e s' → False) : codeAny (model P w) callerA (.call (.ref fa) ⟨[.ref a], []⟩) (Ended s₁) s₁ := by
  -- a dict, and what is written, is not the script: it stands in the rest too
  have dicts : ∀ {b : Addr} {m : Str → Option Value}, s₁.heap.Ns b m → (hidT s₁.heap H).Ns b m := by
    rintro b m ⟨o, es, ep, e, d, r⟩
    refine ⟨o, es, ep, hidT_get e ?_, d, r⟩
    cases q : H b with
    | none => rfl
    | some u =>
      have z := only_at hA q
      rw [z, ha] at e
      cases e
      have d2 : Data.seq vs.toArray _ = Data.dict es ep := d
      cases d2
  have written : K.In (hidT s₁.heap H) := by
    intro b o e
    refine hidT_get (KX b o e) ?_
    cases q : H b with
    | none => rfl
    | some u =>
      have z := only_at hA q
      subst z
      rw [hK (fun z => by rw [q] at z; cases z)] at e
      cases e
  obtain ⟨mc, l1, l2⟩ := hlim
  have M : Mod K mg (hidT s₁.heap H) := ⟨written, dicts hns, ⟨mb, dicts hb, hbb⟩, ⟨mc, dicts l1, l2⟩⟩
  have env0 : Env0 P w K mg (hidT s₁.heap H) callerA [] s₁ H := { frames := rfl, mod := M, bs := fun b o e => of_hidT e, bsz := Nat.le_of_eq (hidT_size _ _), funs := trivial, frf := (fun b z => by cases z), hok := hok, bare := .of_eq hg }
  have run := (F _ written (dicts hns)).go callerA [] s₁ H ⟨[.ref a], []⟩ [.ref a] [.ref a] _ _ hr rfl env0 (hbind s₁ (.ref a)) (.cons rfl .nil) hsp
  refine codeAny_mono run ?_
  rintro (e | _ | _ | _ | u) s' h
  · exact (hCX e s' h).elim
  · exact h.elim
  · exact h.elim
  · exact h.elim
  obtain ⟨v, H', os, bare, un, hok', r', q⟩ := h
  obtain rfl : v = .bl true := q
  obtain rfl : u = Value.bool true := r'
  refine ⟨rfl, OldK.of_keep ?_, os, bare⟩
  intro b o e
  cases q : H b with
  | none => exact un.keep b o e q (fun z => by cases z) (fun z => by cases z)
  | some u =>
    rcases hO b with z | ⟨ob, xs, z⟩
    · rw [q] at z
      cases z
    · obtain ⟨e1, _⟩ := hok b _ z
      obtain ⟨e2, _⟩ := hok' b _ (un.frzs b ob _ z)
      rw [e] at e1
      cases e1
      exact e2
/-- the script alone is tracked -/
def script (a : Addr) (vs : List Value) (ns : List Int) : Hp := fun b => if b = a then some (.frz { cls := .type "list", data := .seq vs.toArray } (.lst (ns.map V.int))) else Option.none
theorem script_at : script a vs ns a = some (.frz { cls := .type "list", data := .seq vs.toArray } (.lst (ns.map V.int))) := if_pos rfl
theorem script_ne {b : Addr} (h : b ≠ a) : script a vs ns b = Option.none := if_neg h
theorem law_goG (KX : K.In s₁.heap) (hns : s₁.heap.Ns mainGlobals mg) (hb : s₁.heap.Ns builtinsNs mb) (hbb : ∀ x : Str, x ≠ "__name__" → mb x = bootBuiltins x) (hlim : s₁.heap.NoLimit) (hg : s₁.gens = #[])
    (ha : s₁.heap.get? a = some { cls := .type "list", data := .seq vs.toArray }) (hi : IntsAre vs ns) (hl : ns.length ≤ sizeLine) (hr : Room k callerA) (F : ∀ base : Heap, K.In base → base.Ns mainGlobals mg → GnOk P w K mg base CX k fa fd [x] sp)
    (hbind : ∀ (s : Shared) (u : Value), BindsTo s fd ⟨[u], []⟩ [(x, u)]) (hsp : ∀ H : Hp, Only H → SqL K H a (ns.map V.int) → sp [.ref a] H (fun v _ => v = .bl true) fun _ _ _ => False)
    (hCX : ∀ H e s', CX [] H s₁ (fun _ _ _ => False) e s' → False) : codeAny (model P w) callerA (.call (.ref fa) ⟨[.ref a], []⟩) (Ended s₁) s₁ := by
  have rv := vals_ints hi
  cases hk : K.lookup a with
  | some o =>
    have e := (KX a o hk).symm.trans ha
    cases e
    have hO : Only (fun _ => Option.none) := fun _ => .inl rfl
    have hS : SqL K (fun _ => Option.none) a (ns.map V.int) := .inr ⟨_, vs.toArray, _, hk, rfl, rfl, rfl, by rw [List.size_toArray, hi.length]; exact hl, by simpa using rv⟩
    exact go_with KX hns hb hbb hlim hg ha hr F hbind hO (fun b u z => by have z' : (Option.none : Option HO) = some u := z; cases z') (fun b z => absurd rfl z) (fun z => absurd rfl z) (hsp _ hO hS) (hCX _)
  | none =>
    have hO : Only (script a vs ns) := fun b => by
      by_cases q : b = a
      · subst q
        exact .inr ⟨_, _, script_at⟩
      · exact .inl (script_ne q)
    refine go_with KX hns hb hbb hlim hg ha hr F hbind hO ?_ ?_ (fun _ => hk) (hsp _ hO (.inl (.inr ⟨_, script_at⟩))) (hCX _)
    · intro b u z
      by_cases q : b = a
      · subst q
        rw [script_at] at z
        cases z
        exact ⟨ha, by rw [List.length_map]; exact hl, vs, _, rv, ha⟩
      · rw [script_ne q] at z
        cases z
    · intro b z
      by_cases q : b = a
      · exact q
      · exact absurd (script_ne q) z
end
/-- the goal behind k_head, for a law whose def counts on it -/
theorem walk_ofG {l : PySem.W.OpenLaw} {n k : Nat} {q : Program} {loose : List Str} {XP : (Str → Option Value) → Heap → Prop} {YP : World → Heap → Prop} {d : DefRec} {K : Params → PySem.W.Frag} {CX : World → CXT} {sp : World → Sp} {x : Str}
    (hn : l.most = some n) (hn2 : n ≤ sizeLine) (hdf : d.params.defaults = []) (hr : Room k callerA) (hY : ∀ (w : World) (h : Heap), YP w h → (K w.params).In h)
    (F : ∀ (w : World) (mg : Str → Option Value) (fa : Addr) (h : Heap), (K w.params).In h → h.Ns mainGlobals mg → mg d.name = some (.ref fa) → ∃ fd : FuncData, (∀ (s : Shared) (u : Value), BindsTo s fd ⟨[u], []⟩ [(x, u)]) ∧
      ∀ base : Heap, (K w.params).In base → base.Ns mainGlobals mg → GnOk l.prog w (K w.params) mg base (CX w) k fa fd [x] (sp w))
    (hsp : ∀ (w : World) (H : Hp) (a : Addr) (ns : List Int), ns.length ≤ n → Only H → SqL (K w.params) H a (ns.map V.int) → sp w [.ref a] H (fun v _ => v = .bl true) fun _ _ _ => False)
    (hCX : ∀ (w : World) (H : Hp) (s : Shared) (e : Value) (s' : Shared), CX w [] H s (fun _ _ _ => False) e s' → False) : PySem.W.WalkO q loose XP YP l.row.toRowW d [] (fun f vs => PySem.call f vs) := by
  refine Att.attach_call hn hdf ?_
  intro w s₀ s₁ mg mb fa o pm cd doc a vs ns G Y ho hd hcd hmg hobj hints hlen hg
  obtain ⟨fd, hb, hF⟩ := F w mg fa _ (hY w _ Y) G.T.g hmg
  exact law_goG (hY w _ Y) G.T.g G.T.b G.T.builtins G.T.nolimit hg hobj hints (Nat.le_trans hlen hn2) hr hF hb (fun H h1 h2 => hsp w H a ns hlen h1 h2) (fun H e s' => hCX w H s₁ e s')
/-- for a def that nothing leaves -/
theorem gn_ok {P : Program} {w : World} {K : PySem.W.Frag} {mg : Str → Option Value} {base : Heap} {k : Nat} {x qual : Str} {st : Stmt} {f : Addr} {fd : FuncData} {N ps : List Str} {sp : Sp} (F : Fun K x qual st f fd) (S : FnScope N ps (defScope st))
    (len : ∀ vs H Q E, sp vs H Q E → vs.length = ps.length) (body : ∀ (cdv : Value) (A : Around) (outer : List Env) (s : Shared) (H : Hp) (vs : List V) (Q : VK) (E : XK), Room k (A.deeper (envOfC qual (defScope st) s.heap.objs.size f cdv)) → A.guards = some [] → sp vs H Q E →
      ∃ t, PSs (cxOf CX0 P w K mg base N qual (defScope st) f cdv A outer s H E).nox (defBody st) t ∧ t { nx := fun _ H' => Q .non H', rt := Q } (start N vs) H) : GnOk P w K mg base CX0 (k + 1) f fd ps sp :=
  gn_of F S len (fun cdv A outer s H vs Q E hr hg h => (body cdv A outer s H vs Q E hr hg h).elim fun t z => ⟨t, z.1.nox, z.2⟩)
theorem un20 {k : Nat} {A : Around} (r : Room k A) : A.units + 20 < cLine := by have := r.un; omega
/-! ### repr of data, where no object is being shown -/
def rReprD (K : PySem.W.Frag) : List V → Hp → VK → Prop := fun xs H Q => ∃ (v : V) (d : PyData), xs = [v] ∧ Dp K H v d ∧ d.showable = true ∧ d.hasDict = false ∧ d.depth ≤ 8 ∧ d.shown.length ≤ sizeLine ∧ Q (.str d.shown) H
theorem call_reprD {X : Cx} (hg : X.A.guards = some []) (hu : X.A.units + 20 < cLine) : CallR X (.builtin "repr") (rReprD X.K) := by
  intro pins s σ H xs us Q I r h
  obtain ⟨v, d, rfl, hd, h1, h2, h3, h4, q⟩ := h
  obtain ⟨u, rfl, ru⟩ := vals1 r
  obtain ⟨as, R⟩ := Dp.reads I d v u hd ru
  cases v with
  | ref a =>
    obtain rfl : u = Value.ref a := ru
    refine repr_of_reads' R h1 (fun z => by rw [h2] at z; cases z) hg (by omega) (fun _ _ z => z) (fun h' u tk hk => ?_) h4
    exact ⟨.str _, H, I.kept (t' := tk) hk, ⟨_, rfl⟩, q⟩
  | non =>
    cases hd
    cases ru
    exact PySem.P.repr_of_none ⟨.str _, H, I.tok _, ⟨_, rfl⟩, q⟩
  | bl b =>
    cases hd
    cases ru
    exact PySem.P.repr_of_bool ⟨.str _, H, I.tok _, ⟨_, rfl⟩, q⟩
  | int i =>
    cases hd
    obtain ⟨t, rfl⟩ := ru
    have hz : i.natAbs.log2 < 1920 := of_decide_eq_true h1
    exact PySem.P.repr_of_int hz ⟨.str _, H, I.tok _, ⟨_, rfl⟩, q⟩
  | str z =>
    cases hd
    obtain ⟨t, rfl⟩ := ru
    exact PySem.P.repr_of_str ⟨.str _, H, I.tok _, ⟨_, rfl⟩, q⟩ h4
  | _ => cases hd
theorem call_reprS {X : Cx} {a : Addr} {oe : Obj} {pn : List (Addr × Obj)} (hg : X.A.guards = some []) (hu : X.A.units + 20 < cLine) : CallR (X.suite a ((a, oe) :: pn)) (.builtin "repr") (rReprD X.K) := call_reprD (X := X.suite a ((a, oe) :: pn)) hg hu
/-! ### what is kept of a thing as a label -/
def ok99 (L : List Int) : Prop := ∀ i ∈ L, 0 ≤ i ∧ i ≤ 99
theorem getD_99 {L : List Int} (h : ok99 L) (n : Nat) : 0 ≤ L.getD n 0 ∧ L.getD n 0 ≤ 99 := by
  rw [List.getD_eq_getElem?_getD]
  cases e : L[n]? with
  | none => exact ⟨by decide, by decide⟩
  | some i => exact h i (List.mem_of_getElem? e)
def items : PyData → Option (List PyData)
  | .list ds => some ds
  | .tuple ds => some ds
  | _ => none
def isI : PyData → Bool
  | .int _ => true
  | _ => false
def toO : PyData → Option Int
  | .int i => if 0 ≤ i ∧ i ≤ 99 then some i else none
  | _ => none
def keptD (d : PyData) : Option (List Int) := match items d with
  | some ds => keep (ds.map toO)
  | none => none
def wI (l m : Int) : PyData → Bool
  | .int i => decide (l ≤ i ∧ i ≤ m)
  | _ => false
theorem toO_some (d : PyData) : (toO d).isSome = wI 0 99 d := by
  cases d with
  | int i =>
    show (if 0 ≤ i ∧ i ≤ 99 then some i else none).isSome = decide (0 ≤ i ∧ i ≤ 99)
    by_cases h : 0 ≤ i ∧ i ≤ 99
    · rw [if_pos h, decide_eq_true h]; rfl
    · rw [if_neg h, decide_eq_false h]; rfl
  | _ => rfl
theorem toO_ints {L : List Int} (h : ok99 L) : (L.map PyData.int).map toO = L.map some := by
  rw [List.map_map]
  exact List.map_congr_left fun i hi => if_pos (h i hi)

/-- no lists in it -/
def Nl : Nat → PyData → Prop
  | _, .none => True
  | _, .int _ => True
  | _, .bool _ => True
  | _, .str _ => True
  | n + 1, .tuple ds => ∀ d ∈ ds, Nl n d
  | _, _ => False
mutual
theorem dp_butN {K : PySem.W.Frag} {H H' : Hp} {a : Addr} {xs : List V} (ha : H a = some (.lst xs)) (b : But a H H') : ∀ {v : V} {d : PyData}, Dp K H v d → (∃ n, Nl n d) → Dp K H' v d
  | _, _, .non, _ => .non
  | _, _, .bl b, _ => .bl b
  | _, _, .int i, _ => .int i
  | _, _, .str x, _ => .str x
  | _, _, .lst _ _, ⟨n, h⟩ => by cases n <;> exact h.elim
  | _, _, .tup h k, ⟨0, z⟩ => z.elim
  | _, _, .tup h k, ⟨n + 1, z⟩ => .tup (seqT_but ha b h) (dpAll_butN ha b k fun d hd => ⟨n, z d hd⟩)
theorem dpAll_butN {K : PySem.W.Frag} {H H' : Hp} {a : Addr} {xs : List V} (ha : H a = some (.lst xs)) (b : But a H H') : ∀ {vs : List V} {ds : List PyData}, DpAll K H vs ds → (∀ d ∈ ds, ∃ n, Nl n d) → DpAll K H' vs ds
  | _, _, .nil, _ => .nil
  | _, _, .cons h k, z => .cons (dp_butN ha b h (z _ (List.mem_cons_self ..))) (dpAll_butN ha b k fun d hd => z d (List.mem_cons_of_mem _ hd))
end
theorem kit2_no {K : PySem.W.Frag} {t : String} (h1 : kitB t "tuple" = some false) (h2 : kitB t "list" = some false) : PySem.W.kitAny K (.type t) [.type "tuple", .type "list"] = some false :=
  kitAny_cons (kit_ty h1) (fun _ => kitAny_cons (kit_ty h2) (fun _ => rfl) (fun z => by cases z)) (fun z => by cases z)
theorem allSome_all : ∀ {os : List (Option Int)} {L : List Int}, allSome os = some L → os = L.map some
  | [], L, h => by
    cases h
    rfl
  | none :: r, L, h => by cases h
  | some i :: r, L, h => by
    unfold allSome at h
    split at h
    · rename_i L' e
      cases h
      rw [allSome_all e]
      rfl
    · cases h
theorem map_bl (ds : List PyData) : (ds.map fun d => V.bl (wI 0 99 d)) = (ds.map (wI 0 99)).map V.bl := (List.map_map ..).symm
theorem all_bl (ds : List PyData) : (ds.map (wI 0 99)).all id = ds.all (wI 0 99) := by
  rw [List.all_map]
  rfl
theorem all_ints : ∀ {ds : List PyData}, ds.all (wI 0 99) = true → ∃ L : List Int, ds = L.map PyData.int ∧ ok99 L
  | [], _ => ⟨[], rfl, fun _ h => nomatch h⟩
  | d :: r, h => by
    rw [List.all_cons, Bool.and_eq_true] at h
    obtain ⟨L, e, hL⟩ := all_ints h.2
    cases d with
    | int i =>
      have hi := of_decide_eq_true h.1
      refine ⟨i :: L, by rw [e]; rfl, fun j hj => ?_⟩
      rcases List.mem_cons.mp hj with z | z
      · rw [z]; exact hi
      · exact hL j z
    | _ => cases h.1
theorem not_all {ds : List PyData} (h : ds.all (wI 0 99) = false) : none ∈ ds.map toO := by
  obtain ⟨d, hd, e⟩ := List.all_eq_false.mp h
  refine List.mem_map.mpr ⟨d, hd, ?_⟩
  cases q : toO d with
  | none => rfl
  | some i =>
    have := toO_some d
    rw [q] at this
    exact absurd this.symm e
/-- what stands behind an own error that was made: its dict alone is new -/
theorem toO_bd {d : PyData} {i : Int} (h : toO d = some i) : 0 ≤ i ∧ i ≤ 99 := by
  cases d with
  | int j =>
    have h : (if 0 ≤ j ∧ j ≤ 99 then some j else none) = some i := h
    by_cases hj : 0 ≤ j ∧ j ≤ 99
    · rw [if_pos hj] at h
      cases h
      exact hj
    · rw [if_neg hj] at h
      cases h
  | _ => cases h
theorem keep_some {os : List (Option Int)} {L : List Int} (h : keep os = some L) : os = L.map some ∧ L.length ≤ 3 ∧ L.getLastD 0 ≠ 0 := by
  unfold keep at h
  cases e : allSome os with
  | none => rw [e] at h; cases h
  | some M =>
    rw [e] at h
    simp only at h
    split at h
    · rename_i hM
      cases h
      exact ⟨allSome_all e, hM⟩
    · cases h
theorem kept_okL {d : PyData} {L : List Int} (h : keptD d = some L) : okL L := by
  unfold keptD at h
  cases e : items d with
  | none => rw [e] at h; cases h
  | some ds =>
    rw [e] at h
    simp only at h
    obtain ⟨h1, h2, h3⟩ := keep_some h
    refine ⟨h2, h3, fun i hi => ?_⟩
    have : some i ∈ ds.map toO := by rw [h1]; exact List.mem_map_of_mem hi
    obtain ⟨d, _, q⟩ := List.mem_map.mp this
    exact toO_bd q
theorem kept_ok {d : PyData} {L : List Int} (h : keptD d = some L) : ok99 L ∧ L.length ≤ 3 ∧ L ≠ [] := by
  have := kept_okL h
  exact ⟨this.2.2, this.1, okL_ne this⟩
theorem cutV_to (xs : List V) (n : Nat) : cutV xs none (some (n : Int)) = xs.take n := by
  unfold cutV
  rw [HT.sIx_none, HT.sIx_nat, List.drop_zero, Nat.sub_zero]
  by_cases h : n ≤ xs.length
  · rw [Nat.min_eq_left h]
  · rw [Nat.min_eq_right (by omega), List.take_length, List.take_of_length_le (by omega)]
theorem okL_snoc {R : List Int} {z : Int} (h : ok99 R) (l : R.length ≤ 2) (h1 : 1 ≤ z) (h9 : z ≤ 99) : okL (R ++ [z]) := by
  refine ⟨by rw [List.length_append]; show R.length + 1 ≤ 3; omega, ?_, fun i hi => ?_⟩
  · rw [List.getLastD_eq_getLast?, List.getLast?_append]
    show z ≠ 0
    omega
  · rcases List.mem_append.mp hi with e | e
    · exact h i e
    · rw [List.mem_singleton.mp e]; omega
theorem okL_split {L : List Int} (h : okL L) : ∃ R z, L = R ++ [z] ∧ ok99 R ∧ R.length ≤ 2 ∧ 1 ≤ z ∧ z ≤ 99 := by
  have hne := okL_ne h
  obtain ⟨R, z, rfl⟩ : ∃ R z, L = R ++ [z] := ⟨_, _, (List.dropLast_concat_getLast hne).symm⟩
  have hz := h.2.2 z (by simp)
  have hz0 : z ≠ 0 := by
    have := h.2.1
    rw [List.getLastD_eq_getLast?, List.getLast?_append] at this
    exact this
  have hl := h.1
  rw [List.length_append] at hl
  exact ⟨R, z, rfl, fun i hi => h.2.2 i (List.mem_append_left _ hi), by have : R.length + 1 ≤ 3 := hl; omega, by omega, hz.2⟩
theorem src_lst {H : Hp} {a : Addr} (s : Src H a) : ∃ xs, H a = some (.lst xs) := by
  obtain ⟨g, x, c, e⟩ := s
  exact ⟨_, e⟩
theorem sqT_src {K : PySem.W.Frag} {H H' : Hp} {a p : Addr} {ys : List V} (s : Src H a) (b : But a H H') (h : SqT K H p ys) : SqT K H' p ys := by
  obtain ⟨xs, e⟩ := src_lst s
  exact seqT_but e b h
theorem dpN_src {K : PySem.W.Frag} {H H' : Hp} {a : Addr} {v : V} {d : PyData} (s : Src H a) (b : But a H H') (h : Dp K H v d) (n : ∃ n, Nl n d) : Dp K H' v d := by
  obtain ⟨xs, e⟩ := src_lst s
  exact dp_butN e b h n
theorem nl_L (L : List Int) : ∃ n, Nl n (dL L) := ⟨1, fun d hd => by
  obtain ⟨i, _, rfl⟩ := List.mem_map.mp hd
  trivial⟩
theorem nl_O (o : Option (List Int)) : ∃ n, Nl n (oD dL o) := by
  cases o with
  | none => exact ⟨0, trivial⟩
  | some L => exact nl_L L
theorem srcN {H : Hp} {a p : Addr} (s : Src H a) (n : H p = none) (o : HO) : Src (upd H p o) a := s.put (s.ne n) o
theorem sIx_m1 (n : Nat) : HT.sIx n n (some (-1)) = n - 1 := by
  show ((-1 : Int) + (n : Int)).toNat = n - 1
  omega
theorem cut_last (xs : List V) : cutV xs none (some (-1)) = xs.dropLast := by
  unfold cutV
  rw [sIx_m1, HT.sIx_none, List.drop_zero, Nat.sub_zero, List.dropLast_eq_take]
/-! ### refused things: short, without lists -/
theorem cat_go {K : PySem.W.Frag} {H : Hp} {Q : VK} {a b : Addr} {xs ys : List V} (ha : SqT K H a xs) (hb : SqT K H b ys) (hl : xs.length + ys.length ≤ 1000) (h : ∀ c H', Same H H' → SqT K H' c (xs ++ ys) → Q (.ref c) H') : rCatA K (.ref a) (.ref b) H Q :=
  ⟨a, b, xs, ys, rfl, rfl, ha, hb, Nat.le_of_lt (small1000 hl), fun e => h b H (Same.refl H) (by rw [e]; exact hb), fun _ e => h a H (Same.refl H) (by rw [e, List.append_nil]; exact ha), fun _ _ p np => h p _ (same_upd np) (.inl (.inl upd_same))⟩
theorem cut_whole {xs : List V} {lo hi : Option Int} (h : HT.sIx xs.length 0 lo = 0 ∧ HT.sIx xs.length xs.length hi = xs.length) : cutV xs lo hi = xs := by
  unfold cutV
  rw [h.1, h.2, List.drop_zero, Nat.sub_zero, List.take_length]
theorem sl_go {K : PySem.W.Frag} {H : Hp} {Q : VK} {a : Addr} {xs : List V} {lo hi : Option Int} (ha : SqT K H a xs) (h : ∀ c H', Same H H' → SqT K H' c (cutV xs lo hi) → Q (.ref c) H') : rSlA K (.ref a) lo hi H Q :=
  ⟨a, xs, rfl, ha, fun e => h a H (Same.refl H) (by rw [cut_whole e]; exact ha), fun _ p np => h p _ (same_upd np) (.inl (.inl upd_same))⟩
theorem cutV_from (xs : List V) (k : Nat) : cutV xs (some (k : Int)) none = xs.drop k := by
  unfold cutV
  rw [HT.sIx_nat]
  have e : HT.sIx xs.length xs.length none = xs.length := HT.sIx_none ..
  rw [e]
  by_cases h : k ≤ xs.length
  · rw [Nat.min_eq_left h, List.take_of_length_le]
    rw [List.length_drop]
    omega
  · rw [Nat.min_eq_right (by omega), Nat.sub_self, List.take_zero, List.drop_eq_nil_of_le (by omega)]
theorem dpAll_app {K : PySem.W.Frag} {H : Hp} : ∀ {vs ws : List V} {ds es : List PyData}, DpAll K H vs ds → DpAll K H ws es → DpAll K H (vs ++ ws) (ds ++ es)
  | _, _, _, _, .nil, h => h
  | _, _, _, _, .cons k r, h => .cons k (dpAll_app r h)
/-! ### own errors: made with nothing, asked for their classes -/
section
variable {X : Cx} {C : Addr} {bmB : List Value} {B newId initId : String}
/-- X() -/
theorem pmk_own0 {x : Str} {p pos : Pos} (F : ExcBaseFacts B newId initId bmB) (q : PySem.W.excIn X.K C bmB newId = true) (gC : X.mg x = some (.ref C)) (kC : PySem.W.keepIn X.K (.ref C) = true) (r : Raises X (.ref C)) (hg : Gl X x)
    (hdb : (x == ("__debug__" : Str)) = false := by decide) : PMk X (.Call (.Name x p) [] [] pos) (fun _ H Q => Q (.ref C) none H) := by
  intro pins s σ H Q I h
  refine wpAny_Call_Name_kw (ld_glob I hg gC ?_ hdb)
  refine PySem.W.callWith_K0 I.kIn kC ?_
  obtain ⟨bm, N, nm, qn, bs, hdct, sn, sub, ab, col, dd, k0, k1, k2, k3, k5, mN, hC, hN, hni, T⟩ := exc_obj I.kIn q
  obtain ⟨hp, g, dr, tk, os⟩ := s
  refine wpAny_call_exc_subT F T hC hN hni ?_ (by decide)
  exact fun h' e hm => mk_of I hm r h (I.hok.gone hm.new)
end
/-- isinstance(e, c), e the error that the suite holds, with a dict of its own or without -/
def rIsX (K : PySem.W.Frag) (cls : Value) (a : Addr) (d : Option Addr) : List V → Hp → VK → Prop := fun xs H Q => ∃ (D : Addr) (c : V) (cv : Value) (b : Bool), xs = [.ref a, c] ∧ cls = .ref D ∧ ExcC K D ∧ (∀ u, RelV c u → u = cv) ∧
  (d = Option.none ∨ ∃ dd fs, d = some dd ∧ H dd = some (.xd fs)) ∧ PySem.W.kitOne K (.ref D) cv = some b ∧ Q (.bl b) H
theorem call_isX {X : Cx} {a : Addr} {cls : Value} {d : Option Addr} {oe : Obj} {pn : List (Addr × Obj)} (hz : Zc cls d oe) (hf : ∃ vs, oe.data = .fields vs) : CallR (X.suite a ((a, oe) :: pn)) (.builtin "isinstance") (rIsX X.K cls a d) := by
  intro pins s σ H xs us Q I r h
  obtain ⟨D, c, cv, b, rfl, rfl, C, hcv, hd, e, q⟩ := h
  obtain ⟨u1, u2, rfl, r1, r2⟩ := vals2 r
  obtain rfl : u1 = Value.ref a := r1
  obtain rfl := hcv _ r2
  obtain ⟨at_, _⟩ := I.pin (a, oe) (List.mem_append_left _ List.mem_cons_self)
  obtain ⟨vs, hv⟩ := hf
  have fin : ∀ {od : Option Obj}, PySem.W.InstAt s.heap a oe D od → wpAny (model X.prog X.w) (X.suite a ((a, oe) :: pn)).A (call (.builtin "isinstance") [.ref a, u2]) (EP (X.suite a ((a, oe) :: pn)) pins σ Q) (X.suite a ((a, oe) :: pn)).xe s := fun J =>
    PySem.W.kia_one (PySem.W.kitx_exc (PySem.W.any_some C.hd |>.elim fun _ z => by rw [z.1]; rfl) C.hg C.hk C.hs C.ha C.hn C.ht C.hm) I.kIn J e (fun z => nomatch z) fun tk => ⟨.bl b, H, I.kept (t' := tk) (fun _ _ z => z), rfl, q⟩
  have nc : PySem.W.notCls oe = true := by
    unfold PySem.W.notCls
    rw [hv] <;> rfl
  rcases hd with rfl | ⟨dd, fs, rfl, hdd⟩
  · exact fin (od := Option.none) ⟨at_, hz.1, nc, by rw [hz.2]; trivial⟩
  · obtain ⟨mA, hns, _⟩ := I.hok dd _ hdd
    obtain ⟨od, ho, _⟩ := lookIn_ns hns
    exact fin (od := some od) ⟨at_, hz.1, nc, by rw [hz.2]; exact ho⟩
theorem kit_ref {K : PySem.W.Frag} {D C : Addr} {b : Bool} (h1 : PySem.W.isClsIn K C = true) (h2 : PySem.W.typeIn K (.ref C) = some (.type "type")) (h3 : PySem.W.subIn K (.ref D) (.ref C) = some b) (h4 : D = C → b = true) : PySem.W.kitOne K (.ref D) (.ref C) = some b := by
  unfold PySem.W.kitOne
  by_cases q : (Value.ref D == Value.ref C) = true
  · rw [if_pos q, h4 (Value.ref.inj (beq_iff_eq.mp q))]
  · rw [if_neg q]
    unfold PySem.W.kitCls
    have h1' : (PySem.W.clsIn K C).isSome = true := h1
    simp only [h1', h2, beq_self_eq_true, Bool.and_self, if_true]
    exact h3
theorem kit_rty {K : PySem.W.Frag} {D : Addr} {T : String} {b : Bool} (h3 : PySem.W.subIn K (.ref D) (.type T) = some b) (h : PySem.W.kitMeta T = true) : PySem.W.kitOne K (.ref D) (.type T) = some b := by
  unfold PySem.W.kitOne
  rw [if_neg (by simp)]
  unfold PySem.W.kitCls
  simp only [h, if_true]
  exact h3
theorem relRef {a : Addr} : ∀ u : Value, RelV (.ref a) u → u = .ref a := fun _ h => h
theorem relTy {s : String} : ∀ u : Value, RelV (.ty s) u → u = .type s := fun _ h => h
/-- what isinstance must know of the class -/
theorem excC_of {K : PySem.W.Frag} {D : Addr} (h1 : PySem.W.findIn K (.ref D) "__getattribute__" = some (some (.builtin "BaseException.__getattribute__"))) (h2 : PySem.W.findIn K (.ref D) "__getattr__" = some none) (h3 : PySem.W.subIn K (.ref D) (.type "BaseException") = some true)
    (h4 : PySem.W.hasDictIn K D = true) (h5 : PySem.W.findIn K (.ref D) "__class__" = some (some (.builtin "object.__class__"))) (h6 : PySem.W.specialIn K (.builtin "object.__class__") "__get__" = some (some (.builtin "getset_descriptor.__get__"))) (h7 : PySem.W.takesIn K (.builtin "object.__class__") = some true)
    (h8 : PySem.W.mroIn K D (.type "object") = some true) : ExcC K D := ⟨h1, h2, h3, h4, h5, h6, h7, h8⟩
/-! ### xs[::-1], xs a list -/
section
variable {X : Cx} {e st : Expr} {te : TE} {tq : TO} {p2 pos : Pos}
def tRevL (K : PySem.W.Frag) (te : TE) (tq : TO) : TE := fun σ H Q => te σ H fun x H1 => tq σ H1 fun k H2 => ∃ a xs, k = some (-1) ∧ x = .ref a ∧ SqL K H2 a xs ∧ ∀ p, H2 p = none → Q (.ref p) (upd H2 p (.lst xs.reverse))
theorem pe_revL (he : PE X e te) (hk : PO X (some st) tq) : PE X (.Subscript e (.Slice none none (some st) p2) pos) (tRevL X.K te tq) := by
  constructor
  intro pins s σ H Q I h
  refine Subscript_ (thn (he.run pins s σ H _ I h) ?_)
  rintro v s1 ⟨x, H1, I1, r1, q1⟩
  refine wpAny_Slice ?_
  rw [evalPart_none]
  refine wpAny_pure ?_
  refine wpAny_pure (thn (hk.run pins s1 σ H1 _ I1 q1) ?_)
  rintro vk s2 ⟨k, H2, I2, pk, a, xs, rfl, rfl, hx, q⟩
  cases r1
  have J : Inv X pins σ H2 { s2 with heap := s2.heap.push { cls := .type "slice", data := .fields #[.none, .none, vk] } } := I2.kept (t' := s2.toks) (fun b ob q => Heap.get?_push_of_some _ q)
  obtain ⟨its, r, isl, hz⟩ := J.list hx
  have hlen := r.length
  have step : wpAny (model X.prog X.w) X.A (getItem (.ref a) (.ref s2.heap.objs.size)) (EP X pins σ Q) X.xe { s2 with heap := s2.heap.push { cls := .type "slice", data := .fields #[.none, .none, vk] } } := by
    refine wpAny_getItem_list_slice isl.isList (Heap.IsSliceOf.new ..) .none .none pk (by decide) ?_ (by rw [List.size_toArray]; omega)
    have er : slicePick its.toArray none none (some (-1)) = its.reverse.toArray := PySem.W.krv_pick its.toArray
    rw [er]
    refine ⟨.ref (s2.heap.push { cls := .type "slice", data := .fields #[.none, .none, vk] }).objs.size, _, J.laid (t' := s2.toks) (o := .lst xs.reverse) (fun b ob q => Heap.get?_push_of_some _ q) (Nat.le_refl _) ?_, rfl, q _ (J.hok.fresh (Nat.le_refl _))⟩
    exact ⟨by rw [List.length_reverse]; exact hz, _, 0, r.reverse, Heap.get?_push_size _ rfl⟩
  exact tail_any (ops := [.ref a, .ref s2.heap.objs.size]) isl.isList.typeIs slot_list_getitem.lookup step (by with_unfolding_all rfl)
end
theorem ix_listK {X : Cx} {K : PySem.W.Frag} (h : X.K = K) : IxR X (rIxL K) := h ▸ ix_list
theorem ix_tupK {X : Cx} {K : PySem.W.Frag} (h : X.K = K) : IxR X (rIxT K) := h ▸ ix_tup
/-! ### objects: == by an own __eq__, whatever stands at its right; objects made within a try -/
section
variable {X : Cx}
def rEqOwn (K : PySem.W.Frag) (C : Addr) (sp : Sp) : R2 := fun x y H Q => ∃ (a dx : Addr) (fs : List (Str × V)) (t : Value), x = .ref a ∧ H a = some (.ins C dx fs) ∧ TyX K H y t ∧ PySem.W.notFirst K C t = true ∧ sp [.ref a, y] H (fun v H' => (∃ b, v = .bl b) ∧ Q v H') E0
theorem op_eqOwn {C f : Addr} {fd : FuncData} {ps : List Str} {sp : Sp} {n : Nat} (F : FnOk X.prog X.w X.K X.mg X.base CX0 n f fd ps sp) (hs : PySem.W.findIn X.K (.ref C) "__eq__" = some (some (.ref f))) (hf : PySem.W.isFn X.K (.ref f) = true) (hb : Binds X.K fd ps []) (hr : Room n X.A) :
    OpR X (compareOp .Eq) (rEqOwn X.K C sp) := by
  intro pins s σ H x y v u Q I rx ry h
  obtain ⟨a, dx, fs, t, rfl, ha, ty, nf, hsp⟩ := h
  obtain rfl : v = Value.ref a := rx
  obtain ⟨mA, J, _⟩ := ins_get I.hok ha
  obtain ⟨od, J, _⟩ := J.look
  obtain ⟨m, hF⟩ := I.fr
  obtain ⟨Pk, Z, hP, _⟩ := kit_of I ry ty
  show wpAny (model X.prog X.w) X.A (richCompare .Eq (.ref a) u) (EP X pins σ Q) X.xe s
  refine PySem.W.cmp_K (op := .Eq) (tb := t) hr.units0 hF I.ok.mod.kin J (Z.ty (model X.prog X.w) s.heap I.kIn hP) nf hs hf ?_
  have run := run_fn (Q := fun v H' => (∃ b, v = .bl b) ∧ Q v H') (dvs := []) (us := [.ref a, u]) (vs := [V.ref a, y]) F hr hb .nil pass0 I (show Vals [V.ref a, y] [Value.ref a, u] from .cons rfl (.cons ry .nil)) (by rw [List.append_nil]; exact hsp)
  refine wpAny_mono run ?_ (fun _ _ z => z)
  rintro w s' ⟨z, H', I', rz, ⟨b, rfl⟩, q⟩
  cases rz
  exact ⟨.bl b, H', I', rfl, q⟩
end
section
variable {X : Cx} {CX : CXT} {k : Nat} {f C : Addr} {fd : FuncData} {ps : List Str} {sp : Sp} {dvs : List V} {ds : List Value} {E : L2.St → XK} {x : Str} {p pos : Pos} {e : Expr} {es : List Expr} {t : TA}
/-- C(e, ..) within a try -/
def tMakeS (C : Addr) (sp : Sp) (dvs : List V) (E : L2.St → XK) (t : TA) : TE := fun σ H Q => t σ H fun vs H1 => ∀ x dx, H1 x = Option.none → H1 dx = Option.none → dx ≠ x → sp (.ref x :: (vs ++ dvs)) (upd (upd H1 dx (.own x)) x (.ins C dx [])) (fun v H2 => v = .non ∧ Q (.ref x) H2) (E σ)
theorem pe_makeS (M : Mk X.K C f) (F : FnOk X.prog X.w X.K X.mg X.base CX k f fd ps sp) (hr : Room (k + 1) X.A) (hg : Gl X x) (hm : X.mg x = some (.ref C)) (hb : Binds X.K fd ps ds) (hd : Vals dvs ds) (hx : ∀ σ, PassesAt CX X σ (E σ)) (ha : PA X (e :: es) t)
    (hdb : (x == ("__debug__" : Str)) = false := by decide) (he : starEach (e :: es) X.env = (false, eval e X.env) :: starEach es X.env := by rfl) (hpl : (backTo pos (starEach es X.env)).any (·.1) = false := by rfl) :
    PE X (.Call (.Name x p) (e :: es) [] pos) (tMakeS C sp dvs E t) := by
  constructor
  intro pins s σ H Q I h
  refine wpAny_Call_Name_kw (ld_glob I hg hm ?_ hdb)
  refine PySem.W.callWith_K (h₀ := X.base) I.ok.mod.kin M.kp ?_ he hpl
  refine thn (ha.run pos pins s σ H _ I h) ?_
  rintro us s1 ⟨vs, H1, I1, r, q⟩
  refine ⟨I1.kIn, ?_⟩
  have new := q (s1.heap.objs.size + 1) s1.heap.objs.size (I1.hok.fresh (Nat.le_succ _)) (I1.hok.fresh (Nat.le_refl _)) (Nat.ne_of_lt (Nat.lt_succ_self _))
  have J := Inv.made (C := C) I1
  have rel : Vals (V.ref (s1.heap.objs.size + 1) :: (vs ++ dvs)) (Value.ref (s1.heap.objs.size + 1) :: (us ++ ds)) := .cons rfl (r.append hd)
  have size : (Value.ref (s1.heap.objs.size + 1) :: us ++ ds).length = ps.length := rel.length.symm.trans (F.len _ _ _ _ new)
  refine wpAny_call (make_map (f := f) (kw := []) I1.kIn M.makes M.init (beq_iff_eq.mp M.fn) ?_)
  refine codeAny_mono (F.run _ X.stack _ _ ⟨Value.ref (s1.heap.objs.size + 1) :: us, []⟩ (Value.ref (s1.heap.objs.size + 1) :: (us ++ ds)) _ _ (E σ) (hr.make C us []) (J.env0.make C us []) (hb _ (Value.ref (s1.heap.objs.size + 1) :: us) J.kIn size) rel new) ?_
  rintro (er | fl) s2 h2
  · exact hx σ pins _ _ er s2 J h2
  · rcases fl with _ | _ | _ | u
    · exact h2.elim
    · exact h2.elim
    · exact h2.elim
    · obtain ⟨v, H', I3, rv, ev, q3⟩ := J.after h2
      subst ev
      exact ⟨rv, ⟨V.ref (s1.heap.objs.size + 1), H', I3, rfl, q3⟩⟩
end
/-! ### sorted of a list of tuples of ints, of any lengths -/
section
variable {prog : Program} {w : World} {A : Around} {s : Shared}
def IsIT (h : Heap) (v : Value) (ns : List Int) : Prop := ∃ (a : Addr) (o : Obj) (its : Array Value) (n : Nat), v = .ref a ∧ h.get? a = some o ∧ o.cls = .type "tuple" ∧ o.data = .seq its n ∧ IntsAre its.toList ns
theorem IsIT.keeps {h h' : Heap} {v : Value} {ns : List Int} (x : IsIT h v ns) (k : ∀ b o, h.get? b = some o → o.cls = .type "tuple" → h'.get? b = some o) : IsIT h' v ns := by
  obtain ⟨a, o, its, n, e, ho, hc, r⟩ := x
  exact ⟨a, o, its, n, e, k a o ho hc, hc, r⟩
theorem ints_length {us : List Value} {ns : List Int} (h : IntsAre us ns) : us.length = ns.length := by
  have := (vals_of_ints h).length
  rw [List.length_map] at this
  exact this.symm
theorem kat_ints {Q : Bool → Shared → Prop} : ∀ (xs ys : List Value) (ns ms : List Int) (i : Nat), IntsAre xs ns → IntsAre ys ms → Q (HT.lexLt ns ms) s → PySem.W.KatLex prog w A true (decide (ns.length < ms.length)) Q (xs.zip ys) i s
  | [], ys, ns, ms, i, h1, h2, q => by
    cases h1
    · cases ms with
      | nil => exact PySem.W.kat_nil q
      | cons m ms => exact PySem.W.kat_nil q
  | x :: xs, [], ns, ms, i, h1, h2, q => by
    cases h2
    · cases ns with
      | nil => cases h1
      | cons n ns =>
        rw [HT.lexLt_cons_nil] at q
        exact PySem.W.kat_nil q
  | x :: xs, y :: ys, ns, ms, i, h1, h2, q => by
    cases ns with
    | nil => cases h1
    | cons n ns =>
    cases ms with
    | nil => cases h2
    | cons m ms =>
    cases h1 with
    | cons _ t h1 =>
    cases h2 with
    | cons _ u h2 =>
    rw [HT.lexLt_cons] at q
    have z : decide ((n :: ns).length < (m :: ms).length) = decide (ns.length < ms.length) := by simp
    rw [z]
    show PySem.W.KatLex prog w A true (decide (ns.length < ms.length)) Q ((.int n t, .int m u) :: xs.zip ys) i s
    refine PySem.W.kat_cons (SeqAt.EqAt.int_int n t m u prog w _ _ ?_)
    refine PySem.W.kat_go (fun e1 => ?_) (fun e1 => ?_)
    · have e : n = m := by simpa using e1
      rw [if_pos e] at q
      exact PySem.W.kat_yes (kat_ints xs ys ns ms (i + 1) h1 h2 q)
    · have e : ¬ n = m := by simpa using e1
      rw [if_neg e] at q
      refine PySem.W.kat_no ?_
      cases i with
      | zero => exact TS.oneLt_ints true q
      | succ i => exact PySem.W.kat_one _ _ (PyProof.Rows.lt_int q)
theorem it_cmp {vs : List Value} {k : Value → List Int} (hp : ∀ v ∈ vs, IsIT s.heap v (k v)) : SrtO.Cmp prog w A s (tuples' true) (fun p => p.1 ∈ vs) (SrtO.lt2 fun v u => HT.lexLt (k v) (k u)) := by
  intro p q hm hm'
  obtain ⟨a, o, its, n, e, ho, hc, hd, hi⟩ := hp _ hm
  obtain ⟨a', o', its', n', e', ho', hc', hd', hi'⟩ := hp _ hm'
  show wpAny (model prog w) A (keyLt' (tuples' true) p.1 q.1) (fun r s' => s' = s ∧ r = HT.lexLt (k p.1) (k q.1)) (fun _ _ => False) s
  rw [e, e']
  rw [e] at hi
  rw [e'] at hi'
  refine PySem.W.kat_lt ho hd ho' hd' ?_
  have l1 : its.size = (k (.ref a)).length := by rw [← Array.length_toList]; exact ints_length hi
  have l2 : its'.size = (k (.ref a')).length := by rw [← Array.length_toList]; exact ints_length hi'
  rw [l1, l2]
  exact kat_ints _ _ _ _ 0 hi hi' ⟨rfl, rfl⟩
theorem it_firsts {h : Heap} : ∀ {vs : List Value} {k : Value → List Int}, (∀ v ∈ vs, IsIT h v (k v) ∧ k v ≠ []) → ∃ fs, PySem.W.KatTups h vs fs ∧ fs.length = vs.length ∧ ∀ f ∈ fs, ∃ x t, f = .int x t
  | [], _, _ => ⟨[], trivial, rfl, fun _ h => nomatch h⟩
  | v :: vs, k, hp => by
    obtain ⟨fs, t, l, r⟩ := it_firsts (vs := vs) (k := k) fun u hu => hp u (List.mem_cons_of_mem _ hu)
    obtain ⟨⟨a, o, its, n, rfl, ho, hc, hd, hi⟩, ne⟩ := hp v (List.mem_cons_self ..)
    cases ek : k (.ref a) with
    | nil => exact absurd ek ne
    | cons m ms =>
      rw [ek] at hi
      cases ei : its.toList with
      | nil => rw [ei] at hi; cases hi
      | cons x xs =>
        rw [ei] at hi
        cases hi with
        | cons _ t' hi =>
        have h0 : its[0]? = some (.int m t') := by rw [← Array.getElem?_toList, ei]; rfl
        refine ⟨.int m t' :: fs, PySem.W.KatTups.cons ho hc hd h0 t, by simp [l], fun f hf => ?_⟩
        rcases List.mem_cons.mp hf with e | hf
        · exact ⟨m, t', e⟩
        · exact r f hf
theorem it_sortable {a : Addr} {vs : List Value} {k : Value → List Int} (h0 : 0 < vs.length) (hp : ∀ v ∈ vs, IsIT s.heap v (k v) ∧ k v ≠ []) (ha : ∀ o, s.heap.get? a = some o → o.cls ≠ .type "tuple") : SrtO.SortableO prog w A s a vs fun v u => HT.lexLt (k v) (k u) := by
  intro h' keep
  have hp' : ∀ v ∈ vs, IsIT h' v (k v) ∧ k v ≠ [] := fun v hm => ⟨(hp v hm).1.keeps fun b o e c => keep b o (fun z => by subst z; exact ha o e c) e, (hp v hm).2⟩
  obtain ⟨fs, h1, h2, h3⟩ := it_firsts hp'
  refine ⟨tuples' true, fun Q E hq => ?_, it_cmp fun v hm => (hp' v hm).1⟩
  refine PySem.W.kat_kind (T := .type "int") h1 (by omega) (fun f hm => ?_) (by rfl) ?_
  · obtain ⟨x, t, rfl⟩ := h3 f hm
    exact PySem.W.Looks.now
  · have e : (Value.type "int" != Value.type "tuple") = true := by first | decide +kernel | rfl | decide
    rw [e]
    exact hq
end
section
variable {X : Cx}
def rSortedT3 (K : PySem.W.Frag) : List V → Hp → VK → Prop := fun vs H Q => ∃ (a : Addr) (xs : List V) (k : V → List Int), vs = [V.ref a] ∧ SqL K H a xs ∧ (∀ x ∈ xs, ∃ t, x = V.ref t ∧ SqT K H t ((k x).map V.int) ∧ k x ≠ []) ∧
  ∀ ys p, SrtO.Srtd (fun v u => HT.lexLt (k v) (k u)) ys → ys.Perm xs → H p = none → Q (.ref p) (upd H p (.lst ys))
theorem cr_sortedT3 : CallR X (.builtin "sorted") (rSortedT3 X.K) := by
  intro pins s σ H vs us Q I r h
  obtain ⟨a, xs, k, rfl, hs, hx, q⟩ := h
  obtain ⟨its, rv, hl, hz⟩ := I.list hs
  obtain ⟨u, rfl, ru⟩ := vals1 r
  obtain rfl : u = Value.ref a := ru
  obtain ⟨e1, e2⟩ := refs_back rv fun x m => by
    obtain ⟨t, e, _⟩ := hx x m
    exact ⟨t, e⟩
  have hit : ∀ v ∈ its, IsIT s.heap v (k (backV v)) ∧ k (backV v) ≠ [] := fun v hv => by
    obtain ⟨t, rfl⟩ := e2 v hv
    have hm : V.ref t ∈ xs := by rw [e1]; exact List.mem_map.mpr ⟨_, hv, rfl⟩
    obtain ⟨t', e, ht, ne⟩ := hx _ hm
    cases e
    obtain ⟨its2, r2, ⟨o, ho, hc, n, hd⟩, _⟩ := I.tuple ht
    exact ⟨⟨t, o, _, n, rfl, ho, hc, hd, intsAre_of r2⟩, ne⟩
  refine SrtO.sorted_ord (NtL.swo_lexL fun u => k (backV u)) hl.isList (by rw [← rv.length]; exact hz) (fun h2 h₁ a' ha' kk => ?_) fun out h1 h2 => ?_
  · refine it_sortable (s := { s with heap := h₁ }) (by omega) (fun v hm => ⟨(hit v hm).1.keeps fun b o e _ => (kk b o e).2, (hit v hm).2⟩) fun o e => ?_
    have e' : some o = some (seqObj "list" its.toArray 0) := e.symm.trans ha'
    cases e'
    intro c
    exact absurd (Value.type.inj c) (by decide)
  · have h3 : ∀ u ∈ out, ∃ a, u = Value.ref a := fun u hu => e2 u (h2.perm.mem_iff.mp hu)
    have hp : (out.map backV).Perm xs := by rw [e1]; exact h2.perm.map _
    obtain ⟨n, hn⟩ := sortedAll_at s.heap its out.toArray
    refine ⟨.ref (s.heap.objs.size + 1), upd H (s.heap.objs.size + 1) (.lst (out.map backV)), I.laid (t' := s.toks) (fun b o e => sortedAll_old e) (Nat.le_succ _) ⟨?_, out, n, vals_back h3, hn⟩, rfl, q _ _ (SrtO.srtd_map h1) hp (I.hok.fresh (Nat.le_succ _))⟩
    rw [hp.length_eq]
    exact hz
theorem op_inDK {K : PySem.W.Frag} (h : X.K = K) (hu : X.A.units + 65 < cLine) : OpR X (compareOp .In) (rInD K) := h ▸ op_inD hu
theorem op_notInDK {K : PySem.W.Frag} (h : X.K = K) (hu : X.A.units + 65 < cLine) : OpR X (compareOp .NotIn) (rNotInD K) := h ▸ op_notInD hu
theorem call_list_ofK {K : PySem.W.Frag} (h : X.K = K) : CallR X (.type "list") (fun xs H Q => ∃ p ys, xs = [.ref p] ∧ (SqL K H p ys ∨ SqT K H p ys) ∧ ∀ l, H l = none → Q (.ref l) (upd H l (.lst ys))) := h ▸ call_list_of
end
/-! ### a list of labels, sorted -/
def toIv : V → Int
  | .int i => i
  | _ => 0
def labK (H : Hp) : V → List Int
  | .ref t => match H t with | some (.tup xs) => xs.map toIv | _ => []
  | _ => []
theorem labK_at {H : Hp} {t : Addr} {L : List Int} (h : H t = some (.tup (L.map V.int))) : labK H (.ref t) = L := by
  show (match H t with | some (.tup xs) => xs.map toIv | _ => []) = L
  rw [h]
  show (L.map V.int).map toIv = L
  rw [List.map_map]
  exact List.map_id _
theorem lexLt_total : ∀ a b : List Int, HT.lexLt a b = false → HT.lexLt b a = false → a = b
  | [], [], _, _ => rfl
  | [], y :: s, h, _ => by rw [HT.lexLt_nil_cons] at h; cases h
  | x :: r, [], _, h => by rw [HT.lexLt_nil_cons] at h; cases h
  | x :: r, y :: s, h1, h2 => by
    rw [HT.lexLt_cons] at h1 h2
    by_cases e : x = y
    · subst e
      rw [if_pos rfl] at h1 h2
      rw [lexLt_total r s h1 h2]
    · rw [if_neg e] at h1
      rw [if_neg (fun z => e z.symm)] at h2
      have := of_decide_eq_false h1
      have := of_decide_eq_false h2
      omega
/-! ### order of data that are alike, and x in a tuple of data -/
section
variable {X : Cx}
def rCmpD (K : PySem.W.Frag) (f : PyData → PyData → Bool) : R2 := fun x y H Q => ∃ d e, Dp K H x d ∧ Dp K H y e ∧ PySem.W.alike d e = true ∧ d ≠ .none ∧ d.depth ≤ 60 ∧ Q (.bl (f d e)) H
theorem op_ltD (hu : X.A.units + 65 < cLine) : OpR X (compareOp .Lt) (rCmpD X.K fun d e => PySem.W.dataLt d e) := by
  intro pins s σ H x y v u Q I rx ry h
  obtain ⟨d, e, hd, he, al, nn, dep, q⟩ := h
  obtain ⟨as, r1⟩ := Dp.reads I d x v hd rx
  obtain ⟨bs, r2⟩ := Dp.reads I e y u he ry
  exact PySem.W.lt_data r1 r2 al nn (by omega) ⟨.bl _, H, I, rfl, q⟩
theorem op_leD (hu : X.A.units + 65 < cLine) : OpR X (compareOp .LtE) (rCmpD X.K fun d e => !PySem.W.dataLt e d) := by
  intro pins s σ H x y v u Q I rx ry h
  obtain ⟨d, e, hd, he, al, nn, dep, q⟩ := h
  obtain ⟨as, r1⟩ := Dp.reads I d x v hd rx
  obtain ⟨bs, r2⟩ := Dp.reads I e y u he ry
  exact PySem.W.le_data r1 r2 al nn (by omega) ⟨.bl _, H, I, rfl, q⟩
theorem op_gtD (hu : X.A.units + 65 < cLine) : OpR X (compareOp .Gt) (rCmpD X.K fun d e => PySem.W.dataLt e d) := by
  intro pins s σ H x y v u Q I rx ry h
  obtain ⟨d, e, hd, he, al, nn, dep, q⟩ := h
  obtain ⟨as, r1⟩ := Dp.reads I d x v hd rx
  obtain ⟨bs, r2⟩ := Dp.reads I e y u he ry
  exact PySem.W.gt_data r1 r2 al nn (by omega) ⟨.bl _, H, I, rfl, q⟩
theorem op_geD (hu : X.A.units + 65 < cLine) : OpR X (compareOp .GtE) (rCmpD X.K fun d e => !PySem.W.dataLt d e) := by
  intro pins s σ H x y v u Q I rx ry h
  obtain ⟨d, e, hd, he, al, nn, dep, q⟩ := h
  obtain ⟨as, r1⟩ := Dp.reads I d x v hd rx
  obtain ⟨bs, r2⟩ := Dp.reads I e y u he ry
  exact PySem.W.ge_data r1 r2 al nn (by omega) ⟨.bl _, H, I, rfl, q⟩
/-- x in c, c a list or a tuple of data -/
def rInDD (K : PySem.W.Frag) (neg : Bool) : R2 := fun x y H Q => ∃ d ds, Dp K H x d ∧ (Dp K H y (.list ds) ∨ Dp K H y (.tuple ds)) ∧ SeqAt.shaped d = true ∧ SeqAt.shaped (.list ds) = true ∧ Q (.bl (neg != ds.any fun z => PyData.eqv z d)) H
theorem op_inDD (hu : X.A.units + 65 < cLine) : OpR X (compareOp .In) (rInDD X.K false) := by
  intro pins s σ H x y v u Q I rx ry h
  obtain ⟨d, ds, hd, he, sd, se, q⟩ := h
  obtain ⟨as, r1⟩ := Dp.reads I d x v hd rx
  rw [Bool.false_bne] at q
  rcases he with he | he
  · obtain ⟨bs, r2⟩ := Dp.reads I (.list ds) y u he ry
    exact SeqAt.in_list_reads r2 r1 (SeqAt.canLay_of_shaped se) (SeqAt.canLay_of_shaped sd) (room_in_shaped sd hu) ⟨.bl _, H, I, rfl, q⟩
  · obtain ⟨bs, r2⟩ := Dp.reads I (.tuple ds) y u he ry
    exact SeqAt.in_tuple_reads r2 r1 (SeqAt.canLay_of_shaped se) (SeqAt.canLay_of_shaped sd) (room_in_shaped sd hu) ⟨.bl _, H, I, rfl, q⟩
theorem op_notInDD (hu : X.A.units + 65 < cLine) : OpR X (compareOp .NotIn) (rInDD X.K true) := by
  intro pins s σ H x y v u Q I rx ry h
  obtain ⟨d, ds, hd, he, sd, se, q⟩ := h
  obtain ⟨as, r1⟩ := Dp.reads I d x v hd rx
  rw [Bool.true_bne] at q
  rcases he with he | he
  · obtain ⟨bs, r2⟩ := Dp.reads I (.list ds) y u he ry
    exact SeqAt.notIn_list_reads r2 r1 (SeqAt.canLay_of_shaped se) (SeqAt.canLay_of_shaped sd) (room_in_shaped sd hu) ⟨.bl _, H, I, rfl, q⟩
  · obtain ⟨bs, r2⟩ := Dp.reads I (.tuple ds) y u he ry
    exact SeqAt.notIn_tuple_reads r2 r1 (SeqAt.canLay_of_shaped se) (SeqAt.canLay_of_shaped sd) (room_in_shaped sd hu) ⟨.bl _, H, I, rfl, q⟩
end
abbrev TO := PyProof.Rows.listOrd PyProof.Rows.itemOrd
theorem dlt_trans {a b c : PyData} (h1 : PySem.W.dataLt a b = true) (h2 : PySem.W.dataLt b c = true) : PySem.W.dataLt a c = true := TO.trans _ _ _ h1 h2
theorem dle_trans {a b c : PyData} (h1 : PySem.W.dataLt b a = false) (h2 : PySem.W.dataLt c b = false) : PySem.W.dataLt c a = false := by
  cases e : PySem.W.dataLt c a with
  | false => rfl
  | true =>
    rcases TO.negTrans _ (PySem.W.keyToks b) _ e with h | h
    · exact h.symm.trans h2
    · exact h.symm.trans h1
theorem dlt_irrefl (a : PyData) : PySem.W.dataLt a a = false := TO.irrefl _
/-- what the order of a label's signs says -/
theorem dlt_ints : ∀ L M : List Int, PyProof.Rows.lexLt PyProof.Rows.itemOrd (PySem.W.keyToksAll (L.map PyData.int)) (PySem.W.keyToksAll (M.map PyData.int)) = HT.lexLt L M
  | [], [] => by decide +kernel
  | [], y :: s => by
    show PyProof.Rows.lexLt PyProof.Rows.itemOrd (PySem.W.keyToksAll []) (PySem.W.keyToksAll (PyData.int y :: s.map PyData.int)) = true
    rw [PySem.W.toks_all_cons, PySem.W.keyToksAll, PySem.W.lex_atom (by simp), PySem.W.lex_one]
    decide +kernel
  | x :: r, [] => by
    show PyProof.Rows.lexLt PyProof.Rows.itemOrd (PySem.W.keyToksAll (PyData.int x :: r.map PyData.int)) (PySem.W.keyToksAll []) = false
    rw [PySem.W.toks_all_cons, PySem.W.keyToksAll, PySem.W.lex_atom (by simp), PySem.W.lex_one]
    decide +kernel
  | x :: r, y :: s => by
    show PyProof.Rows.lexLt PyProof.Rows.itemOrd (PySem.W.keyToksAll (PyData.int x :: r.map PyData.int)) (PySem.W.keyToksAll (PyData.int y :: s.map PyData.int)) = HT.lexLt (x :: r) (y :: s)
    rw [HT.lexLt_cons]
    have al : PySem.W.alike (.int x) (.int y) = true := rfl
    by_cases e : x = y
    · subst e
      rw [if_pos rfl, PySem.W.dataLt_all_yes al (by show (x == x) = true; exact beq_self_eq_true x)]
      exact dlt_ints r s
    · rw [if_neg e, PySem.W.dataLt_all_no al (by show (x == y) = false; exact beq_eq_false_iff_ne.mpr e), PySem.W.dataLt_int]
theorem dlt_L (L M : List Int) : PySem.W.dataLt (dL L) (dL M) = HT.lexLt L M := by
  unfold dL
  rw [PySem.W.dataLt_tuple, dlt_ints]
theorem alike_ints : ∀ L M : List Int, PySem.W.alikeAll (L.map PyData.int) (M.map PyData.int) = true
  | [], _ => by rw [List.map_nil, PySem.W.alikeAll]
  | _ :: _, [] => by rw [List.map_nil, List.map_cons, PySem.W.alikeAll]
  | _ :: r, _ :: s => by rw [List.map_cons, List.map_cons, PySem.W.alikeAll, alike_ints r s]; rfl
theorem alike_L (L M : List Int) : PySem.W.alike (dL L) (dL M) = true := by
  unfold dL
  rw [PySem.W.alike]
  exact alike_ints L M
theorem alike_P (p q : Pg) : PySem.W.alike (dP p) (dP q) = true := by
  unfold dP
  rw [PySem.W.alike, PySem.W.alikeAll, alike_L, PySem.W.alikeAll, PySem.W.alikeAll]
  rfl
theorem depthL (L : List Int) : (dL L).depth ≤ 1 := (lay_pn 1 _ (pn_L L)).2
theorem depthP (p : Pg) : (dP p).depth ≤ 2 := (lay_pn 2 _ (pn_P p)).2
theorem eqv_L (L M : List Int) : PyData.eqv (dL L) (dL M) = decide (L = M) := eqv_ints L M
theorem eqv_P (p q : Pg) : PyData.eqv (dP p) (dP q) = decide (p = q) := by
  show (PyData.eqv (dL p.1) (dL q.1) && ((p.2 == q.2) && true)) = _
  rw [eqv_L]
  by_cases h : p.1 = q.1
  · by_cases h2 : p.2 = q.2
    · have e : p = q := Prod.ext h h2
      subst e
      simp
    · have e : p ≠ q := fun z => h2 (by rw [z])
      simp [h, h2, e]
  · have e : p ≠ q := fun z => h (by rw [z])
    simp [h, e]
/-- pages in their order -/
def ltP (p q : Pg) : Bool := PySem.W.dataLt (dP p) (dP q)
def leP (p q : Pg) : Bool := !ltP q p
theorem leP_trans {p q r : Pg} (h1 : leP p q = true) (h2 : leP q r = true) : leP p r = true := by
  unfold leP ltP at *
  rw [Bool.not_eq_true'] at *
  exact dle_trans h1 h2
/-! ### the rules that speak of what is written, their fragment told (within a comprehension) -/
section
variable {X : Cx} {K : PySem.W.Frag}
theorem call_len_seqK (h : X.K = K) : CallR X (.builtin "len") (fun xs H Q => ∃ p ys, xs = [.ref p] ∧ (SqL K H p ys ∨ SqT K H p ys) ∧ Q (.int ys.length) H) := h ▸ call_len_seq
theorem cr_allK (h : X.K = K) (hc : X.calm = true) : CallR X (.builtin "all") (rAll K) := h ▸ cr_all hc
theorem cr_anyK (h : X.K = K) (hc : X.calm = true) : CallR X (.builtin "any") (rAny K) := h ▸ cr_any hc
theorem sl_listK (h : X.K = K) : SlR X (rSlL K) := h ▸ sl_list
theorem sl_tupAK (h : X.K = K) : SlR X (rSlA K) := h ▸ sl_tupA
theorem op_in_seqK (h : X.K = K) : OpR X (compareOp .In) (rIn K false) := h ▸ op_in_seq
theorem op_notIn_seqK (h : X.K = K) : OpR X (compareOp .NotIn) (rIn K true) := h ▸ op_notIn_seq
theorem op_eqDK (h : X.K = K) (hu : X.A.units + 64 < cLine) : OpR X (compareOp .Eq) (rEqD K) := h ▸ op_eqD hu
theorem op_neDK (h : X.K = K) (hu : X.A.units + 64 < cLine) : OpR X (compareOp .NotEq) (rNeD K) := h ▸ op_neD hu
theorem op_catAK (h : X.K = K) : OpR X (binaryOp .Add) (rCatA K) := h ▸ op_catA
theorem call_tuple_ofK (h : X.K = K) : CallR X (.type "tuple") (fun xs H Q => ∃ p ys, xs = [.ref p] ∧ ((SqL K H p ys ∧ ∀ l, H l = none → Q (.ref l) (upd H l (.tup ys))) ∨ (SqT K H p ys ∧ Q (.ref p) H))) := h ▸ call_tuple_of
theorem call_isiK' (h : X.K = K) : CallR X (.builtin "isinstance") (rIsi K) := h ▸ call_isi
theorem call_isiTK (h : X.K = K) : CallR X (.builtin "isinstance") (rIsiT K) := h ▸ call_isiT
theorem cr_sumK (h : X.K = K) (hc : X.calm = true) : CallR X (.builtin "sum") (rSum K) := h ▸ cr_sum hc
theorem cr_maxK (h : X.K = K) (hc : X.calm = true) : CallR X (.builtin "max") (rMax K) := h ▸ cr_max hc
theorem cr_minK (h : X.K = K) (hc : X.calm = true) : CallR X (.builtin "min") (rMin K) := h ▸ cr_min hc
theorem op_ltDK (h : X.K = K) (hu : X.A.units + 65 < cLine) : OpR X (compareOp .Lt) (rCmpD K fun d e => PySem.W.dataLt d e) := h ▸ op_ltD hu
theorem op_leDK (h : X.K = K) (hu : X.A.units + 65 < cLine) : OpR X (compareOp .LtE) (rCmpD K fun d e => !PySem.W.dataLt e d) := h ▸ op_leD hu
theorem op_gtDK (h : X.K = K) (hu : X.A.units + 65 < cLine) : OpR X (compareOp .Gt) (rCmpD K fun d e => PySem.W.dataLt e d) := h ▸ op_gtD hu
theorem op_geDK (h : X.K = K) (hu : X.A.units + 65 < cLine) : OpR X (compareOp .GtE) (rCmpD K fun d e => !PySem.W.dataLt d e) := h ▸ op_geD hu
theorem op_inDDK (h : X.K = K) (hu : X.A.units + 65 < cLine) : OpR X (compareOp .In) (rInDD K false) := h ▸ op_inDD hu
theorem op_notInDDK (h : X.K = K) (hu : X.A.units + 65 < cLine) : OpR X (compareOp .NotIn) (rInDD K true) := h ▸ op_notInDD hu
variable {tg l : Expr} {tl : TE}
theorem pi_listK (h : X.K = K) (hl : PE X l tl) : PI X tg l (iList K tl) := h ▸ pi_list hl
theorem pi_tupK (h : X.K = K) (hl : PE X l tl) : PI X tg l (iTup K tl) := h ▸ pi_tup hl
def tTru (K : PySem.W.Frag) (ta : TE) : TT := fun σ H Q => ta σ H fun x H' => ∃ k, TruV K x H' k ∧ Q k H'
theorem pt_truthK {a : Expr} {ta : TE} (h : X.K = K) (ha : PE X a ta) (he : ∀ whole, isTrue a X.env whole = (do let v ← whole; standAt a.pos; holding [v] (truthy v))) : L2.PT X a (tTru K ta) := h ▸ pt_truth ha he
theorem pe_fldK {e : Expr} {f : Str} {pos : Pos} {ta : TE} (h : X.K = K) (he : PE X e ta) (hb : attributeBase e f X.env (eval e X.env) = eval e X.env) : PE X (.Attribute e f pos) (tFld K ta f) := h ▸ pe_fld he hb
end
/-! ### what stays: all but lists; data of tracked tuples -/
def NL (H H' : Hp) : Prop := ∀ b o, H b = some o → (∀ ys, o ≠ .lst ys) → H' b = some o
theorem NL.refl (H : Hp) : NL H H := fun _ _ e _ => e
theorem NL.trans {H H1 H2 : Hp} (x : NL H H1) (y : NL H1 H2) : NL H H2 := fun b o e n => y b o (x b o e n) n
theorem NL.of {H H' : Hp} (x : Same H H') : NL H H' := fun b o e _ => x b o e
theorem NL.but {a : Addr} {H H' : Hp} {ys : List V} (x : But a H H') (h : H a = some (.lst ys)) : NL H H' := fun b o e n => x b o (fun z => by
  rw [z, h] at e
  exact n ys (Option.some.inj e).symm) e
theorem Src.nl {a : Addr} {H H' : Hp} (s : Src H a) (x : But a H H') : NL H H' := by
  obtain ⟨g, y, c, e⟩ := s
  exact NL.but x e
theorem NL.put {D : Addr} {H H' : Hp} {ys : List V} (x : NL H H') (h : H' D = some (.lst ys)) (o : HO) : NL H (upd H' D o) := fun b u e n => by
  have e' := x b u e n
  rw [upd_ne (fun z => by rw [z, h] at e'; exact n ys (Option.some.inj e').symm)]
  exact e'
theorem NL.new {D : Addr} {H H' : Hp} (x : NL H H') (h : H' D = none) (o : HO) : NL H (upd H' D o) := fun b u e n => by
  have e' := x b u e n
  rw [upd_ne (ne_of_none e' h)]
  exact e'
theorem NL.seqT {K : PySem.W.Frag} {H H' : Hp} {p : Addr} {xs : List V} (x : NL H H') (h : SqT K H p xs) : SqT K H' p xs :=
  h.elim (fun r => .inl (r.elim (fun e => .inl (x p _ e (fun _ z => nomatch z))) (fun ⟨o, e⟩ => .inr ⟨o, x p _ e (fun _ z => nomatch z)⟩))) .inr
mutual
inductive Tp (H : Hp) : V → PyData → Prop
  | non : Tp H .non .none
  | bl (b : Bool) : Tp H (.bl b) (.bool b)
  | int (i : Int) : Tp H (.int i) (.int i)
  | str (z : Str) : Tp H (.str z) (.str z)
  | tup {a : Addr} {vs : List V} {ds : List PyData} (h : H a = some (.tup vs)) (r : TpAll H vs ds) : Tp H (.ref a) (.tuple ds)
inductive TpAll (H : Hp) : List V → List PyData → Prop
  | nil : TpAll H [] []
  | cons {v : V} {vs : List V} {d : PyData} {ds : List PyData} (h : Tp H v d) (r : TpAll H vs ds) : TpAll H (v :: vs) (d :: ds)
end
mutual
theorem Tp.nl {H H' : Hp} (m : NL H H') : ∀ {v : V} {d : PyData}, Tp H v d → Tp H' v d
  | _, _, .non => .non
  | _, _, .bl b => .bl b
  | _, _, .int i => .int i
  | _, _, .str z => .str z
  | _, _, .tup h r => .tup (m _ _ h (fun _ z => nomatch z)) (TpAll.nl m r)
theorem TpAll.nl {H H' : Hp} (m : NL H H') : ∀ {vs : List V} {ds : List PyData}, TpAll H vs ds → TpAll H' vs ds
  | _, _, .nil => .nil
  | _, _, .cons h r => .cons (Tp.nl m h) (TpAll.nl m r)
end
mutual
theorem Tp.dp {K : PySem.W.Frag} {H : Hp} : ∀ {v : V} {d : PyData}, Tp H v d → Dp K H v d
  | _, _, .non => .non
  | _, _, .bl b => .bl b
  | _, _, .int i => .int i
  | _, _, .str z => .str z
  | _, _, .tup h r => .tup (.inl (.inl h)) (TpAll.dp r)
theorem TpAll.dp {K : PySem.W.Frag} {H : Hp} : ∀ {vs : List V} {ds : List PyData}, TpAll H vs ds → DpAll K H vs ds
  | _, _, .nil => .nil
  | _, _, .cons h r => .cons (Tp.dp h) (TpAll.dp r)
end
theorem TpAll.len {H : Hp} : ∀ {vs : List V} {ds : List PyData}, TpAll H vs ds → vs.length = ds.length
  | _, _, .nil => rfl
  | _, _, .cons _ r => congrArg (· + 1) (TpAll.len r)
theorem TpAll.snoc {H : Hp} : ∀ {vs : List V} {ds : List PyData} {v : V} {d : PyData}, TpAll H vs ds → Tp H v d → TpAll H (vs ++ [v]) (ds ++ [d])
  | _, _, _, _, .nil, h => .cons h .nil
  | _, _, _, _, .cons k r, h => .cons k (TpAll.snoc r h)
theorem TpAll.app {H : Hp} : ∀ {vs : List V} {ds : List PyData} {us : List V} {es : List PyData}, TpAll H vs ds → TpAll H us es → TpAll H (vs ++ us) (ds ++ es)
  | _, _, _, _, .nil, h => h
  | _, _, _, _, .cons k r, h => .cons k (TpAll.app r h)
theorem TpAll.get {H : Hp} : ∀ {vs : List V} {ds : List PyData} {i : Nat} {v : V}, TpAll H vs ds → vs[i]? = some v → ∃ d, ds[i]? = some d ∧ Tp H v d
  | _, _, _, _, .nil, e => nomatch e
  | _, _, 0, _, .cons h r, e => by
    injection e with e
    subst e
    exact ⟨_, rfl, h⟩
  | _, _, i + 1, _, .cons h r, e => by
    obtain ⟨d, e1, e2⟩ := TpAll.get (i := i) r e
    exact ⟨d, e1, e2⟩
theorem TpAll.get2 {H : Hp} {vs : List V} {ds : List PyData} {i : Nat} {d : PyData} (h : TpAll H vs ds) (e : ds[i]? = some d) : ∃ v, vs[i]? = some v ∧ Tp H v d := by
  have hi := (List.getElem?_eq_some_iff.mp e).1
  rw [← h.len] at hi
  have e1 := List.getElem?_eq_getElem hi
  obtain ⟨d', e2, e3⟩ := h.get e1
  rw [e] at e2
  injection e2 with e2
  subst e2
  exact ⟨_, e1, e3⟩
theorem TpAll.drop {H : Hp} : ∀ {vs : List V} {ds : List PyData} (n : Nat), TpAll H vs ds → TpAll H (vs.drop n) (ds.drop n)
  | _, _, 0, h => h
  | _, _, _ + 1, .nil => .nil
  | _, _, n + 1, .cons _ r => TpAll.drop n r
theorem TpAll.take {H : Hp} : ∀ {vs : List V} {ds : List PyData} (n : Nat), TpAll H vs ds → TpAll H (vs.take n) (ds.take n)
  | _, _, 0, _ => .nil
  | _, _, _ + 1, .nil => .nil
  | _, _, n + 1, .cons h r => .cons h (TpAll.take n r)
theorem TpAll.ints {H : Hp} : ∀ L : List Int, TpAll H (L.map V.int) (L.map PyData.int)
  | [] => .nil
  | i :: r => .cons (.int i) (TpAll.ints r)
theorem TpAll.strs {H : Hp} : ∀ L : List Str, TpAll H (L.map V.str) (L.map PyData.str)
  | [] => .nil
  | i :: r => .cons (.str i) (TpAll.strs r)
theorem TpAll.ints_inv {H : Hp} : ∀ {L : List Int} {vs : List V}, TpAll H vs (L.map PyData.int) → vs = L.map V.int
  | [], _, .nil => rfl
  | i :: r, _, .cons h a => by
    cases h
    rw [TpAll.ints_inv a]
    rfl
theorem TpAll.strs_inv {H : Hp} : ∀ {L : List Str} {vs : List V}, TpAll H vs (L.map PyData.str) → vs = L.map V.str
  | [], _, .nil => rfl
  | i :: r, _, .cons h a => by
    cases h
    rw [TpAll.strs_inv a]
    rfl
def dS (zs : List Str) : PyData := .tuple (zs.map PyData.str)
theorem tpL {H : Hp} {a : Addr} {L : List Int} (h : H a = some (.tup (L.map V.int))) : Tp H (.ref a) (dL L) := .tup h (.ints L)
theorem tpS {H : Hp} {a : Addr} {L : List Str} (h : H a = some (.tup (L.map V.str))) : Tp H (.ref a) (dS L) := .tup h (.strs L)
theorem tpL_inv {H : Hp} {v : V} {L : List Int} (h : Tp H v (dL L)) : ∃ a, v = .ref a ∧ H a = some (.tup (L.map V.int)) := by
  cases h with
  | tup h r => exact ⟨_, rfl, by rw [r.ints_inv] at h; exact h⟩
theorem tpS_inv {H : Hp} {v : V} {L : List Str} (h : Tp H v (dS L)) : ∃ a, v = .ref a ∧ H a = some (.tup (L.map V.str)) := by
  cases h with
  | tup h r => exact ⟨_, rfl, by rw [r.strs_inv] at h; exact h⟩
theorem tpP_inv {H : Hp} {v : V} {p : Pg} (h : Tp H v (dP p)) : ∃ a l, v = .ref a ∧ H a = some (.tup [.ref l, .int p.2]) ∧ H l = some (.tup (p.1.map V.int)) := by
  cases h with
  | tup h r =>
    cases r with
    | cons h1 r =>
      cases r with
      | cons h2 r =>
        cases r
        cases h2
        obtain ⟨l, rfl, hl⟩ := tpL_inv h1
        exact ⟨_, l, rfl, h, hl⟩
theorem tpP {H : Hp} {a l : Addr} {p : Pg} (h : H a = some (.tup [.ref l, .int p.2])) (hl : H l = some (.tup (p.1.map V.int))) : Tp H (.ref a) (dP p) := .tup h (.cons (tpL hl) (.cons (.int _) .nil))
theorem tpR_inv {H : Hp} {v : V} {r : Pg × Pg} (h : Tp H v (dR r)) : ∃ a x y, v = .ref a ∧ H a = some (.tup [x, y]) ∧ Tp H x (dP r.1) ∧ Tp H y (dP r.2) := by
  cases h with
  | tup h r =>
    cases r with
    | cons h1 r =>
      cases r with
      | cons h2 r =>
        cases r
        exact ⟨_, _, _, rfl, h, h1, h2⟩
theorem tpR {H : Hp} {a : Addr} {x y : V} {p q : Pg} (h : H a = some (.tup [x, y])) (h1 : Tp H x (dP p)) (h2 : Tp H y (dP q)) : Tp H (.ref a) (dR (p, q)) := .tup h (.cons h1 (.cons h2 .nil))
theorem smallM {n : Nat} (h : n < 1000000) : n < sizeLine := by rw [sizeLine_eq]; omega
theorem seqT_butI {K : PySem.W.Frag} {H H' : Hp} {x C dx p : Addr} {fs : List (Str × V)} {ys : List V} (hx : H x = some (.ins C dx fs)) (b : But x H H') (h : SqT K H p ys) : SqT K H' p ys :=
  h.elim (fun r => .inl (r.elim (fun e => .inl (b p _ (ne_of e hx (by intro z; cases z)) e)) (fun ⟨o, e⟩ => .inr ⟨o, b p _ (ne_of e hx (by intro z; cases z)) e⟩))) .inr
theorem tpAll_labs {H : Hp} : ∀ {us : List V} {Ls : List (List Int)}, TpAll H us (Ls.map dL) → us.map (labK H) = Ls ∧ ∀ u ∈ us, ∃ t, u = V.ref t ∧ H t = some (.tup ((labK H u).map V.int))
  | [], [], .nil => ⟨rfl, fun _ h => nomatch h⟩
  | _ :: _, L :: r, .cons h t => by
    obtain ⟨e1, e2⟩ := tpAll_labs t
    obtain ⟨a, rfl, ha⟩ := tpL_inv h
    have e3 := labK_at ha
    refine ⟨by rw [List.map_cons, e1, e3], fun u hu => ?_⟩
    rcases List.mem_cons.mp hu with h | h
    · rw [h]; exact ⟨a, rfl, by rw [e3]; exact ha⟩
    · exact e2 u h
theorem labs_tpAll {H : Hp} : ∀ {us : List V}, (∀ u ∈ us, ∃ t, u = V.ref t ∧ H t = some (.tup ((labK H u).map V.int))) → TpAll H us ((us.map (labK H)).map dL)
  | [], _ => .nil
  | u :: r, h => by
    obtain ⟨t, rfl, ht⟩ := h u (List.mem_cons_self ..)
    exact .cons (tpL ht) (labs_tpAll fun v hv => h v (List.mem_cons_of_mem _ hv))
theorem pn_Ls {Ls : List (List Int)} : SeqAt.shaped (.list (Ls.map dL)) = true := shaped_pnl (n := 1) (fun d hd => by obtain ⟨p, _, rfl⟩ := List.mem_map.mp hd; exact pn_L p) (by decide)
theorem shaped_L (L : List Int) : SeqAt.shaped (dL L) = true := shaped_pn (pn_L L) (by decide)
theorem in_L (L : List Int) (Ls : List (List Int)) : ((Ls.map dL).any fun z => PyData.eqv z (dL L)) = decide (L ∈ Ls) := by
  induction Ls with
  | nil => simp
  | cons q r ih =>
    rw [List.map_cons, List.any_cons, ih, eqv_L]
    by_cases h : q = L
    · subst h; simp
    · have : L ≠ q := fun z => h z.symm
      simp [h, this]
/-! ### data given as lists where it was tuples -/
def Pl : Nat → PyData → Prop
  | 0, _ => False
  | _ + 1, .int _ => True
  | n + 1, .tuple ds => ds.length ≤ 1000 ∧ ∀ d ∈ ds, Pl n d
  | _ + 1, _ => False
mutual
def toL : PyData → PyData
  | .tuple ds => .list (toLs ds)
  | d => d
def toLs : List PyData → List PyData
  | [] => []
  | d :: r => toL d :: toLs r
end
theorem toLs_map : ∀ ds : List PyData, toLs ds = ds.map toL
  | [] => rfl
  | d :: r => congrArg (toL d :: ·) (toLs_map r)
theorem toLs_ints (L : List Int) : toLs (L.map PyData.int) = L.map PyData.int := by
  induction L with
  | nil => rfl
  | cons i t ih => show PyData.int i :: toLs (t.map PyData.int) = _; rw [ih]; rfl
theorem lay_pl : ∀ (n : Nat) (d : PyData), Pl n d → (toL d).canLay0 = true ∧ (toL d).depth ≤ n
  | 0, _, h => h.elim
  | _ + 1, .int _, _ => ⟨rfl, Nat.zero_le _⟩
  | n + 1, .tuple ds, h => by
    have key : ∀ es : List PyData, (∀ d ∈ es, Pl n d) → PyData.canLayAll0 (toLs es) = true ∧ PyData.depthAll (toLs es) ≤ n := by
      intro es
      induction es with
      | nil => exact fun _ => ⟨rfl, Nat.zero_le _⟩
      | cons d r ih =>
        intro hh
        have h1 := lay_pl n d (hh d (List.mem_cons_self ..))
        have h2 := ih fun e he => hh e (List.mem_cons_of_mem _ he)
        refine ⟨?_, ?_⟩
        · show ((toL d).canLay0 && PyData.canLayAll0 (toLs r)) = true
          rw [h1.1, h2.1]
          rfl
        · show max (toL d).depth (PyData.depthAll (toLs r)) ≤ n
          omega
    have := key ds h.2
    exact ⟨this.1, Nat.succ_le_succ this.2⟩
  | _ + 1, .none, h => by simp [Pl] at h
  | _ + 1, .bool _, h => by simp [Pl] at h
  | _ + 1, .str _, h => by simp [Pl] at h
  | _ + 1, .list _, h => by simp [Pl] at h
  | _ + 1, .dict _, h => by simp [Pl] at h
theorem shaped_pl {n : Nat} {d : PyData} (h : Pl n d) (hn : n ≤ 64) : SeqAt.shaped (toL d) = true := by
  have := lay_pl n d h
  unfold SeqAt.shaped
  rw [Bool.and_eq_true]
  exact ⟨this.1, decide_eq_true (by omega)⟩
theorem eqv_pl {n : Nat} {d : PyData} (h : Pl n d) : PyData.eqv (toL d) (toL d) = true := SeqAt.eqv_refl _ (lay_pl n d h).1
theorem pl_dL {L : List Int} (h : L.length ≤ 1000) (n : Nat) : Pl (n + 2) (dL L) := ⟨by rw [List.length_map]; exact h, fun d hd => by
  obtain ⟨i, _, rfl⟩ := List.mem_map.mp hd
  exact trivial⟩
theorem pl_dP {p : Pg} (h : p.1.length ≤ 3) (n : Nat) : Pl (n + 3) (dP p) := ⟨(by show 2 ≤ 1000; decide), fun d hd => by
  rcases List.mem_cons.mp hd with rfl | hd
  · exact pl_dL (by omega) n
  · rw [List.mem_singleton.mp hd]; exact trivial⟩
theorem pl_dR' {r : Pg × Pg} (h : okP r.1 ∧ okP r.2) (n : Nat) : Pl (n + 4) (dR r) := ⟨(by show 2 ≤ 1000; decide), fun d hd => by
  rcases List.mem_cons.mp hd with rfl | hd
  · exact pl_dP h.1.1.1 n
  · rw [List.mem_singleton.mp hd]; exact pl_dP h.2.1.1 n⟩
theorem pl_tup {α : Type} {f : α → PyData} {n : Nat} {xs : List α} (h : ∀ x ∈ xs, Pl n (f x)) (hl : xs.length ≤ 1000) : Pl (n + 1) (.tuple (xs.map f)) := ⟨by rw [List.length_map]; exact hl, fun d hd => by
  obtain ⟨x, hx, rfl⟩ := List.mem_map.mp hd
  exact h x hx⟩
/-! ### list comprehensions whose turns change nothing that stood -/
theorem walkL {K : PySem.W.Frag} {a : Addr} {xs : List V} {n : Nat} (h : xs.length = n) : Walk (Itl K a) n (fun H => SqL K H a xs) (YAt xs) := h ▸ walk_list
theorem walkT {K : PySem.W.Frag} {a : Addr} {xs : List V} {n : Nat} (h : xs.length = n) : Walk (Itt K a) n (fun H => SqT K H a xs) (YAt xs) := h ▸ walk_tup
theorem walk_zipT {K : PySem.W.Frag} {a b : Addr} {xs ys : List V} {n : Nat} (hn : n = min xs.length ys.length) : Walk (RZ.ItzT K a b) n (fun H => SqT K H a xs ∧ SqT K H b ys) (YPair (fun i => xs[i]?) (fun i => ys[i]?)) := by
  subst hn
  refine ⟨fun i _ hi q => ?_, fun _ q => ⟨xs, ys, q.1, q.2, by omega⟩, fun i H v H' _ q y => ?_⟩
  · have h1 : i < xs.length := by omega
    have h2 : i < ys.length := by omega
    exact ⟨xs, ys, xs[i], ys[i], q.1, q.2, by simp [h1], by simp [h2]⟩
  · obtain ⟨p, x, z, h1, h2, h3, h4, h5⟩ := y
    exact ⟨p, x, z, h1, h2, h3, h4 xs q.1, h5 ys q.2⟩
section
variable {J : It} {G : Hp → Prop} {Y : Nat → Hp → V → Hp → Prop} {g : TG} {tt : TT} {te : TE} {vs : List Nat} {σ : L2.St} {H1 : Hp} {D : Addr} {Qd : Hp → Prop} {α : Type}
theorem fm_step {β : Type} {ds : List α} {f : α → Option β} {i : Nat} {d : α} (e : ds[i]? = some d) : (ds.take (i + 1)).filterMap f = (ds.take i).filterMap f ++ (f d).toList := by
  rw [List.take_add_one, e, List.filterMap_append, Option.toList_some, List.filterMap_cons, List.filterMap_nil]
  cases f d <;> rfl
theorem fm_len {β : Type} (ds : List α) (f : α → Option β) (i : Nat) : ((ds.take i).filterMap f).length ≤ ds.length := Nat.le_trans (List.length_filterMap_le ..) (by rw [List.length_take]; omega)
/-- the values are known -/
theorem lc_fm (ds : List α) (f : α → Option V) (w : Walk J ds.length G Y) (nD : H1 D = none) (hG : ∀ H, Same H1 H → G H) (hl : ds.length ≤ 100000)
    (hs : ∀ i d x H H', ds[i]? = some d → Same H1 H → Y i H x H' → ∀ (R : V → Hp → Prop) (N : Hp → Prop), (∀ v, f d = some v → ∀ H4, Same H H4 → R v H4) → (f d = none → ∀ H4, Same H H4 → N H4) →
      g x (wipe σ vs) H' fun σ2 H2 => wipe σ2 vs = wipe σ vs ∧ tt σ2 H2 fun b H3 => if b = true then te σ2 H3 R else N H3)
    (hd : ∀ H, Same H1 H → H D = some (.lst (ds.filterMap f)) → Qd H) :
    ∃ W : Nat → Nat → Hp → Prop, (∃ m, W 0 m (upd H1 D (.lst []))) ∧ ∀ i m H, W i m H →
      (J.stop i H ∧ Qd H) ∨ (J.go i H ∧ ∃ Nx : Hp → Prop, (∀ H', Nx H' → ∃ m', m' < m ∧ W (i + 1) m' H') ∧ ∀ x H', J.yld i H x H' → g x (wipe σ vs) H' fun σ2 H2 => wipe σ2 vs = wipe σ vs ∧ tt σ2 H2 fun b H3 =>
        if b = true then te σ2 H3 fun y H4 => ∃ acc, H4 D = some (.lst acc) ∧ acc.length < sizeLine ∧ Nx (upd H4 D (.lst (acc ++ [y]))) else Nx H3) := by
  refine lc_it w (fun i H => Same H1 H ∧ H D = some (.lst ((ds.take i).filterMap f))) ⟨same_upd nD, upd_same⟩ (fun i H _ h => hG H h.1) (fun i x H H' hi ⟨sm, eD⟩ y => ?_) (fun H ⟨sm, eD⟩ => hd H sm (by rw [List.take_length] at eD; exact eD))
  have ei := List.getElem?_eq_getElem hi
  refine hs i ds[i] x H H' ei sm y _ _ (fun v ev H4 s4 => ?_) (fun en H4 s4 => ?_)
  · refine ⟨_, s4 _ _ eD, ?_, same_put (sm.trans s4) nD _, ?_⟩
    · have := fm_len ds f i
      exact Nat.lt_of_le_of_lt (Nat.le_trans this hl) (by decide)
    · rw [upd_same, fm_step ei, ev]
      rfl
  · refine ⟨sm.trans s4, ?_⟩
    rw [fm_step ei, en, s4 _ _ eD]
    simp
/-- the data are known, all of tracked tuples -/
theorem lc_tp (ds : List α) (f : α → Option PyData) (w : Walk J ds.length G Y) (nD : H1 D = none) (hG : ∀ H, Same H1 H → G H) (hl : ds.length ≤ 100000)
    (hs : ∀ i d x H H', ds[i]? = some d → Same H1 H → Y i H x H' → ∀ (R : V → Hp → Prop) (N : Hp → Prop), (∀ v e, f d = some e → ∀ H4, Same H H4 → Tp H4 v e → R v H4) → (f d = none → ∀ H4, Same H H4 → N H4) →
      g x (wipe σ vs) H' fun σ2 H2 => wipe σ2 vs = wipe σ vs ∧ tt σ2 H2 fun b H3 => if b = true then te σ2 H3 R else N H3)
    (hd : ∀ H us, Same H1 H → H D = some (.lst us) → TpAll H us (ds.filterMap f) → Qd H) :
    ∃ W : Nat → Nat → Hp → Prop, (∃ m, W 0 m (upd H1 D (.lst []))) ∧ ∀ i m H, W i m H →
      (J.stop i H ∧ Qd H) ∨ (J.go i H ∧ ∃ Nx : Hp → Prop, (∀ H', Nx H' → ∃ m', m' < m ∧ W (i + 1) m' H') ∧ ∀ x H', J.yld i H x H' → g x (wipe σ vs) H' fun σ2 H2 => wipe σ2 vs = wipe σ vs ∧ tt σ2 H2 fun b H3 =>
        if b = true then te σ2 H3 fun y H4 => ∃ acc, H4 D = some (.lst acc) ∧ acc.length < sizeLine ∧ Nx (upd H4 D (.lst (acc ++ [y]))) else Nx H3) := by
  refine lc_it w (fun i H => Same H1 H ∧ ∃ us, H D = some (.lst us) ∧ TpAll H us ((ds.take i).filterMap f)) ⟨same_upd nD, [], upd_same, .nil⟩ (fun i H _ h => hG H h.1) (fun i x H H' hi ⟨sm, us, eD, tp⟩ y => ?_) (fun H ⟨sm, us, eD, tp⟩ => hd H us sm eD (by rw [List.take_length] at tp; exact tp))
  have ei := List.getElem?_eq_getElem hi
  refine hs i ds[i] x H H' ei sm y _ _ (fun v e ev H4 s4 tv => ?_) (fun en H4 s4 => ?_)
  · have e4 := s4 _ _ eD
    refine ⟨us, e4, ?_, same_put (sm.trans s4) nD _, us ++ [v], upd_same, ?_⟩
    · have := fm_len ds f i
      rw [← tp.len] at this
      exact Nat.lt_of_le_of_lt (Nat.le_trans this hl) (by decide)
    · rw [fm_step ei, ev]
      have m := (NL.refl H4).put e4 (.lst (us ++ [v]))
      exact ((tp.nl (NL.of s4)).nl m).snoc (tv.nl m)
  · refine ⟨sm.trans s4, us, s4 _ _ eD, ?_⟩
    rw [fm_step ei, en]
    simpa using tp.nl (NL.of s4)
end
theorem map_fm {α β : Type} (f : α → β) (ds : List α) : ds.filterMap (fun d => some (f d)) = ds.map f := by
  induction ds with
  | nil => rfl
  | cons d r ih => rw [List.filterMap_cons, ih]; rfl
theorem fm_filter {α β : Type} (p : α → Bool) (f : α → β) (ds : List α) : ds.filterMap (fun d => if p d = true then some (f d) else none) = (ds.filter p).map f := by
  induction ds with
  | nil => rfl
  | cons d r ih =>
    rw [List.filterMap_cons]
    cases e : p d with
    | true => rw [if_pos rfl, List.filter_cons_of_pos e, List.map_cons, ih]
    | false => rw [if_neg (by decide), List.filter_cons_of_neg (by rw [e]; decide), ih]
theorem all_map {α : Type} (p : α → Bool) (ds : List α) : (ds.map p).all id = ds.all p := by
  induction ds with
  | nil => rfl
  | cons d r ih => rw [List.map_cons, List.all_cons, List.all_cons, ih]; rfl
theorem any_map {α : Type} (p : α → Bool) (ds : List α) : (ds.map p).any id = ds.any p := by
  induction ds with
  | nil => rfl
  | cons d r ih => rw [List.map_cons, List.any_cons, List.any_cons, ih]; rfl
/-! ### two fors -/
section
variable {J J1 : It} {n n1 : Nat} {G G1 : Hp → Prop} {Y Y1 : Nat → Hp → V → Hp → Prop} {wi1 : TI} {g g1 : TG} {tt tt1 : TT} {te : TE} {vs vs1 : List Nat} {σ σ2 : L2.St} {H1 H4 : Hp} {D : Addr} {Qd Nx : Hp → Prop}
/-- the inner for, begun at H4 -/
theorem in2_it (w : Walk J1 n1 G1 Y1) (Pv : Nat → Hp → Prop) (h0 : Pv 0 H4) (hG : ∀ i H, i ≤ n1 → Pv i H → G1 H)
    (hs : ∀ i x H H', i < n1 → Pv i H → Y1 i H x H' → g1 x (wipe σ2 vs1) H' fun σ3 H5 => wipe σ3 vs1 = wipe σ2 vs1 ∧ tt1 σ3 H5 fun b H6 =>
      if b = true then te σ3 H6 fun y H7 => ∃ acc, H7 D = some (.lst acc) ∧ acc.length < sizeLine ∧ Pv (i + 1) (upd H7 D (.lst (acc ++ [y]))) else Pv (i + 1) H6) (hd : ∀ H, Pv n1 H → Nx H) :
    ∃ W1 : Nat → Nat → Hp → Prop, (∃ m, W1 0 m H4) ∧ ∀ j k H, W1 j k H →
      (J1.stop j H ∧ Nx H) ∨ (J1.go j H ∧ ∃ Nx1 : Hp → Prop, (∀ H', Nx1 H' → ∃ k', k' < k ∧ W1 (j + 1) k' H') ∧ ∀ x H', J1.yld j H x H' → g1 x (wipe σ2 vs1) H' fun σ3 H5 => wipe σ3 vs1 = wipe σ2 vs1 ∧ tt1 σ3 H5 fun b H6 =>
        if b = true then te σ3 H6 fun y H7 => ∃ acc, H7 D = some (.lst acc) ∧ acc.length < sizeLine ∧ Nx1 (upd H7 D (.lst (acc ++ [y]))) else Nx1 H6) := by
  refine ⟨fun i m H => m = n1 - i ∧ i ≤ n1 ∧ Pv i H, ⟨n1, by simp, Nat.zero_le _, h0⟩, ?_⟩
  rintro i m H ⟨rfl, hi, p⟩
  have q := hG i H hi p
  by_cases hlt : i < n1
  · exact .inr ⟨w.goes i H hlt q, Pv (i + 1), fun H' p' => ⟨n1 - (i + 1), by omega, rfl, hlt, p'⟩, fun x H' y => hs i x H H' hlt p (w.yields i H x H' hlt q y)⟩
  · have e : i = n1 := by omega
    subst e
    exact .inl ⟨w.stops H q, hd H p⟩
/-- the outer for: what the inner one is asked for, as it stands -/
theorem lc2_it (w : Walk J n G Y) (Pv : Nat → Hp → Prop) (h0 : Pv 0 (upd H1 D (.lst []))) (hG : ∀ i H, i ≤ n → Pv i H → G H)
    (hs : ∀ i x H H', i < n → Pv i H → Y i H x H' → g x (wipe σ vs) H' fun σ2 H2 => wipe σ2 vs = wipe σ vs ∧ tt σ2 H2 fun b H3 =>
      if b = true then wi1 σ2 H3 fun J1 H4 => ∃ W1 : Nat → Nat → Hp → Prop, (∃ m, W1 0 m H4) ∧ ∀ j k H, W1 j k H →
        (J1.stop j H ∧ Pv (i + 1) H) ∨ (J1.go j H ∧ ∃ Nx1 : Hp → Prop, (∀ H', Nx1 H' → ∃ k', k' < k ∧ W1 (j + 1) k' H') ∧ ∀ x H', J1.yld j H x H' → g1 x (wipe σ2 vs1) H' fun σ3 H5 => wipe σ3 vs1 = wipe σ2 vs1 ∧ tt1 σ3 H5 fun b H6 =>
          if b = true then te σ3 H6 fun y H7 => ∃ acc, H7 D = some (.lst acc) ∧ acc.length < sizeLine ∧ Nx1 (upd H7 D (.lst (acc ++ [y]))) else Nx1 H6)
      else Pv (i + 1) H3) (hd : ∀ H, Pv n H → Qd H) :
    ∃ W : Nat → Nat → Hp → Prop, (∃ m, W 0 m (upd H1 D (.lst []))) ∧ ∀ i m H, W i m H →
      (J.stop i H ∧ Qd H) ∨ (J.go i H ∧ ∃ Nx : Hp → Prop, (∀ H', Nx H' → ∃ m', m' < m ∧ W (i + 1) m' H') ∧ ∀ x H', J.yld i H x H' → g x (wipe σ vs) H' fun σ2 H2 => wipe σ2 vs = wipe σ vs ∧ tt σ2 H2 fun b H3 =>
        if b = true then wi1 σ2 H3 fun J1 H4 => ∃ W1 : Nat → Nat → Hp → Prop, (∃ m, W1 0 m H4) ∧ ∀ j k H, W1 j k H →
          (J1.stop j H ∧ Nx H) ∨ (J1.go j H ∧ ∃ Nx1 : Hp → Prop, (∀ H', Nx1 H' → ∃ k', k' < k ∧ W1 (j + 1) k' H') ∧ ∀ x H', J1.yld j H x H' → g1 x (wipe σ2 vs1) H' fun σ3 H5 => wipe σ3 vs1 = wipe σ2 vs1 ∧ tt1 σ3 H5 fun b H6 =>
            if b = true then te σ3 H6 fun y H7 => ∃ acc, H7 D = some (.lst acc) ∧ acc.length < sizeLine ∧ Nx1 (upd H7 D (.lst (acc ++ [y]))) else Nx1 H6)
        else Nx H3) := by
  refine ⟨fun i m H => m = n - i ∧ i ≤ n ∧ Pv i H, ⟨n, by simp, Nat.zero_le _, h0⟩, ?_⟩
  rintro i m H ⟨rfl, hi, p⟩
  have q := hG i H hi p
  by_cases hlt : i < n
  · exact .inr ⟨w.goes i H hlt q, Pv (i + 1), fun H' p' => ⟨n - (i + 1), by omega, rfl, hlt, p'⟩, fun x H' y => hs i x H H' hlt p (w.yields i H x H' hlt q y)⟩
  · have e : i = n := by omega
    subst e
    exact .inl ⟨w.stops H q, hd H p⟩
end
section
variable {K : PySem.W.Frag} {J : It} {G : Hp → Prop} {Y : Nat → Hp → V → Hp → Prop} {g : TG} {tt : TT} {te : TE} {vs : List Nat} {σ : L2.St} {H1 : Hp} {D : Addr} {Qd : Hp → Prop} {α : Type}
/-- the data are known, without lists -/
theorem lc_dp (ds : List α) (f : α → Option PyData) (hn : ∀ d e, f d = some e → ∃ n, Nl n e) (w : Walk J ds.length G Y) (nD : H1 D = none) (hG : ∀ H, Same H1 H → G H) (hl : ds.length ≤ 100000)
    (hs : ∀ i d x H H', ds[i]? = some d → Same H1 H → Y i H x H' → ∀ (R : V → Hp → Prop) (N : Hp → Prop), (∀ v e, f d = some e → ∀ H4, Same H H4 → Dp K H4 v e → R v H4) → (f d = none → ∀ H4, Same H H4 → N H4) →
      g x (wipe σ vs) H' fun σ2 H2 => wipe σ2 vs = wipe σ vs ∧ tt σ2 H2 fun b H3 => if b = true then te σ2 H3 R else N H3)
    (hd : ∀ H us, Same H1 H → H D = some (.lst us) → DpAll K H us (ds.filterMap f) → Qd H) :
    ∃ W : Nat → Nat → Hp → Prop, (∃ m, W 0 m (upd H1 D (.lst []))) ∧ ∀ i m H, W i m H →
      (J.stop i H ∧ Qd H) ∨ (J.go i H ∧ ∃ Nx : Hp → Prop, (∀ H', Nx H' → ∃ m', m' < m ∧ W (i + 1) m' H') ∧ ∀ x H', J.yld i H x H' → g x (wipe σ vs) H' fun σ2 H2 => wipe σ2 vs = wipe σ vs ∧ tt σ2 H2 fun b H3 =>
        if b = true then te σ2 H3 fun y H4 => ∃ acc, H4 D = some (.lst acc) ∧ acc.length < sizeLine ∧ Nx (upd H4 D (.lst (acc ++ [y]))) else Nx H3) := by
  refine lc_it w (fun i H => Same H1 H ∧ ∃ us, H D = some (.lst us) ∧ DpAll K H us ((ds.take i).filterMap f)) ⟨same_upd nD, [], upd_same, .nil⟩ (fun i H _ h => hG H h.1) (fun i x H H' hi ⟨sm, us, eD, tp⟩ y => ?_) (fun H ⟨sm, us, eD, tp⟩ => hd H us sm eD (by rw [List.take_length] at tp; exact tp))
  have ei := List.getElem?_eq_getElem hi
  refine hs i ds[i] x H H' ei sm y _ _ (fun v e ev H4 s4 tv => ?_) (fun en H4 s4 => ?_)
  · have e4 := s4 _ _ eD
    refine ⟨us, e4, ?_, same_put (sm.trans s4) nD _, us ++ [v], upd_same, ?_⟩
    · have := fm_len ds f i
      rw [← dpAll_len tp] at this
      exact Nat.lt_of_le_of_lt (Nat.le_trans this hl) (by decide)
    · rw [fm_step ei, ev]
      refine dpAll_snoc (dpAll_butN e4 (But.upd _) (dpAll_same s4 tp) fun d hd => ?_) (dp_butN e4 (But.upd _) tv (hn _ _ ev))
      obtain ⟨a, _, ea⟩ := List.mem_filterMap.mp hd
      exact hn _ _ ea
  · refine ⟨sm.trans s4, us, s4 _ _ eD, ?_⟩
    rw [fm_step ei, en]
    simpa using dpAll_same s4 tp
end
theorem nl_P (p : Pg) : ∃ n, Nl n (dP p) := ⟨2, fun d hd => by
  rcases List.mem_cons.mp hd with h | h
  · rw [h]
    exact fun e he => by
      obtain ⟨i, _, rfl⟩ := List.mem_map.mp he
      trivial
  · rw [List.mem_singleton.mp h]; trivial⟩
theorem nl_oP (o : Option Pg) : ∃ n, Nl n (oD dP o) := by
  cases o with
  | none => exact ⟨0, trivial⟩
  | some p => exact nl_P p
theorem in_P (p : Pg) (ps : List Pg) : ((ps.map dP).any fun z => PyData.eqv z (dP p)) = decide (p ∈ ps) := by
  induction ps with
  | nil => simp
  | cons q r ih =>
    rw [List.map_cons, List.any_cons, ih, eqv_P]
    by_cases h : q = p
    · subst h; simp
    · have : p ≠ q := fun z => h z.symm
      simp [h, this]
theorem shaped_P (p : Pg) : SeqAt.shaped (dP p) = true := shaped_pn (pn_P p) (by decide)
theorem shaped_Ps (ps : List Pg) : SeqAt.shaped (.list (ps.map dP)) = true := shaped_pnl (n := 2) (fun d hd => by obtain ⟨p, _, rfl⟩ := List.mem_map.mp hd; exact pn_P p) (by decide)
theorem nl_R (r : Pg × Pg) : ∃ n, Nl n (dR r) := ⟨3, fun d hd => by
  have two : ∀ p : Pg, Nl 2 (dP p) := fun p e he => by
    rcases List.mem_cons.mp he with h | h
    · rw [h]
      exact fun e he => by
        obtain ⟨i, _, rfl⟩ := List.mem_map.mp he
        trivial
    · rw [List.mem_singleton.mp h]; trivial
  rcases List.mem_cons.mp hd with h | h
  · rw [h]; exact two _
  · rw [List.mem_singleton.mp h]; exact two _⟩
/-! ### a list comprehension whose element may let an error out -/
section
variable {X : Cx}
theorem flying_less {B h : Heap} {C a : Addr} {l : List Env} {Z : Obj → Prop} (fl : HandSPX.FlyingZ B l a Z h) : HandSPX.FlyingZ (PySem.W.hideAll B [C]) l a Z h := by
  obtain ⟨k1, k2, k3, oe, vs, T, oT, ts, he, hz, hd, h1, hnT, r⟩ := fl
  have sub : ∀ {b : Addr}, B.get? b = none → (PySem.W.hideAll B [C]).get? b = none := fun {b} e => by
    cases q : (PySem.W.hideAll B [C]).get? b with
    | none => rfl
    | some o => rw [PySem.W.of_hideAll _ q] at e; cases e
  exact ⟨fun b o e => k1 b o (PySem.W.of_hideAll _ e), sub k2, funFrames_none k3 fun b hb => sub (k3.mem hb).1, oe, vs, T, oT, ts, he, hz, hd, h1, sub hnT, r⟩
/-- an error of a call within the block, noted by the def's own frame, flies on behind the block -/
theorem blk_note {E : XK} {cenv : Env} {s3 s s' : Shared} {H3 H : Hp} {scope : Scope} {fp : List Addr} {σ0 σ : L2.St} {pinsX pins : List (Addr × Obj)} {u : Value}
    (tk : Takes X (fun cls d _ H => E cls d H)) (hs : X.stack = X.env :: X.outer) (hf : X.env.frame = some X.env.locals) (hce : cenv.frame = X.env.frame) (I3 : Inv X pinsX σ0 H3 s3)
    (hch : ∀ b ∈ fp, (b ∈ X.ex ∨ X.s_0.heap.objs.size ≤ b) ∧ b ≠ X.env.locals ∧ (∀ x c, X.env.cells.lookup x = some c → c ≠ b) ∧ ∀ p ∈ X.pn ++ pinsX, p.1 ≠ b)
    (I : Inv (X.blk s3 H3 scope cenv fp) pins σ H s) (c : L2.CX X.prog X.w X.stack H s E u s') :
    notedBy (model X.prog X.w) X.A cenv (CompFails (model X.prog X.w) X.A X.xe cenv) u s' := by
  obtain ⟨a, B, H', cls, d, rfl, fl, hok, ub, na, os, ag, hE⟩ := c
  have hfr : X.A.frames = some (X.env :: X.outer) := by rw [I3.ok.frames, hs]
  obtain ⟨m, ⟨oL, es, ep, hoL, hdL, rL⟩, _⟩ := I.loc
  have abv : s3.heap.objs.size ≤ cenv.locals := I.ok.above
  have nC3 : ∀ b o, s3.heap.get? b = some o → b ≠ cenv.locals := fun b o e z => by
    have := Heap.lt_size e
    rw [z] at this
    exact absurd (Nat.lt_of_lt_of_le this abv) (Nat.lt_irrefl _)
  have nCs : cenv.locals ∉ frs X.stack := fun hm => by
    obtain ⟨_, o, e, _⟩ := I3.stack.mem hm
    exact nC3 _ o e rfl
  have hC0 : H cenv.locals = none := I.free
  have eB : B.get? cenv.locals = some oL := ub.keep _ oL hoL hC0 nCs
  have hC1 : H' cenv.locals = none := ub.free _ oL hoL hC0
  have toB2 : ∀ {b : Addr} {o : Obj}, B.get? b = some o → b ≠ cenv.locals → (PySem.W.hideAll B [cenv.locals]).get? b = some o := fun {b o} e n => PySem.W.hideAll_get _ e (fun hm => n (List.mem_singleton.mp hm))
  have ofB2 : ∀ {b : Addr} {o : Obj}, (PySem.W.hideAll B [cenv.locals]).get? b = some o → B.get? b = some o ∧ b ≠ cenv.locals := fun {b o} e => ⟨PySem.W.of_hideAll _ e, fun z => by
    rw [PySem.W.hideAll_none _ (List.mem_singleton.mpr z)] at e; cases e⟩
  have hok2 : HOk X.prog X.w H' (PySem.W.hideAll B [cenv.locals]) := fun b o q => (hok b o q).stay (fun c u hc r => toB2 r fun z => by
    rw [z] at hc
    rcases hc with hc | hc
    · rw [← hc, hC1] at q; cases q
    · rw [hC1] at hc; cases hc) (fun _ r => r) fun _ _ r => r
  have fl2 := flying_less (C := cenv.locals) fl
  -- the state ahead of the call, the block's names let go
  have hidS : ∀ {b : Addr} {o : Obj}, s.heap.get? b = some o → b ≠ cenv.locals → (PySem.W.hideAll s.heap [cenv.locals]).get? b = some o := fun {b o} e n => PySem.W.hideAll_get _ e (fun hm => n (List.mem_singleton.mp hm))
  have ofS : ∀ {b : Addr} {o : Obj}, (PySem.W.hideAll s.heap [cenv.locals]).get? b = some o → s.heap.get? b = some o ∧ b ≠ cenv.locals := fun {b o} e => ⟨PySem.W.of_hideAll _ e, fun z => by
    rw [PySem.W.hideAll_none _ (List.mem_singleton.mpr z)] at e; cases e⟩
  have IX : Inv X pinsX σ0 H { s with heap := PySem.W.hideAll s.heap [cenv.locals] } := by
    refine I3.call' (ch := fp) I.os ⟨fun b o e n h1 h2 => hidS (I.base.keep b o e n h1 h2) (nC3 b o e), fun b o e n h1 h2 => ?_, fun b o e n h => I.base.free b o e n h, fun b o e h => ?_, I.base.tups, I.base.frzs, I.base.tbls⟩ (fun b o q => (I.hok b o q).stay (fun c u hc r => hidS r fun z => by
      rw [z] at hc
      rcases hc with hc | hc
      · rw [← hc, hC0] at q; cases q
      · rw [hC0] at hc; cases hc) (fun _ r => r) fun _ _ r => r) I.bare hch
    · obtain ⟨sl, q⟩ := I.base.slot b o e n h1 h2
      exact ⟨sl, hidS q (nC3 b o e)⟩
    · obtain ⟨o', q⟩ := I.base.there b o e h
      exact ⟨o', hidS q (nC3 b o e)⟩
  show wpAny _ _ (noteFrame (.ref a) cenv) _ _ s'
  rw [noteFrame_env _ hce]
  have fl3 : HandSPX.FlyingZ (PySem.W.hideAll B [cenv.locals]) (X.env :: X.outer) a (Zc cls d) s'.heap := by rw [← hs]; exact fl2
  refine HandSPX.looks_onZ Zc.steady hfr hf fl3 fun h1 hh up1 => ?_
  have eC : ∃ sl, h1.get? cenv.locals = some { oL with slots := sl } := up1 _ oL (fl.1 _ _ eB) fun vs q => by rw [hdL] at q; cases q
  obtain ⟨slC, eC⟩ := eC
  refine ⟨m, ⟨_, es, ep, eC, hdL, rL⟩, fun h2 m2 hn2 hs2 => ?_⟩
  obtain ⟨g1, g2, g3, oe, vs, T, oT, ts, he, hz, hd, h11, hnT, hTe, hT, hdT, h33⟩ := hh
  have neA : a ≠ cenv.locals := fun z => by
    rw [z, eC] at he; cases he
    rw [show ({ oL with slots := slC } : Obj).data = oL.data from rfl, hdL] at hd; cases hd
  have neT : T ≠ cenv.locals := fun z => by
    rw [z, eC] at hT; cases hT
    rw [show ({ oL with slots := slC } : Obj).data = oL.data from rfl, hdL] at hdT; cases hdT
  have he2 : h2.get? a = some oe := (hs2.2 a neA).trans he
  have hT2 : h2.get? T = some oT := (hs2.2 T neT).trans hT
  have hh2 : HandSPX.HeldZ (PySem.W.hideAll B [cenv.locals]) (X.env :: X.outer) a (Zc cls d) X.env.locals h2 :=
    ⟨fun b o e => (hs2.2 b (ofB2 e).2).trans (g1 b o e), g2, Heap.FunFrames.sameBut hs2 hn2 g3, oe, vs, T, oT, ts, he2, hz, hd, h11, hnT, hTe, hT2, hdT, h33⟩
  unfold PySem.passOn
  refine wpAny_bind (wpAny_field he2 hd h11 ?_)
  rw [if_neg (show ¬ ((Value.ref T == Value.none) = true) from by simp)]
  rw [show cenv.frame = some X.env.locals from hce.trans hf]
  refine wpAny_bind (HandSPX.setFlight_onZ hh2 fun h3 hh3 up3 => ?_)
  refine wpAny_throw (tk _ _ ?_)
  have upA : ∀ b o, b ≠ cenv.locals → s'.heap.get? b = some o → (∀ vs, o.data ≠ .fields vs) → ∃ sl, h3.get? b = some { o with slots := sl } := fun b o n e nf => by
    obtain ⟨sl, q⟩ := up1 b o e nf
    obtain ⟨sl2, q2⟩ := up3 b _ ((hs2.2 b n).trans q) nf
    exact ⟨sl2, q2⟩
  obtain ⟨G, gy, gn⟩ := restrict h3 fun b => ((PySem.W.hideAll B [cenv.locals]).get? b).isSome || decide (b ∈ frs X.stack)
  have gB : ∀ b o, (PySem.W.hideAll B [cenv.locals]).get? b = some o → G.get? b = some o := fun b o e => by
    rw [gy b (by simp [e])]
    exact hh3.1 b o e
  have gF : ∀ b, b ∈ frs X.stack → G.get? b = h3.get? b := fun b hb => gy b (by simp [hb])
  have og : ∀ b o, G.get? b = some o → h3.get? b = some o ∧ (((PySem.W.hideAll B [cenv.locals]).get? b).isSome = true ∨ b ∈ frs X.stack) := fun b o e => by
    cases q : (((PySem.W.hideAll B [cenv.locals]).get? b).isSome || decide (b ∈ frs X.stack)) with
    | false => rw [gn b q] at e; cases e
    | true =>
      rw [gy b q] at e
      exact ⟨e, by simpa [Bool.or_eq_true] using q⟩
  have slF : ∀ b o, s.heap.get? b = some o → b ≠ cenv.locals → b ∈ frs X.stack → ∃ sl, G.get? b = some { o with slots := sl } := fun b o e n hb => by
    obtain ⟨sl, q⟩ := ub.slot b o e hb
    obtain ⟨_, o', e', nf⟩ := fl.2.2.1.mem hb
    rw [q] at e'; cases e'
    obtain ⟨sl2, q2⟩ := upA b _ n q nf
    exact ⟨sl2, by rw [gF b hb]; exact q2⟩
  refine ⟨a, PySem.W.hideAll B [cenv.locals], { s with heap := G, gens := s'.gens, drawn := s'.drawn, toks := s'.toks }, pinsX, σ0, H', cls, d, rfl, ?_, fun b o e hb => ?_, Heap.UpToSlots.of_keeps fun b o e => (og b o e).1, .inr (.inr (by rw [hs]; exact hh3)), na, os, ag, hE⟩
  · have J := IX.call (h' := G) (H' := H') (g' := s'.gens) (t' := s'.toks) (d' := s'.drawn) (ch := []) ⟨fun b o e n hb _ => gB b o (toB2 (ub.keep b o (ofS e).1 n hb) (ofS e).2), fun b o e n hb _ => slF b o (ofS e).1 (ofS e).2 hb, fun b o e n _ => ub.free b o (ofS e).1 n, fun b o e _ => ?_, ub.tups, ub.frzs, ub.tbls⟩ (hok2.kept gB) ag (fun _ z => nomatch z)
    · exact J
    · by_cases hb : b ∈ frs X.stack
      · obtain ⟨sl, q⟩ := slF b o (ofS e).1 (ofS e).2 hb
        exact ⟨_, q⟩
      · obtain ⟨o', q⟩ := ub.there b o (ofS e).1 hb
        exact ⟨o', gB b o' (toB2 q (ofS e).2)⟩
  · obtain ⟨e', h⟩ := og b o e
    rcases h with h | h
    · obtain ⟨o', q⟩ := Option.isSome_iff_exists.mp h
      have z := hh3.1 b o' q
      rw [e'] at z; cases z
      exact q
    · exact absurd h hb
theorem lc_coreX {E : XK} {pins : List (Addr × Obj)} {s : Shared} {σ : L2.St} {H : Hp} {Q : VK} {elt tg iter : Expr} {scope : Scope} {own : List (Str × Nat)} {pos pos' : Pos} {wi : TI} {g : TG} {te : TE} {use : Option (Value → Sem Unit)} {Qf : Value → Shared → Prop}
    (tk : Takes X (fun cls d _ H => E cls d H)) (hst : X.stack = X.env :: X.outer) (hfr : X.env.frame = some X.env.locals) (hc : X.calm = true) (hN : X.N.Nodup) (I : Inv X pins σ H s) (hi : PI X tg iter wi) (ok : BlkOk X.N X.env.scope scope own)
    (hg : ∀ (s : Shared) (H : Hp) (C : Addr) (cl : List (Str × Addr)) (fp : List Addr), PG (X.blk s H scope (compEnvC scope cl C X.env) fp) tg g)
    (he : ∀ (s : Shared) (H : Hp) (C : Addr) (cl : List (Str × Addr)) (fp : List Addr) (xe : Value → Shared → Prop), Passes (L2.CX X.prog X.w) ((X.blk s H scope (compEnvC scope cl C X.env) fp).wish xe) E → PE ((X.blk s H scope (compEnvC scope cl C X.env) fp).wish xe) elt te) (hs : ∀ x, foldedSetIterable iter X.env x = pure x)
    (h : tLc wi g tYes te (own.map (·.2)) σ H Q)
    (hRR : ∀ D C s' m H', Inv X pins σ H' s' → Q (.ref D) H' → s'.heap.Ns C m → FpOk X pins H' C → compPost (model X.prog X.w) X.A X.xe use Qf (.ref D) C (.ok .next) s') :
    wpAny (model X.prog X.w) X.A (comprehension (.ListComp elt [⟨tg, iter, [], 0⟩] scope pos) scope X.env pos' (newList []) false (eval iter X.env) use) Qf X.xe s := by
  have hfree : ∀ y ∈ scope.names, y.2 = .free → ∃ c, X.env.cells.lookup y.1 = some c := fun y hy e => (ok.free y hy e).elim (fun k => I.ok.has _ (.inl k)) (fun k => I.ok.has _ (.inr k))
  refine comprehension_at (use := use) rfl hs (closure_ok hfree) ok.kind (fun y hy e => by rw [ok.uniq y hy, e]) (thn (hi.run pins s σ H _ I h) fun xv s1 hx => thn hx fun itv s2 h2 => ?_)
  obtain ⟨it, fp, tn, J, H2, rfl, I2, T, st2, f2, q⟩ := h2
  refine wpAny_newObj_type (newEnv_comp ?_) (by show 0 ≤ sizeLine; decide)
  obtain ⟨D, hD⟩ : ∃ D, s2.heap.objs.size = D := ⟨_, rfl⟩
  obtain ⟨W, ⟨m0, w0⟩, turn⟩ := q D (I2.hok.fresh (Nat.le_of_eq hD))
  rw [hD]
  obtain ⟨s3, hs3⟩ : ∃ s3 : Shared, s3 = { s2 with heap := s2.heap.push { cls := .type "list", data := .seq ([] : List Value).toArray } } := ⟨_, rfl⟩
  have h3 : s3.heap = s2.heap.push { cls := .type "list", data := .seq ([] : List Value).toArray } := by rw [hs3]
  have I3 : Inv X pins σ (upd H2 D (.lst [])) s3 := by
    rw [hs3]
    refine I2.laid (t' := s2.toks) (fun b o e => Heap.get?_push_of_some _ e) (Nat.le_of_eq hD) ⟨Nat.zero_le _, [], 0, .nil, ?_⟩
    rw [← hD]
    exact Heap.get?_push_size _ rfl
  have f3 : ∀ b ∈ fp, FpOk X pins (upd H2 D (.lst [])) b ∧ b < s3.heap.objs.size := fun b hb => by
    obtain ⟨o, e, _⟩ := T.obj _ _ st2 b hb
    have hlt := Heap.lt_size e
    refine ⟨⟨?_, (f2 b hb).2⟩, by rw [h3, Heap.size_push]; exact Nat.lt_succ_of_lt hlt⟩
    rw [upd_ne (by rw [← hD]; exact Nat.ne_of_lt hlt)]
    exact (f2 b hb).1
  have hch : ∀ b ∈ fp, (b ∈ X.ex ∨ X.s_0.heap.objs.size ≤ b) ∧ b ≠ X.env.locals ∧ (∀ x c, X.env.cells.lookup x = some c → c ≠ b) ∧ ∀ p ∈ X.pn ++ pins, p.1 ≠ b := fun b hb => ⟨(f3 b hb).1.2.2.2.1, (f3 b hb).1.2.1, (f3 b hb).1.2.2.2.2.1, (f3 b hb).1.2.2.2.2.2⟩
  have I4 := block_start I3 ok hN f3
  rw [← hs3]
  show codeAny _ _ (.compStart (.ListComp elt [⟨tg, iter, [], 0⟩] scope pos) 0 (.ref it) (.ref D) (compEnvC scope (cellsFrom (s3.heap.objs.size + 1) scope.names (cloFrom X.env.cells scope.names [])) s3.heap.objs.size X.env)) (compEnds (model X.prog X.w) X.A X.xe use Qf (.ref D) (compEnvC scope (cellsFrom (s3.heap.objs.size + 1) scope.names (cloFrom X.env.cells scope.names [])) s3.heap.objs.size X.env)) { s3 with heap := pushCells (s3.heap.push { cls := .type "dict", data := .dict #[] }) scope.names }
  have pg := hg s3 (upd H2 D (.lst [])) s3.heap.objs.size (cellsFrom (s3.heap.objs.size + 1) scope.names (cloFrom X.env.cells scope.names [])) fp
  have pe := he s3 (upd H2 D (.lst [])) s3.heap.objs.size (cellsFrom (s3.heap.objs.size + 1) scope.names (cloFrom X.env.cells scope.names [])) fp
  obtain ⟨ce, hce⟩ : ∃ ce, ce = compEnvC scope (cellsFrom (s3.heap.objs.size + 1) scope.names (cloFrom X.env.cells scope.names [])) s3.heap.objs.size X.env := ⟨_, rfl⟩
  have cL : ce.locals = s3.heap.objs.size := by rw [hce]; rfl
  have cF : ce.frame = X.env.frame := by rw [hce]; rfl
  rw [← hce] at I4 pg pe ⊢
  have nfp : ∀ b ∈ fp, (upd H2 D (.lst [])) b = none := fun b hb => (f3 b hb).1.1
  have st4 : tn 0 (pushCells (s3.heap.push { cls := .type "dict", data := .dict #[] }) scope.names) := T.keep _ _ _ st2 fun b _ o e => pushCells_keeps _ _ _ _ (Heap.get?_push_of_some _ (by rw [h3]; exact Heap.get?_push_of_some _ e))
  have pass : Passes (L2.CX X.prog X.w) ((X.blk s3 (upd H2 D (.lst [])) scope ce fp).wish (notedBy (model X.prog X.w) X.A ce (CompFails (model X.prog X.w) X.A X.xe ce))) E := fun pins' σ' H' s' e s'' I' c' =>
    blk_note tk hst hfr cF I3 hch I'.unwish c'
  have pe := pe _ pass
  generalize upd H2 D (.lst []) = H3 at I3 I4 pg pe w0 nfp f3 pass
  have stat : ∀ {σ' : L2.St} {H' : Hp} {s' : Shared}, Inv (X.blk s3 H3 scope ce fp) [] σ' H' s' → (∀ b ∈ fp, H' b = none) → ∀ b ∈ fp, FpOk (X.blk s3 H3 scope ce fp) [] H' b := fun {σ' H' s'} I' hn b hb =>
    ⟨hn b hb, (I'.ok.exf b hb).1, I'.ok.exfs b hb, .inl hb, fun x c e => (I'.ok.exf b hb).2 x c e, fun p hp => absurd (show p ∈ ([] : List (Addr × Obj)) ++ [] from hp) (by simp)⟩
  have RE : ∀ x s', CompFails (model X.prog X.w) X.A X.xe ce x s' → compEnds (model X.prog X.w) X.A X.xe use Qf (.ref D) ce (.error x) s' := fun x s' z => by cases use <;> exact z
  have RO : ∀ s', compPost (model X.prog X.w) X.A X.xe use Qf (.ref D) ce.locals (.ok .next) s' → compEnds (model X.prog X.w) X.A X.xe use Qf (.ref D) ce (.ok .next) s' := fun s' z => by cases use <;> exact z
  have loop : ∀ s4 : Shared, Inv (X.blk s3 H3 scope ce fp) [] (wipe σ (own.map (·.2))) H3 s4 → tn 0 s4.heap → codeAny (model X.prog X.w) X.A (.compLoop (.ListComp elt [⟨tg, iter, [], 0⟩] scope pos) 0 (.ref it) (.ref D) ce) (compEnds (model X.prog X.w) X.A X.xe use Qf (.ref D) ce) s4 := by
    intro s4 I4 st4
    refine compLoop_any (fun n s' => ∃ i H', Inv (X.blk s3 H3 scope ce fp) [] (wipe σ (own.map (·.2))) H' s' ∧ tn i s'.heap ∧ (∀ b ∈ fp, H' b = none) ∧ W i n H') ?_ m0 ⟨0, H3, I4, st4, nfp, w0⟩
    rintro n s5 ⟨i, H5, I5, st5, n5, w5⟩
    rcases turn i n H5 w5 with ⟨stop, qq⟩ | ⟨go, Nx, hNx, step⟩
    · refine thnF (T.done (X.blk s3 H3 scope ce fp) rfl rfl rfl hc i [] s5 _ H5 (fun _ _ => False) I5 (stat I5 n5) st5 stop) fun r s6 ⟨hr, I6⟩ => ?_
      subst hr
      have I7 : Inv X pins σ H5 s6 := I3.call' (ch := fp) I6.os I6.base I6.hok I6.bare hch
      have nC : H5 ce.locals = none := I6.free
      obtain ⟨m, hn, _⟩ := I6.loc
      exact RO _ (hRR D ce.locals s6 m H5 I7 qq hn (by rw [cL] at nC ⊢; exact I3.fpOk (Nat.le_refl _) nC))
    · refine thnF (T.item (X.blk s3 H3 scope ce fp) rfl rfl rfl hc i [] s5 _ H5 (fun _ _ => False) I5 (stat I5 n5) st5 go) fun r s6 ⟨u, hr, h6⟩ => ?_
      subst hr
      refine thnF h6 fun _ s7 ⟨x, H7, I7, r7, y7, st7, n7⟩ => ?_
      refine thnF (pg.run _ s7 _ H7 x u _ (I7.pinned (stat I7 n7) (T.obj _ _ st7)) r7 (step x H7 y7)) fun _ s8 ⟨σ8, H8, I8, hw8, q8⟩ => ?_
      refine wpAny_tests_nil ?_
      have q8 : te σ8 H8 fun y H4 => ∃ acc, H4 D = some (.lst acc) ∧ acc.length < sizeLine ∧ Nx (upd H4 D (.lst (acc ++ [y]))) := q8
      have fin : ∀ {s' : Shared} {H' : Hp}, Inv (X.blk s3 H3 scope ce fp) ([] ++ pinsAt fp s7.heap) σ8 H' s' → Nx H' → ∃ m, m < n ∧ ∃ i H', Inv (X.blk s3 H3 scope ce fp) [] (wipe σ (own.map (·.2))) H' s' ∧ tn i s'.heap ∧ (∀ b ∈ fp, H' b = none) ∧ W i m H' := fun {s' H'} I' nx => by
        obtain ⟨m', hm, w'⟩ := hNx H' nx
        have pin' : ∀ b ∈ fp, ∀ o, s7.heap.get? b = some o → s'.heap.get? b = some o ∧ H' b = none := fun b hb o e =>
          let z := I'.pin (b, o) (List.mem_append_right _ (List.mem_append_right _ (mem_pinsAt hb e)))
          ⟨z.1, z.2.1⟩
        refine ⟨m', hm, i + 1, H', (I'.unpinned (pins := [])).weak (by rw [← hw8, wipe_length]) (fun j v e => ?_), T.keep _ _ _ st7 fun b hb o e => (pin' b hb o e).1, fun b hb => ?_, w'⟩
        · rw [← hw8] at e
          exact (wipe_some e).1
        · obtain ⟨o, e, _⟩ := T.obj _ _ st7 b hb
          exact (pin' b hb o e).2
      rw [if_pos rfl]
      refine wpAny_mono (pe.run _ s8 σ8 H8 _ (I8.wish _) q8) (fun z s10 ⟨yv, H10, I10, r10, acc, hD10, hz10, nx⟩ => ?_) (fun e s' z => wpAny_mono z (fun _ s'' y => RE e s'' y) fun _ s'' y => RE _ s'' y)
      exact app_ok (X := X.blk s3 H3 scope ce fp) I10.unwish hD10 hz10 r10 fun s11 I11 => fin I11 nx
  exact codeAny_compStart_list (loop _ I4 st4) (T.self X.A 0 _ _ _ st4 (loop _ I4 st4))
theorem pe_lcX {E : XK} {elt tg iter : Expr} {scope : Scope} {own : List (Str × Nat)} {pos : Pos} {wi : TI} {g : TG} {te : TE} (tk : Takes X (fun cls d _ H => E cls d H)) (hst : X.stack = X.env :: X.outer) (hfr : X.env.frame = some X.env.locals) (hc : X.calm = true) (hN : X.N.Nodup) (hi : PI X tg iter wi) (ok : BlkOk X.N X.env.scope scope own)
    (hg : ∀ (s : Shared) (H : Hp) (C : Addr) (cl : List (Str × Addr)) (fp : List Addr), PG (X.blk s H scope (compEnvC scope cl C X.env) fp) tg g)
    (he : ∀ (s : Shared) (H : Hp) (C : Addr) (cl : List (Str × Addr)) (fp : List Addr) (xe : Value → Shared → Prop), Passes (L2.CX X.prog X.w) ((X.blk s H scope (compEnvC scope cl C X.env) fp).wish xe) E → PE ((X.blk s H scope (compEnvC scope cl C X.env) fp).wish xe) elt te) (hs : ∀ x, foldedSetIterable iter X.env x = pure x := by intro _; rfl) :
    PE X (.ListComp elt [⟨tg, iter, [], 0⟩] scope pos) (tLc wi g tYes te (own.map (·.2))) := by
  constructor
  intro pins s σ H Q I h
  rw [eval_ListComp]
  refine lc_coreX tk hst hfr hc hN I hi ok hg he hs h fun D C s' m H' I' q hn f => ⟨m, hn, fun h'' sb => ?_⟩
  obtain ⟨f0, f1, f2, f3, f4, f5⟩ := f
  exact ⟨.ref D, H', I'.turned (t' := s'.toks) (fun b o hb e => (sb.2 b hb).trans e) f0 f1 f3 f4 f5, rfl, q⟩
theorem ps_setLcX {E : XK} {i : Nat} {y : Str} {py : Pos} {elt tg iter : Expr} {scope : Scope} {own : List (Str × Nat)} {pos spos : Pos} {wi : TI} {g : TG} {te : TE} (tk : Takes X (fun cls d _ H => E cls d H)) (hst : X.stack = X.env :: X.outer) (hfr : X.env.frame = some X.env.locals) (hc : X.calm = true) (hN : X.N.Nodup) (hy : X.N[i]? = some y) (hyl : X.env.scope.names.lookup y = some .local)
    (hsw : swapsWith (.ListComp elt [⟨tg, iter, [], 0⟩] scope pos) (some (.Name y py)) spos.line X.env = pure true) (hi : PI X tg iter wi) (ok : BlkOk X.N X.env.scope scope own)
    (hg : ∀ (s : Shared) (H : Hp) (C : Addr) (cl : List (Str × Addr)) (fp : List Addr), PG (X.blk s H scope (compEnvC scope cl C X.env) fp) tg g)
    (he : ∀ (s : Shared) (H : Hp) (C : Addr) (cl : List (Str × Addr)) (fp : List Addr) (xe : Value → Shared → Prop), Passes (L2.CX X.prog X.w) ((X.blk s H scope (compEnvC scope cl C X.env) fp).wish xe) E → PE ((X.blk s H scope (compEnvC scope cl C X.env) fp).wish xe) elt te) (hs : ∀ x, foldedSetIterable iter X.env x = pure x := by intro _; rfl) :
    PS X (.Assign [.Name y py] (.ListComp elt [⟨tg, iter, [], 0⟩] scope pos) spos) (tAsg (tLc wi g tYes te (own.map (·.2))) (gName i)) := by
  constructor
  intro pins s σ H D I h
  rw [exec_Assign_Name_used _ _ _ _ hsw]
  refine wpAny_bind (wpAny_standAt (wpAny_bind ?_))
  show wpAny _ X.A (do let _ ← comprehension (.ListComp elt [⟨tg, iter, [], 0⟩] scope pos) scope X.env (firstIterPos [⟨tg, iter, [], 0⟩] pos) (newList []) false (eval iter X.env) (some (assign (.Name y py) X.env))) _ _ s
  have h : tLc wi g tYes te (own.map (·.2)) σ H (fun x H1 => gName i x σ H1 D.nx) := h
  refine wpAny_bind (thn (lc_coreX (Qf := fun _ s' => SP X pins D .next s') tk hst hfr hc hN I hi ok hg he hs h fun L C s' m H' I' q hn f => ?_) fun _ s' hq => wpAny_pure (wpAny_pure hq))
  show wpAny _ _ (assign (.Name y py) X.env (.ref L)) _ _ _
  refine wpAny_assign_Name (store_ok2 (v := V.ref L) I' hN hy (.inl hyl) rfl (fun s2 I2 ⟨a, sb, ha⟩ => ?_) (.inr hyl))
  obtain ⟨f0, f1, f2, f3, f4, f5⟩ := f
  have haC : C ≠ a := ha.elim (fun z => by rw [z]; exact f1) (fun z e => f4 y a z e.symm)
  exact ⟨m, hn.sameBut sb haC, fun h3 sb3 => ⟨_, H', I2.turned (t' := s2.toks) (fun b o hb e => (sb3.2 b hb).trans e) f0 f1 f3 f4 f5, q⟩⟩
end
/-! ### leaves and books in the heap -/
def gOr (a b : TG) : TG := fun v σ H Q => a v σ H Q ∨ b v σ H Q
abbrev Sk := (Int × Int × Int) × Str
def dSk (s : Sk) : PyData := .tuple [.int s.1.1, .int s.1.2.1, .int s.1.2.2, .str s.2]
def dPen (ss : List Sk) : PyData := .tuple (ss.map dSk)
def kSk (s : Sk) : List L2.Key := [.inl s.1.1, .inl s.1.2.1, .inl s.1.2.2]
def penT : List Sk → List (List L2.Key × V) := fun ss => ss.foldl (fun kvs s => putK kvs (kSk s) (.str s.2)) []
structure Lf where
  L : List Int
  fr : List Str
  bk : List Str
  pen : List Sk
def fLf (l f b p s : V) : List (Str × V) := [("label", l), ("front", f), ("back", b), ("pen", p), ("_strokes", s)]
def LfAt (C : Addr) (H : Hp) (v : V) (lf : Lf) : Prop := ∃ (x dx l f b p s : Addr), v = .ref x ∧ H x = some (.ins C dx (fLf (.ref l) (.ref f) (.ref b) (.ref p) (.ref s))) ∧ H l = some (.tup (lf.L.map V.int)) ∧
  H f = some (.tup (lf.fr.map V.str)) ∧ H b = some (.tup (lf.bk.map V.str)) ∧ Tp H (.ref p) (dPen lf.pen) ∧ H s = some (.dT (penT lf.pen))
inductive LfAll (C : Addr) (H : Hp) : List V → List Lf → Prop
  | nil : LfAll C H [] []
  | cons {v : V} {vs : List V} {l : Lf} {ls : List Lf} (h : LfAt C H v l) (r : LfAll C H vs ls) : LfAll C H (v :: vs) (l :: ls)
def fBk (l s : V) : List (Str × V) := [("leaves", l), ("_spots", s)]
/-- at each label the place of its leaf -/
def spots (ls : List Lf) : Nat → List (List L2.Key × V)
  | 0 => []
  | n + 1 => match ls[n]? with
    | some l => putK (spots ls n) (l.L.map Sum.inl) (.int (n : Nat))
    | none => spots ls n
def BkAt (C CB : Addr) (H : Hp) (v : V) (bk : List Lf) : Prop := ∃ (x dx l s : Addr) (vs : List V), v = .ref x ∧ H x = some (.ins CB dx (fBk (.ref l) (.ref s))) ∧ H l = some (.tup vs) ∧ LfAll C H vs bk ∧ H s = some (.dT (spots bk bk.length)) ∧ bk.length ≤ 60
theorem LfAt.nl {C : Addr} {H H' : Hp} {v : V} {lf : Lf} (m : NL H H') (h : LfAt C H v lf) : LfAt C H' v lf := by
  obtain ⟨x, dx, l, f, b, p, s, ev, h1, h2, h3, h4, h5, h6⟩ := h
  have k : ∀ {q : Addr} {o : HO}, H q = some o → (∀ ys, o ≠ .lst ys) → H' q = some o := fun e n => m _ _ e n
  exact ⟨x, dx, l, f, b, p, s, ev, k h1 (fun _ z => nomatch z), k h2 (fun _ z => nomatch z), k h3 (fun _ z => nomatch z), k h4 (fun _ z => nomatch z), h5.nl m, k h6 (fun _ z => nomatch z)⟩
theorem LfAll.nl {C : Addr} {H H' : Hp} (m : NL H H') : ∀ {vs : List V} {ls : List Lf}, LfAll C H vs ls → LfAll C H' vs ls
  | _, _, .nil => .nil
  | _, _, .cons h r => .cons (h.nl m) (LfAll.nl m r)
theorem LfAll.len {C : Addr} {H : Hp} : ∀ {vs : List V} {ls : List Lf}, LfAll C H vs ls → vs.length = ls.length
  | _, _, .nil => rfl
  | _, _, .cons _ r => congrArg (· + 1) (LfAll.len r)
theorem LfAll.snoc {C : Addr} {H : Hp} : ∀ {vs : List V} {ls : List Lf} {v : V} {l : Lf}, LfAll C H vs ls → LfAt C H v l → LfAll C H (vs ++ [v]) (ls ++ [l])
  | _, _, _, _, .nil, h => .cons h .nil
  | _, _, _, _, .cons k r, h => .cons k (LfAll.snoc r h)
theorem LfAll.get {C : Addr} {H : Hp} : ∀ {vs : List V} {ls : List Lf} {i : Nat} {v : V}, LfAll C H vs ls → vs[i]? = some v → ∃ l, ls[i]? = some l ∧ LfAt C H v l
  | _, _, _, _, .nil, e => nomatch e
  | _, _, 0, _, .cons h r, e => by
    injection e with e
    subst e
    exact ⟨_, rfl, h⟩
  | _, _, i + 1, _, .cons h r, e => by
    obtain ⟨d, e1, e2⟩ := LfAll.get (i := i) r e
    exact ⟨d, e1, e2⟩
theorem LfAll.get2 {C : Addr} {H : Hp} {vs : List V} {ls : List Lf} {i : Nat} {l : Lf} (h : LfAll C H vs ls) (e : ls[i]? = some l) : ∃ v, vs[i]? = some v ∧ LfAt C H v l := by
  have hi := (List.getElem?_eq_some_iff.mp e).1
  rw [← h.len] at hi
  have e1 := List.getElem?_eq_getElem hi
  obtain ⟨d', e2, e3⟩ := h.get e1
  rw [e] at e2
  injection e2 with e2
  subst e2
  exact ⟨_, e1, e3⟩
theorem BkAt.nl {C CB : Addr} {H H' : Hp} {v : V} {bk : List Lf} (m : NL H H') (h : BkAt C CB H v bk) : BkAt C CB H' v bk := by
  obtain ⟨x, dx, l, s, vs, ev, h1, h2, h3, h4, h5⟩ := h
  have k : ∀ {q : Addr} {o : HO}, H q = some o → (∀ ys, o ≠ .lst ys) → H' q = some o := fun e n => m _ _ e n
  exact ⟨x, dx, l, s, vs, ev, k h1 (fun _ z => nomatch z), k h2 (fun _ z => nomatch z), h3.nl m, k h4 (fun _ z => nomatch z), h5⟩
theorem spots_len (ls : List Lf) : ∀ n, (spots ls n).length ≤ n
  | 0 => Nat.le_refl _
  | n + 1 => by
    unfold spots
    cases ls[n]? with
    | none => exact Nat.le_succ_of_le (spots_len ls n)
    | some l => exact Nat.le_trans (length_putK _ _ _) (Nat.succ_le_succ (spots_len ls n))
theorem kL (L : List Int) : (L.map (Sum.inl : Int → L2.Key)).map kV = L.map V.int := by
  rw [List.map_map]
  rfl
theorem fLf_label {l f b p s : V} : (fLf l f b p s).lookup ("label" : Str) = some l := by
  have e : (("label" : Str) == ("label" : Str)) = true := beq_self_eq_true _
  simp only [fLf, List.lookup, e]
theorem fLf_front {l f b p s : V} : (fLf l f b p s).lookup ("front" : Str) = some f := by
  have e : (("front" : Str) == ("label" : Str)) = false := by decide +kernel
  have e2 : (("front" : Str) == ("front" : Str)) = true := beq_self_eq_true _
  simp only [fLf, List.lookup, e, e2]
theorem fLf_back {l f b p s : V} : (fLf l f b p s).lookup ("back" : Str) = some b := by
  have e : (("back" : Str) == ("label" : Str)) = false := by decide +kernel
  have e1 : (("back" : Str) == ("front" : Str)) = false := by decide +kernel
  have e2 : (("back" : Str) == ("back" : Str)) = true := beq_self_eq_true _
  simp only [fLf, List.lookup, e, e1, e2]
theorem fLf_pen {l f b p s : V} : (fLf l f b p s).lookup ("pen" : Str) = some p := by
  have e : (("pen" : Str) == ("label" : Str)) = false := by decide +kernel
  have e1 : (("pen" : Str) == ("front" : Str)) = false := by decide +kernel
  have e2 : (("pen" : Str) == ("back" : Str)) = false := by decide +kernel
  have e3 : (("pen" : Str) == ("pen" : Str)) = true := beq_self_eq_true _
  simp only [fLf, List.lookup, e, e1, e2, e3]
theorem fLf_strokes {l f b p s : V} : (fLf l f b p s).lookup ("_strokes" : Str) = some s := by
  have e : (("_strokes" : Str) == ("label" : Str)) = false := by decide +kernel
  have e1 : (("_strokes" : Str) == ("front" : Str)) = false := by decide +kernel
  have e2 : (("_strokes" : Str) == ("back" : Str)) = false := by decide +kernel
  have e3 : (("_strokes" : Str) == ("pen" : Str)) = false := by decide +kernel
  have e4 : (("_strokes" : Str) == ("_strokes" : Str)) = true := beq_self_eq_true _
  simp only [fLf, List.lookup, e, e1, e2, e3, e4]
theorem fLf_no {l f b p s : V} {m : Str} (h : ((m == ("label" : Str)) || (m == ("front" : Str)) || (m == ("back" : Str)) || (m == ("pen" : Str)) || (m == ("_strokes" : Str))) = false) : (fLf l f b p s).lookup m = none := by
  simp only [Bool.or_eq_false_iff] at h
  simp only [fLf, List.lookup, h.1.1.1.1, h.1.1.1.2, h.1.1.2, h.1.2, h.2]
theorem fBk_leaves {l s : V} : (fBk l s).lookup ("leaves" : Str) = some l := by
  have e : (("leaves" : Str) == ("leaves" : Str)) = true := beq_self_eq_true _
  simp only [fBk, List.lookup, e]
theorem fBk_spots {l s : V} : (fBk l s).lookup ("_spots" : Str) = some s := by
  have e : (("_spots" : Str) == ("leaves" : Str)) = false := by decide +kernel
  have e2 : (("_spots" : Str) == ("_spots" : Str)) = true := beq_self_eq_true _
  simp only [fBk, List.lookup, e, e2]
theorem fBk_no {l s : V} {m : Str} (h : ((m == ("leaves" : Str)) || (m == ("_spots" : Str))) = false) : (fBk l s).lookup m = none := by
  simp only [Bool.or_eq_false_iff] at h
  simp only [fBk, List.lookup, h.1, h.2]
/-- rows of words -/
def tokB (z : Str) : Bool := decide (1 ≤ z.length) && decide (z.length ≤ 20) && decide (32 ∉ z.cps.toList)
def rowB (z : Str) : Bool := decide (z.length ≤ 120) && decide ((Txt.split z " ").length ≤ 30) && (Txt.split z " ").all tokB
def rowsB (l : Nat) (zs : List Str) : Bool := decide (l ≤ zs.length) && decide (zs.length ≤ 12) && zs.all rowB
/-- the pages of a book -/
def allP (bk : List Lf) : List Pg := bk.flatMap fun l => [(l.L, 0), (l.L, 1)]
def sideP (l : Lf) : List Pg := (if l.fr = [] then [] else [(l.L, 0)]) ++ (if l.bk = [] then [] else [(l.L, 1)])
def shownP (bk : List Lf) : List Pg := bk.flatMap sideP
def dPs (ps : List Pg) : PyData := .tuple (ps.map dP)
/-- what is kept of a label, as a value -/
def KeptL (K : PySem.W.Frag) (H' : Hp) (v y : V) : Option (List Int) → Prop
  | none => y = .non
  | some L => (y = v ∧ ∃ a, v = .ref a ∧ SqT K H' a (L.map V.int)) ∨ ∃ b, y = .ref b ∧ H' b = some (.tup (L.map V.int))
theorem KeptL.dp {K : PySem.W.Frag} {H' : Hp} {v y : V} {o : Option (List Int)} (h : KeptL K H' v y o) : Dp K H' y (oD dL o) := by
  cases o with
  | none => cases h; exact .non
  | some L =>
    rcases h with ⟨rfl, a, rfl, h⟩ | ⟨b, rfl, h⟩
    · exact dpL h
    · exact dpL (.inl (.inl h))
/-- .. that was tracked -/
theorem KeptL.tup {K : PySem.W.Frag} {H H' : Hp} {a : Addr} {xs : List V} {y : V} {L : List Int} (m : NL H H') (e : H a = some (.tup xs)) (hx : xs = L.map V.int) (h : KeptL K H' (.ref a) y (some L)) : ∃ b, y = .ref b ∧ H' b = some (.tup (L.map V.int)) := by
  rcases h with ⟨rfl, _, _, _⟩ | h
  · exact ⟨a, rfl, by rw [← hx]; exact m _ _ e (fun _ z => nomatch z)⟩
  · exact h
/-- a page that is kept -/
def toI : PyData → Int
  | .int i => i
  | _ => 0
theorem kept_dL {L : List Int} (h : okL L) : keptD (dL L) = some L := by
  unfold keptD dL
  show keep ((L.map PyData.int).map toO) = some L
  rw [toO_ints h.2.2, keep_map, if_pos ⟨h.1, h.2.1⟩]
theorem kit_self {K : PySem.W.Frag} {C : Addr} : PySem.W.kitOne K (.ref C) (.ref C) = some true := if_pos (beq_self_eq_true _)
theorem NL.butI {H H' : Hp} {x C dx : Addr} (hx : H x = some (.ins C dx [])) (b : But x H H') {C' : Addr} {v : V} {lf : Lf} (h : LfAt C' H v lf) : LfAt C' H' v lf := by
  obtain ⟨y, dy, l, f, g, p, s, ev, h1, h2, h3, h4, h5, h6⟩ := h
  have k : ∀ {q : Addr} {o : HO}, H q = some o → o ≠ .ins C dx [] → H' q = some o := fun {q o} e n => b q o (fun z => n (by rw [z, hx] at e; exact (Option.some.inj e).symm)) e
  refine ⟨y, dy, l, f, g, p, s, ev, k h1 (by intro z; injection z with z1 z2 z3; cases z3), k h2 (fun z => nomatch z), k h3 (fun z => nomatch z), k h4 (fun z => nomatch z), ?_, k h6 (fun z => nomatch z)⟩
  have tp : ∀ {H1 : Hp}, (∀ q xs, H q = some (.tup xs) → H1 q = some (.tup xs)) → ∀ (ss : List Sk) {us : List V}, TpAll H us (ss.map dSk) → TpAll H1 us (ss.map dSk) := fun {H1} m ss => by
    induction ss with
    | nil => intro us t; cases t; exact .nil
    | cons q r ih =>
      intro us t
      cases t with
      | cons h0 t =>
        refine .cons ?_ (ih t)
        cases h0 with
        | tup e r4 =>
          refine .tup (m _ _ e) ?_
          cases r4 with
          | cons a1 r3 =>
            cases r3 with
            | cons a2 r2 =>
              cases r2 with
              | cons a3 r1 =>
                cases r1 with
                | cons a4 r0 =>
                  cases a1; cases a2; cases a3; cases a4; cases r0
                  exact .cons (.int _) (.cons (.int _) (.cons (.int _) (.cons (.str _) .nil)))
  cases h5 with
  | tup e r => exact .tup (k e (fun z => nomatch z)) (tp (fun q xs e => k e (fun z => nomatch z)) lf.pen r)
theorem LfAll.butI {H H' : Hp} {x C dx C' : Addr} (hx : H x = some (.ins C dx [])) (b : But x H H') : ∀ {vs : List V} {ls : List Lf}, LfAll C' H vs ls → LfAll C' H' vs ls
  | _, _, .nil => .nil
  | _, _, .cons h r => .cons (NL.butI hx b h) (LfAll.butI hx b r)
theorem allP_len : ∀ bk : List Lf, (allP bk).length = 2 * bk.length
  | [] => rfl
  | l :: r => by
    show ([(l.L, (0 : Int)), (l.L, 1)] ++ allP r).length = 2 * (r.length + 1)
    rw [List.length_append, allP_len r]
    show 2 + _ = _
    omega
def sideF (l : Lf) (s : Int) : Option Pg := if (if s = 1 then l.bk else l.fr) = [] then none else some (l.L, s)
theorem sideP_eq (l : Lf) : sideP l = [0, 1].filterMap (sideF l) := by
  unfold sideP sideF
  cases h1 : l.fr <;> cases h2 : l.bk <;> simp [h1, h2]
theorem shownP_snoc (bk : List Lf) (l : Lf) : shownP (bk ++ [l]) = shownP bk ++ sideP l := by
  unfold shownP
  rw [List.flatMap_append]
  simp
theorem shownP_len : ∀ bk : List Lf, (shownP bk).length ≤ 2 * bk.length
  | [] => Nat.le_refl _
  | l :: r => by
    show (sideP l ++ shownP r).length ≤ 2 * (r.length + 1)
    have := shownP_len r
    have h : (sideP l).length ≤ 2 := by
      rw [sideP_eq]
      exact List.length_filterMap_le ..
    rw [List.length_append]
    omega
theorem tru_tup {K : PySem.W.Frag} {H : Hp} {a : Addr} {xs : List V} (h : SqT K H a xs) : TruV K (.ref a) H (!xs.isEmpty) := .inr (.inl ⟨xs, h, rfl⟩)
theorem tru_lst {K : PySem.W.Frag} {H : Hp} {a : Addr} {xs : List V} (h : SqL K H a xs) : TruV K (.ref a) H (!xs.isEmpty) := .inl ⟨xs, h, rfl⟩
theorem sideF_none {l : Lf} {s : Int} (h : sideF l s = none) : (if s = 1 then l.bk else l.fr) = [] := by
  unfold sideF at h
  generalize (if s = 1 then l.bk else l.fr) = rs at h
  cases rs with
  | nil => rfl
  | cons u w => rw [if_neg (by simp)] at h; cases h
theorem sideF_some {l : Lf} {s : Int} {p : Pg} (h : sideF l s = some p) : (if s = 1 then l.bk else l.fr) ≠ [] ∧ p = (l.L, s) := by
  unfold sideF at h
  generalize (if s = 1 then l.bk else l.fr) = rs at h
  cases rs with
  | nil => rw [if_pos rfl] at h; cases h
  | cons u w => rw [if_neg (by simp)] at h; injection h with h; exact ⟨by simp, h.symm⟩
/-! ### a dict comprehension whose keys are tuples of ints and texts -/
section
variable {X : Cx} {D b : Addr} {kvs : List (List L2.Key × V)} {k : List L2.Key}
theorem put_tupkey {pins : List (Addr × Obj)} {σ : L2.St} {H : Hp} {s : Shared} {EE : Value → Shared → Prop} {v : V} {r : Value} {QQ : Unit → Shared → Prop} (hu : X.A.units + 1 < cLine) (I : Inv X pins σ H s) (hD : H D = some (.dT kvs)) (hb : H b = some (.tup (k.map kV)))
    (small : kvs.length < sizeLine) (rv : RelV v r) (go : ∀ s', Inv X pins σ (upd H D (.dT (putK kvs k v))) s' → QQ () s') : wpAny (model X.prog X.w) X.A (dictSet D (.ref b) r) QQ EE s := by
  obtain ⟨le, nsys, xs, rel, dd⟩ := dt_of I.hok hD
  have le2 : (putK kvs k v).length ≤ sizeLine := Nat.le_trans (length_putK kvs k v) small
  refine wpAny_dictSet_heap (knd := tupleKind (mixKind X.prog X.w)) (hsz := by rw [← Paired.length rel]; exact le) (show X.A.units < cLine by omega) (key_of I.hok hb) dd fun h' new only => go _ ?_
  obtain ⟨o, es, ep, at_, x1, x2, x3, _, x5⟩ := new
  refine d_write I (by rw [hD]; exact True.intro) only ⟨o, at_⟩ ⟨le2, nsys, _, (rel.put k hb rv).keeps fun c ys ec => ?_, o, es, ep, at_, x1, x2, x3, x5⟩
  exact (upd_ne (ne_of ec hD (by intro z; cases z))).trans ec
/-- {k: v for target in iter}: D the new dict -/
def tDcT (wi : TI) (g : TG) (tk tv : TE) (vs : List Nat) : TE := fun σ H Q => wi σ H fun J H1 => ∀ D, H1 D = Option.none → ∃ W : Nat → Nat → Hp → Prop, (∃ m, W 0 m (upd H1 D (.dT []))) ∧ ∀ i m H, W i m H →
  (J.stop i H ∧ Q (.ref D) H) ∨ (J.go i H ∧ ∃ Nx : Hp → Prop, (∀ H', Nx H' → ∃ m', m' < m ∧ W (i + 1) m' H') ∧ ∀ x H', J.yld i H x H' → g x (wipe σ vs) H' fun σ2 H2 => wipe σ2 vs = wipe σ vs ∧
    tk σ2 H2 fun y H4 => tv σ2 H4 fun z H5 => ∃ b kvs k, y = .ref b ∧ H5 D = some (.dT kvs) ∧ H5 b = some (.tup (k.map kV)) ∧ kvs.length < sizeLine ∧ Nx (upd H5 D (.dT (putK kvs k z))))
theorem pe_dcT {kx vx tg iter : Expr} {scope : Scope} {own : List (Str × Nat)} {pos : Pos} {wi : TI} {g : TG} {tk tv : TE} (hu : X.A.units + 1 < cLine) (hc : X.calm = true) (hN : X.N.Nodup) (hi : PI X tg iter wi) (ok : BlkOk X.N X.env.scope scope own)
    (hg : ∀ (s : Shared) (H : Hp) (C : Addr) (cl : List (Str × Addr)) (fp : List Addr), PG (X.blk s H scope (compEnvC scope cl C X.env) fp) tg g)
    (hk : ∀ (s : Shared) (H : Hp) (C : Addr) (cl : List (Str × Addr)) (fp : List Addr), PE (X.blk s H scope (compEnvC scope cl C X.env) fp) kx tk)
    (hv : ∀ (s : Shared) (H : Hp) (C : Addr) (cl : List (Str × Addr)) (fp : List Addr), PE (X.blk s H scope (compEnvC scope cl C X.env) fp) vx tv) (hs : ∀ x, foldedSetIterable iter X.env x = pure x := by intro _; rfl) :
    PE X (.DictComp kx vx [⟨tg, iter, [], 0⟩] scope pos) (tDcT wi g tk tv (own.map (·.2))) := by
  constructor
  intro pins s σ H Q I h
  rw [arm_eval_DictComp]
  have hfree : ∀ y ∈ scope.names, y.2 = .free → ∃ c, X.env.cells.lookup y.1 = some c := fun y hy e => (ok.free y hy e).elim (fun k => I.ok.has _ (.inl k)) (fun k => I.ok.has _ (.inr k))
  refine comprehension_at (use := Option.none) rfl hs (closure_ok hfree) ok.kind (fun y hy e => by rw [ok.uniq y hy, e]) (thn (hi.run pins s σ H _ I h) fun xv s1 hx => thn hx fun itv s2 h2 => ?_)
  obtain ⟨it, fp, tn, J, H2, rfl, I2, T, st2, f2, q⟩ := h2
  refine wpAny_newObj_type (newEnv_comp ?_)
  obtain ⟨D, hD⟩ : ∃ D, s2.heap.objs.size = D := ⟨_, rfl⟩
  obtain ⟨W, ⟨m0, w0⟩, turn⟩ := q D (I2.hok.fresh (Nat.le_of_eq hD))
  rw [hD]
  obtain ⟨s3, hs3⟩ : ∃ s3 : Shared, s3 = { s2 with heap := s2.heap.push { cls := .type "dict", data := .dict #[] } } := ⟨_, rfl⟩
  have h3 : s3.heap = s2.heap.push { cls := .type "dict", data := .dict #[] } := by rw [hs3]
  have I3 : Inv X pins σ (upd H2 D (.dT [])) s3 := by
    rw [hs3]
    refine I2.laid (t' := s2.toks) (fun b o e => Heap.get?_push_of_some _ e) (Nat.le_of_eq hD) ?_
    rw [← hD]
    exact dt_empty s2.heap I2.big
  have f3 : ∀ b ∈ fp, FpOk X pins (upd H2 D (.dT [])) b ∧ b < s3.heap.objs.size := fun b hb => by
    obtain ⟨o, e, _⟩ := T.obj _ _ st2 b hb
    have hlt := Heap.lt_size e
    refine ⟨⟨?_, (f2 b hb).2⟩, by rw [h3, Heap.size_push]; exact Nat.lt_succ_of_lt hlt⟩
    rw [upd_ne (by rw [← hD]; exact Nat.ne_of_lt hlt)]
    exact (f2 b hb).1
  have hch : ∀ b ∈ fp, (b ∈ X.ex ∨ X.s_0.heap.objs.size ≤ b) ∧ b ≠ X.env.locals ∧ (∀ x c, X.env.cells.lookup x = some c → c ≠ b) ∧ ∀ p ∈ X.pn ++ pins, p.1 ≠ b := fun b hb => ⟨(f3 b hb).1.2.2.2.1, (f3 b hb).1.2.1, (f3 b hb).1.2.2.2.2.1, (f3 b hb).1.2.2.2.2.2⟩
  have I4 := block_start I3 ok hN f3
  rw [← hs3]
  show codeAny _ _ (.compStart (.DictComp kx vx [⟨tg, iter, [], 0⟩] scope pos) 0 (.ref it) (.ref D) (compEnvC scope (cellsFrom (s3.heap.objs.size + 1) scope.names (cloFrom X.env.cells scope.names [])) s3.heap.objs.size X.env)) (compEnds (model X.prog X.w) X.A X.xe Option.none (EP X pins σ Q) (.ref D) (compEnvC scope (cellsFrom (s3.heap.objs.size + 1) scope.names (cloFrom X.env.cells scope.names [])) s3.heap.objs.size X.env)) { s3 with heap := pushCells (s3.heap.push { cls := .type "dict", data := .dict #[] }) scope.names }
  have pg := hg s3 (upd H2 D (.dT [])) s3.heap.objs.size (cellsFrom (s3.heap.objs.size + 1) scope.names (cloFrom X.env.cells scope.names [])) fp
  have pk := hk s3 (upd H2 D (.dT [])) s3.heap.objs.size (cellsFrom (s3.heap.objs.size + 1) scope.names (cloFrom X.env.cells scope.names [])) fp
  have pv := hv s3 (upd H2 D (.dT [])) s3.heap.objs.size (cellsFrom (s3.heap.objs.size + 1) scope.names (cloFrom X.env.cells scope.names [])) fp
  obtain ⟨ce, hce⟩ : ∃ ce, ce = compEnvC scope (cellsFrom (s3.heap.objs.size + 1) scope.names (cloFrom X.env.cells scope.names [])) s3.heap.objs.size X.env := ⟨_, rfl⟩
  have cL : ce.locals = s3.heap.objs.size := by rw [hce]; rfl
  rw [← hce] at I4 pg pk pv ⊢
  have nfp : ∀ b ∈ fp, (upd H2 D (.dT [])) b = Option.none := fun b hb => (f3 b hb).1.1
  have st4 : tn 0 (pushCells (s3.heap.push { cls := .type "dict", data := .dict #[] }) scope.names) := T.keep _ _ _ st2 fun b _ o e => pushCells_keeps _ _ _ _ (Heap.get?_push_of_some _ (by rw [h3]; exact Heap.get?_push_of_some _ e))
  generalize upd H2 D (.dT []) = H3 at I3 I4 pg pk pv w0 nfp f3
  have stat : ∀ {σ' : L2.St} {H' : Hp} {s' : Shared}, Inv (X.blk s3 H3 scope ce fp) [] σ' H' s' → (∀ b ∈ fp, H' b = Option.none) → ∀ b ∈ fp, FpOk (X.blk s3 H3 scope ce fp) [] H' b := fun {σ' H' s'} I' hn b hb =>
    ⟨hn b hb, (I'.ok.exf b hb).1, I'.ok.exfs b hb, .inl hb, fun x c e => (I'.ok.exf b hb).2 x c e, fun p hp => absurd (show p ∈ ([] : List (Addr × Obj)) ++ [] from hp) (by simp)⟩
  have loop : ∀ s4 : Shared, Inv (X.blk s3 H3 scope ce fp) [] (wipe σ (own.map (·.2))) H3 s4 → tn 0 s4.heap → codeAny (model X.prog X.w) X.A (.compLoop (.DictComp kx vx [⟨tg, iter, [], 0⟩] scope pos) 0 (.ref it) (.ref D) ce) (compEnds (model X.prog X.w) X.A X.xe Option.none (EP X pins σ Q) (.ref D) ce) s4 := by
    intro s4 I4 st4
    refine compLoop_anyD (fun n s' => ∃ i H', Inv (X.blk s3 H3 scope ce fp) [] (wipe σ (own.map (·.2))) H' s' ∧ tn i s'.heap ∧ (∀ b ∈ fp, H' b = Option.none) ∧ W i n H') ?_ m0 ⟨0, H3, I4, st4, nfp, w0⟩
    rintro n s5 ⟨i, H5, I5, st5, n5, w5⟩
    rcases turn i n H5 w5 with ⟨stop, qq⟩ | ⟨go, Nx, hNx, step⟩
    · refine thnF (T.done (X.blk s3 H3 scope ce fp) rfl rfl rfl hc i [] s5 _ H5 (fun _ _ => False) I5 (stat I5 n5) st5 stop) fun r s6 ⟨hr, I6⟩ => ?_
      subst hr
      have I7 : Inv X pins σ H5 s6 := I3.call' (ch := fp) I6.os I6.base I6.hok I6.bare hch
      have nC : H5 ce.locals = Option.none := I6.free
      obtain ⟨m, hn, _⟩ := I6.loc
      have f : FpOk X pins H5 ce.locals := by rw [cL] at nC ⊢; exact I3.fpOk (Nat.le_refl _) nC
      refine ⟨m, hn, fun h'' sb => ?_⟩
      obtain ⟨f0, f1, f2, f3, f4, f5⟩ := f
      exact ⟨.ref D, H5, I7.turned (t' := s6.toks) (fun b o hb e => (sb.2 b hb).trans e) f0 f1 f3 f4 f5, rfl, qq⟩
    · refine thnF (T.item (X.blk s3 H3 scope ce fp) rfl rfl rfl hc i [] s5 _ H5 (fun _ _ => False) I5 (stat I5 n5) st5 go) fun r s6 ⟨u, hr, h6⟩ => ?_
      subst hr
      refine thnF h6 fun _ s7 ⟨x, H7, I7, r7, y7, st7, n7⟩ => ?_
      refine thnF (pg.run _ s7 _ H7 x u _ (I7.pinned (stat I7 n7) (T.obj _ _ st7)) r7 (step x H7 y7)) fun _ s8 ⟨σ8, H8, I8, hw8, q8⟩ => ?_
      refine wpAny_tests_nil ?_
      have fin : ∀ {s' : Shared} {H' : Hp}, Inv (X.blk s3 H3 scope ce fp) ([] ++ pinsAt fp s7.heap) σ8 H' s' → Nx H' → ∃ m, m < n ∧ ∃ i H', Inv (X.blk s3 H3 scope ce fp) [] (wipe σ (own.map (·.2))) H' s' ∧ tn i s'.heap ∧ (∀ b ∈ fp, H' b = Option.none) ∧ W i m H' := fun {s' H'} I' nx => by
        obtain ⟨m', hm, w'⟩ := hNx H' nx
        have pin' : ∀ b ∈ fp, ∀ o, s7.heap.get? b = some o → s'.heap.get? b = some o ∧ H' b = Option.none := fun b hb o e =>
          let z := I'.pin (b, o) (List.mem_append_right _ (List.mem_append_right _ (mem_pinsAt hb e)))
          ⟨z.1, z.2.1⟩
        refine ⟨m', hm, i + 1, H', (I'.unpinned (pins := [])).weak (by rw [← hw8, wipe_length]) (fun j v e => ?_), T.keep _ _ _ st7 fun b hb o e => (pin' b hb o e).1, fun b hb => ?_, w'⟩
        · rw [← hw8] at e
          exact (wipe_some e).1
        · obtain ⟨o, e, _⟩ := T.obj _ _ st7 b hb
          exact (pin' b hb o e).2
      rw [if_pos rfl]
      refine thnF (pk.run _ s8 σ8 H8 _ I8 q8) fun z s10 ⟨yk, H10, I10, r10, q10⟩ => ?_
      refine thnF (pv.run _ s10 σ8 H10 _ I10 q10) fun z2 s11 ⟨yv, H11, I11, r11, b, kvs, k, ek, hD11, hb11, hz11, nx⟩ => ?_
      subst ek
      cases r10
      exact put_tupkey (X := X.blk s3 H3 scope ce fp) hu I11 hD11 hb11 hz11 r11 fun s12 I12 => fin I12 nx
  exact codeAny_compStart_dict (loop _ I4 st4) (T.self X.A 0 _ _ _ st4 (loop _ I4 st4))
end
/-! ### enumerate(t), t a tuple -/
section
variable {prog : Program} {w : World} {A : Around} {EE : Value → Shared → Prop} {s : Shared}
theorem meets_enum1 {v : Value} {o : Obj} {HH : Heap → Prop} (B : Begins v o HH) :
    Meets (Builtin.«enumerate.__new__» ⟨[.type "enumerate", v], []⟩) (fun _ R s => HH s.heap ∧
      R (.ok (.ret (.ref (s.heap.push o).objs.size))) { s with heap := (s.heap.push o).push { cls := .type "enumerate", data := .fields #[.none, .bool false, .ref s.heap.objs.size, rawInt 0, .none, .none] } }) :=
  .of_wp fun prog w A R s h => by
    obtain ⟨hp, g, d, tk, os⟩ := s
    obtain ⟨h1, h⟩ := h
    have hsub := sub_enumerate
    have begins : ∀ {A' : Around} {E : Value → Shared → Prop} {Q : Value → Shared → Prop}, Q (.ref hp.objs.size) ⟨hp.push o, g, d, tk, os⟩ → wpAny (model prog w) A' (pyIter v) Q E ⟨hp, g, d, tk, os⟩ := fun q => B.iter prog w _ _ ⟨hp, g, d, tk, os⟩ _ h1 q
    wp_walk using begins
    refine wpAny_stack_any fun st => wpAny_pure ?_
    split
    · rename_i c _ _ _ _ _
      cases (c == Value.type "enumerate") <;> (wp_walk using begins; exact ⟨_, rfl, h⟩)
    · wp_walk using begins
      exact ⟨_, rfl, h⟩
theorem call_enum1 {v : Value} {o : Obj} {HH : Heap → Prop} {QQ : Value → Shared → Prop} (B : Begins v o HH) (h1 : HH s.heap)
    (h : ∀ h', IsEnum h' (s.heap.objs.size + 1) s.heap.objs.size 0 .none → h'.get? s.heap.objs.size = some o → (∀ b u, s.heap.get? b = some u → h'.get? b = some u) → QQ (.ref (s.heap.objs.size + 1)) { s with heap := h' }) :
    wpAny (model prog w) A (call (.type "enumerate") [v]) QQ EE s := by
  refine callType_new F.called_enumerate (by decide) (F.typeCall_enumerate_1 _) (F.newCall_enumerate_1 _) (fun obj => F.args_object_init_2 obj _) F.entry_enumerate_new (meets_enum1 B) ⟨h1, ?_⟩
  have hz : (s.heap.push o).objs.size = s.heap.objs.size + 1 := Heap.size_push ..
  show _ ∧ _
  rw [hz]
  have at_ := Heap.get?_push_size (s.heap.push o) (o := { cls := .type "enumerate", data := .fields #[.none, .bool false, .ref s.heap.objs.size, rawInt 0, .none, .none] }) rfl
  rw [hz] at at_
  exact ⟨⟨_, at_, rfl⟩, h _ at_ (Heap.get?_push_of_some _ (Heap.get?_push_size _ B.free)) fun b u x => Heap.get?_push_of_some _ (Heap.get?_push_of_some _ x)⟩
end
def IteT (K : PySem.W.Frag) (a : Addr) : It :=
  ⟨fun i H => ∃ (xs : List V) (x : V), SqT K H a xs ∧ xs[i]? = some x, fun i H v H' => ∃ T x, v = .ref T ∧ H T = Option.none ∧ H' = upd H T (.tup [.int (i : Nat), x]) ∧ ∀ xs, SqT K H a xs → xs[i]? = some x, fun i H => ∃ xs : List V, SqT K H a xs ∧ xs.length = i⟩
theorem turn_enumT {P : Program} {w : World} {K : PySem.W.Frag} {elts : List Expr} {kk : Nat} {tpos : Pos} (a e it : Addr) :
    Turn P w K (.Tuple elts kk tpos) (IteT K a) [e, it] e (fun i h => (∃ old, IsEnum h e it ((i : Nat) : Int) old) ∧ h.IsTupleIter it a i ∧ e ≠ it) where
  mem := by simp
  obj := fun i h st b hb => by
    obtain ⟨⟨old, he⟩, ⟨o, ho, hc, hd⟩, _⟩ := st
    rcases List.mem_cons.mp hb with z | z
    · rw [z]; exact ⟨_, he, fun v q => nomatch q⟩
    · rw [List.mem_singleton.mp z]; exact ⟨o, ho, fun v q => by rw [hd] at q; cases q⟩
  keep := fun i h h' st k => let ⟨⟨old, he⟩, hi, hne⟩ := st; ⟨⟨old, k e (by simp) _ he⟩, hi.at fun o q => k it (by simp) o q, hne⟩
  item := by
    intro X hP hw hK hc i pins s σ H E I hf st hg
    subst hP hw hK
    obtain ⟨⟨old, he⟩, hit, hne⟩ := st
    obtain ⟨xs, x, hq, hx⟩ := hg
    obtain ⟨its, rv, p, hz⟩ := I.tuple hq
    obtain ⟨u, hu, ru⟩ := rv.get hx
    have tup : s.heap.IsTuple a its.toArray := p
    obtain ⟨oa, hoa, hca, na, hda⟩ := id tup
    obtain ⟨oi, hoi, hci, hdi⟩ := id hit
    have ea : a ≠ e := fun z => by rw [z, he] at hoa; cases hoa; exact absurd hca (show ¬ (Value.type "enumerate" = Value.type "tuple") by decide)
    have ia : a ≠ it := fun z => by
      rw [z, hoi] at hoa; cases hoa
      rw [hci] at hca; exact absurd hca (by decide)
    have hel : e < s.heap.objs.size := Heap.lt_size he
    have hil : it < s.heap.objs.size := Heap.lt_size hoi
    have hlt : i < its.toArray.size := by
      rw [List.size_toArray, ← rv.length]
      exact (List.getElem?_eq_some_iff.mp hx).1
    refine wpAny_pyNext_enum_itemC (Draws.tuple (A := X.A.in1) (show X.A.in1.handled = none from I.ok.hd hc) it a ia its.toArray) he ⟨hit, tup⟩ hlt hne (by simp [hne, Ne.symm ea]) fun u2 h' tk hP2 ho st' hT hsz hk => ?_
    have eu : u2 = u := by
      have z : its.toArray[i]? = some u2 := hP2
      rw [List.getElem?_toArray, hu] at z
      exact (Option.some.inj z).symm
    subst eu
    refine ⟨_, rfl, wpAny_letOwnedTupleGo_enum (s := { s with heap := h', toks := tk + 1 }) ho fun h'' he' sb => ?_⟩
    have hT2 : h''.get? s.heap.objs.size = some { cls := .type "tuple", data := .seq #[.int i tk, u2] } := (sb.2 _ (Nat.ne_of_gt hel)).trans hT
    have new : ObjOk X.prog X.w (upd H s.heap.objs.size (.tup [.int (i : Nat), x])) h'' s.heap.objs.size (.tup [.int (i : Nat), x]) :=
      ⟨by show 2 ≤ sizeLine; decide, [.int i tk, u2], .cons ⟨_, rfl⟩ (.cons ru .nil), ⟨_, hT2, rfl, _, rfl⟩⟩
    have I1 : Inv X pins σ (upd H s.heap.objs.size (.tup [.int (i : Nat), x])) { s with heap := h'', toks := tk + 1 } :=
      I.turnedNew (ch := [e, it]) (fun b ob hb q => (sb.2 b (fun z => hb (by simp [z]))).trans (hk b ob (fun z => hb (by simp [z])) (fun z => hb (by simp [z])) q)) hf (Nat.le_refl _) new
    refine ⟨.ref s.heap.objs.size, _, I1, rfl, ⟨_, x, rfl, I.hok.fresh (Nat.le_refl _), rfl, fun ys hy => by rw [I.tuple_inj hy hq]; exact hx⟩, ⟨⟨u2, ?_⟩, st'.1.at fun o q => (sb.2 it (Ne.symm hne)).trans q, hne⟩, fun b hb => ?_⟩
    · have e1 : ((i + 1 : Nat) : Int) = (i : Int) + 1 := by omega
      rw [e1]; exact he'
    · have hb' : b < s.heap.objs.size := by
        rcases List.mem_cons.mp hb with z | z
        · rw [z]; exact hel
        · rw [List.mem_singleton.mp z]; exact hil
      rw [upd_ne (Nat.ne_of_lt hb')]
      exact (hf b hb).1
  done := by
    intro X hP hw hK hc i pins s σ H E I hf st hg
    subst hP hw hK
    obtain ⟨⟨old, he⟩, hit, hne⟩ := st
    obtain ⟨xs, hq, hx⟩ := hg
    obtain ⟨its, rv, p, hz⟩ := I.tuple hq
    obtain ⟨f0, f1, f2, f3, f4, f5⟩ := hf it (by simp)
    have tup : s.heap.IsTuple a its.toArray := p
    obtain ⟨oa, hoa, hca, na, hda⟩ := id tup
    obtain ⟨oi, hoi, hci, hdi⟩ := id hit
    have ia : a ≠ it := fun z => by
      rw [z, hoi] at hoa; cases hoa
      rw [hci] at hca; exact absurd hca (by decide)
    have ez : its.toArray.size = i := by rw [List.size_toArray, ← rv.length]; exact hx
    refine wpAny_pyNext_enum_endD (Draws.tuple (A := X.A.in1) (show X.A.in1.handled = none from I.ok.hd hc) it a ia its.toArray) he (by rw [ez]; exact ⟨hit, tup⟩) fun h' eb => ⟨rfl, I.turned (t' := s.toks) (fun b o hb q => eb b o hb q) f0 f1 f3 f4 f5⟩
  self := fun A i s Q E st h => let ⟨⟨_, he⟩, _⟩ := st; wpAny_pyIter_enum he h
def iEnumT (K : PySem.W.Frag) (ta : TA) : TI := fun σ H R => ta σ H fun vs H1 => ∃ a xs, vs = [.ref a] ∧ SqT K H1 a xs ∧ R (IteT K a) H1
theorem pi_enumT {X : Cx} {e : Expr} {ta : TA} {p pos tpos : Pos} {elts : List Expr} {kk : Nat} (hg : Gl X "enumerate") (hm : X.mg "enumerate" = Option.none) (ha : PA X [e] ta) (hs : starEach [e] X.env = [(false, eval e X.env)] := by rfl) :
    PI X (.Tuple elts kk tpos) (.Call (.Name "enumerate" p) [e] [] pos) (iEnumT X.K ta) := by
  constructor
  intro pins s σ H R I h
  refine Call_ (ld_blt I hg hm boot_enumerate (PyProof.Rows.callWith_type1 (thn (ha.run pos pins s σ H _ I h) fun us s1 ⟨vs, H1, I1, r1, a, xs, ex, hq, q⟩ => ?_) hs rfl))
  subst ex
  obtain ⟨u, rfl, ru⟩ := vals1 r1
  cases ru
  obtain ⟨its, rv, p', hz⟩ := I1.tuple hq
  refine call_enum1 (begins_tuple a its.toArray) (show s1.heap.IsTuple a its.toArray from p') fun h' he hit hk => wpAny_pyIter_enum he ?_
  have I2 : Inv X pins σ H1 { s1 with heap := h' } := I1.kept (t' := s1.toks) hk
  refine ⟨s1.heap.objs.size + 1, [s1.heap.objs.size + 1, s1.heap.objs.size], _, _, H1, rfl, I2, turn_enumT a (s1.heap.objs.size + 1) s1.heap.objs.size, ⟨⟨.none, he⟩, ⟨_, hit, rfl, rfl⟩, Nat.succ_ne_self _⟩, fun b hb => ?_, q⟩
  have hle : s1.heap.objs.size ≤ b := by
    rcases List.mem_cons.mp hb with z | z
    · rw [z]; exact Nat.le_add_right _ _
    · rw [List.mem_singleton.mp z]; exact Nat.le_refl _
  exact I1.fpOk hle (I1.hok.fresh hle)
theorem walk_enumT {K : PySem.W.Frag} {a : Addr} {xs : List V} : Walk (IteT K a) xs.length (fun H => SqT K H a xs) (YPair (fun i => some (.int (i : Nat))) (fun i => xs[i]?)) := by
  refine ⟨fun i _ hi q => ⟨xs, xs[i], q, by simp [hi]⟩, fun _ q => ⟨xs, q, rfl⟩, fun i H v H' _ q y => ?_⟩
  obtain ⟨T, x, h1, h2, h3, h4⟩ := y
  exact ⟨T, .int (i : Nat), x, h1, h2, h3, rfl, h4 xs q⟩
/-- a dict comprehension over a walk -/
theorem dc_it {J : It} {n : Nat} {G : Hp → Prop} {Y : Nat → Hp → V → Hp → Prop} (w : Walk J n G Y) {g : TG} {tk tv : TE} {vs : List Nat} {σ : L2.St} {H1 : Hp} {D : Addr} {Qd : Hp → Prop} (Pv : Nat → Hp → Prop) (h0 : Pv 0 (upd H1 D (.dT []))) (hG : ∀ i H, i ≤ n → Pv i H → G H)
    (hs : ∀ i x H H', i < n → Pv i H → Y i H x H' → g x (wipe σ vs) H' fun σ2 H2 => wipe σ2 vs = wipe σ vs ∧ tk σ2 H2 fun y H4 => tv σ2 H4 fun z H5 => ∃ b kvs k, y = .ref b ∧ H5 D = some (.dT kvs) ∧ H5 b = some (.tup (k.map kV)) ∧ kvs.length < sizeLine ∧ Pv (i + 1) (upd H5 D (.dT (putK kvs k z)))) (hd : ∀ H, Pv n H → Qd H) :
    ∃ W : Nat → Nat → Hp → Prop, (∃ m, W 0 m (upd H1 D (.dT []))) ∧ ∀ i m H, W i m H →
      (J.stop i H ∧ Qd H) ∨ (J.go i H ∧ ∃ Nx : Hp → Prop, (∀ H', Nx H' → ∃ m', m' < m ∧ W (i + 1) m' H') ∧ ∀ x H', J.yld i H x H' → g x (wipe σ vs) H' fun σ2 H2 => wipe σ2 vs = wipe σ vs ∧
        tk σ2 H2 fun y H4 => tv σ2 H4 fun z H5 => ∃ b kvs k, y = .ref b ∧ H5 D = some (.dT kvs) ∧ H5 b = some (.tup (k.map kV)) ∧ kvs.length < sizeLine ∧ Nx (upd H5 D (.dT (putK kvs k z)))) := by
  refine ⟨fun i m H => m = n - i ∧ i ≤ n ∧ Pv i H, ⟨n, by simp, Nat.zero_le _, h0⟩, ?_⟩
  rintro i m H ⟨rfl, hi, p⟩
  have q := hG i H hi p
  by_cases hlt : i < n
  · exact .inr ⟨w.goes i H hlt q, Pv (i + 1), fun H' p' => ⟨n - (i + 1), by omega, rfl, hlt, p'⟩, fun x H' y => hs i x H H' hlt p (w.yields i H x H' hlt q y)⟩
  · have e : i = n := by omega
    subst e
    exact .inl ⟨w.stops H q, hd H p⟩
/-! ### a def that gives a tuple's iterator; a for over an object whose class has it as __iter__ -/
structure InOk (P : Program) (w : World) (K : PySem.W.Frag) (mg : Str → Option Value) (base : Heap) (k : Nat) (f : Addr) (fd : FuncData) (ps : List Str) (sp : Nat → Sp) : Prop where
  size : ∀ n vs H Q E, sp n vs H Q E → vs.length = ps.length
  go : ∀ (A : Around) (outer : List Env) (s : Shared) (H : Hp) (args : Args) (us : List Value) (vs : List V) (Q : VK) (E : XK), Room k A → Env0 P w K mg base A outer s H →
    BindsTo s fd args (ps.zip us) → Vals vs us → sp s.heap.objs.size vs H Q E → codeAny (model P w) A (.call (.ref f) args) (CR CX0 outer P w H s Q E) s
section
variable {P : Program} {w : World} {K : PySem.W.Frag} {mg : Str → Option Value} {base : Heap}
theorem in_ok {k : Nat} {x qual : Str} {st : Stmt} {f : Addr} {fd : FuncData} {N ps : List Str} {sp : Nat → Sp} (F : Fun K x qual st f fd) (S : FnScope N ps (defScope st)) (len : ∀ n vs H Q E, sp n vs H Q E → vs.length = ps.length)
    (body : ∀ (cdv : Value) (A : Around) (outer : List Env) (s : Shared) (H : Hp) (vs : List V) (Q : VK) (E : XK), Room k (A.deeper (envOfC qual (defScope st) s.heap.objs.size f cdv)) → sp s.heap.objs.size vs H Q E →
      ∃ t, PSs (cxOf CX0 P w K mg base N qual (defScope st) f cdv A outer s H E).nox (defBody st) t ∧ t { nx := fun _ H' => Q .non H', rt := Q } (start N vs) H) : InOk P w K mg base (k + 1) f fd ps sp := by
  obtain ⟨oc, od, kV, doc, pm, an, cdv, ct, osl, rfl, lk, hcd⟩ := F.ex
  constructor
  · exact len
  intro A outer s H args us vs Q E hr env0 bind rel hsp
  have up := env0.bs
  have KX : K.In s.heap := env0.mod.kin.keeps (fun b o e => (up b o e).1)
  refine codeAny_call_function (hroom := hr.depth) (KX _ _ lk) rfl S.co S.gen rfl (PySem.W.codeRec_of KX hcd) (bind _ _ _ _ ?_)
  have kinds : ∀ y ∈ ps.zip us, (defScope st).names.lookup y.1 = some .local ∨
      ((defScope st).names.lookup y.1 = some .cell ∧ ((cellsFrom (s.heap.objs.size + 1) (defScope st).names []).lookup y.1).isSome = true) := by
    rintro ⟨n, v⟩ hy
    exact (S.par n (List.of_mem_zip hy).1).elim .inl (fun q => .inr ⟨q, PySem.W.cellsFrom_some _ _ _ (.inl q)⟩)
  refine wpAny_newFunctionEnv_cells S.kind kinds (fun env he s1 fresh => ?_)
  subst he
  refine ⟨(env0.mod.nolimit.keeps (fun b o e => (up b o e).1)).keeps fresh.toInCall.keep, codeAny_func ?_⟩
  obtain ⟨t, walk, want⟩ := body cdv A outer s H vs Q E (hr.deeper _) hsp
  have J := inv_start (CX := CX0) (E := E) S hr.hd env0 (len _ _ _ _ _ hsp) rel fresh
  refine wpAny_mono (walk.nox.run [] s1 (start N vs) H _ J want) ?_ (fun _ _ z => z)
  rintro (_ | _ | _ | u) s2 h
  · obtain ⟨σ2, H2, J2, q⟩ := h
    exact ⟨.non, H2, J2.os, J2.bare, J2.base, J2.hok, rfl, q⟩
  · obtain ⟨_, _, _, q⟩ := h
    exact q.elim
  · obtain ⟨_, _, _, q⟩ := h
    exact q.elim
  · obtain ⟨v, σ2, H2, J2, r, q⟩ := h
    exact ⟨v, H2, J2.os, J2.bare, J2.base, J2.hok, r, q⟩
end
/-- at it a tuple's iterator, i items taken -/
def ItT (t it : Addr) (i : Nat) : HO := .ext fun h => h.IsTupleIter it t i
section
variable {X : Cx}
theorem itT_ok {P : Program} {w : World} {H : Hp} {h : Heap} {t it : Addr} {i : Nat} (e : h.IsTupleIter it t i) : ObjOk P w H h it (ItT t it i) := ⟨e, e.elim fun o q => ⟨o, q.1⟩, fun _ _ q k => q.elim fun o z => ⟨o, k _ z.1, z.2⟩⟩
def rIterT (K : PySem.W.Frag) (n : Nat) : List V → Hp → VK → Prop := fun xs H Q => ∃ (l : Addr) (zs : List V), xs = [.ref l] ∧ SqT K H l zs ∧ ∀ it, H it = Option.none → n ≤ it → Q (.ref it) (upd H it (ItT l it 0))
theorem wp_iter_tup {prog : Program} {w : World} {A : Around} {EE : Value → Shared → Prop} {s : Shared} {l : Addr} {items : Array Value} {QQ : Value → Shared → Prop} (hl : s.heap.IsTuple l items)
    (h : QQ (.ref s.heap.objs.size) { s with heap := s.heap.push { cls := .type "tuple_iterator", data := .fields #[.ref l, .int 0 0] } }) : wpAny (model prog w) A (call (.builtin "iter") [.ref l]) QQ EE s := by
  refine Calls.call_function_entry (by decide +kernel) (by decide +kernel) PySem.W.kdk_entry_iter (PySem.W.kdk_args_iter _) ?_
  unfold Builtin.«iter»
  refine wpAny_bind (m := someArgs "iter" 1 2 _) (wpAny_of_eq (a := [Value.ref l]) (by first | rfl | kernel_rfl!) ?_)
  exact wpAny_bind (wpAny_pyIter_tuple hl (wpAny_pure ⟨_, rfl, h⟩))
/-- iter(t) -/
theorem call_iterT : CallR X (.builtin "iter") (rIterT X.K X.s_0.heap.objs.size) := by
  intro pins s σ H xs us Q I r h
  obtain ⟨l, zs, rfl, hq, q⟩ := h
  obtain ⟨u, rfl, ru⟩ := vals1 r
  cases ru
  obtain ⟨its, rv, pl, hz⟩ := I.tuple hq
  refine wp_iter_tup (show s.heap.IsTuple l its.toArray from pl) ?_
  exact ⟨.ref s.heap.objs.size, _, I.laid (t' := s.toks) (fun b u e => Heap.get?_push_of_some _ e) (Nat.le_refl _) (itT_ok ⟨_, Heap.get?_push_size _ rfl, rfl, rfl⟩), rfl, q _ (I.hok.fresh (Nat.le_refl _)) I.sz⟩
/-- what such an __iter__ promises: an iterator of the tuple at the attribute nm -/
def spIter (K : PySem.W.Frag) (C : Addr) (nm : Str) (n : Nat) : Sp := fun vs H Q _ => ∃ (b dx l : Addr) (fs : List (Str × V)) (zs : List V), vs = [.ref b] ∧ H b = some (.ins C dx fs) ∧ fs.lookup nm = some (.ref l) ∧ SqT K H l zs ∧
  ∀ it, H it = Option.none → n ≤ it → Q (.ref it) (upd H it (ItT l it 0))
def iOwnI (K : PySem.W.Frag) (C : Addr) (nm : Str) (tl : TE) : TI := fun σ H R => tl σ H fun x H1 => ∃ (b dx l : Addr) (fs : List (Str × V)) (zs : List V), x = .ref b ∧ H1 b = some (.ins C dx fs) ∧ fs.lookup nm = some (.ref l) ∧ SqT K H1 l zs ∧ R (Itt K l) H1
theorem pi_ownI {C f : Addr} {fd : FuncData} {ps : List Str} {k : Nat} {nm : Str} {tg l : Expr} {tl : TE} (F : InOk X.prog X.w X.K X.mg X.base k f fd ps (spIter X.K C nm)) (hs : PySem.W.findIn X.K (.ref C) "__iter__" = some (some (.ref f))) (hf : PySem.W.isFn X.K (.ref f) = true)
    (hb : Binds X.K fd ps []) (hr : Room k X.A) (hl : PE X l tl) : PI X tg l (iOwnI X.K C nm tl) := by
  constructor
  intro pins s σ H R I h
  refine thn (hl.run pins s σ H _ I h) fun v s1 ⟨x, H1, I1, r1, b, dx, l, fs, zs, e, hb1, hf1, hz, q⟩ => ?_
  subst e
  cases r1
  obtain ⟨mA, J, _⟩ := ins_get I1.hok hb1
  obtain ⟨od, J, _⟩ := J.look
  obtain ⟨m, hF⟩ := I1.fr
  refine PySem.W.owit_iter hF I1.ok.mod.kin J hs hf ?_
  have hsp : spIter X.K C nm s1.heap.objs.size [.ref b] H1 (fun v H' => ∃ it, v = .ref it ∧ H1 it = Option.none ∧ s1.heap.objs.size ≤ it ∧ H' = upd H1 it (ItT l it 0)) E0 := ⟨b, dx, l, fs, zs, rfl, hb1, hf1, hz, fun it n1 n2 => ⟨it, rfl, n1, n2, rfl⟩⟩
  have len := F.size _ _ _ _ _ hsp
  refine wpAny_call (codeAny_mono (F.go X.A X.stack s1 H1 ⟨[.ref b], []⟩ [.ref b] [.ref b] _ E0 hr I1.env0 (by simpa using hb s1 [.ref b] I1.kIn (by simpa using len)) (.cons rfl .nil) hsp) fun r s' hq => ?_)
  rcases r with er | _ | _ | _ | u
  · exact False.elim hq
  · exact False.elim hq
  · exact False.elim hq
  · exact False.elim hq
  obtain ⟨v, H', I', rv, it, rfl, n1, n2, rfl⟩ := I1.after hq
  cases rv
  have st : s'.heap.IsTupleIter it l 0 := (I'.hok it _ upd_same).1
  unfold PySem.W.OwitIt
  refine wpAny_specialOf st.typeIs PySem.F.slot_tuple_iterator_next.lookup ?_
  have D := ItX.inv_drop I' (φ := fun h => h.IsTupleIter it l 0) upd_same
  have fp := ItX.inv_fp I' (u := ItT l it 0) upd_same (Nat.le_trans I1.sz n2)
  rw [ItX.dropH_upd n1] at D fp
  exact ⟨it, [it], _, _, H1, rfl, D, turn_tuple l it, st, fun b hb => by rw [List.mem_singleton.mp hb]; exact fp, q⟩
end
/-! ### what is told -/
def isR (bk : List Lf) (r : Pg × Pg) : Bool := decide (r.1 ∈ allP bk) && (decide (r.2 ∈ allP bk) && leP r.1 r.2)
def isG (bk : List Lf) (r : Pg × Pg) : Bool := decide (r.1 ∈ allP bk) && decide (r.2 ∈ allP bk)
def inR (p : Pg) (r : Pg × Pg) : Bool := leP r.1 p && leP p r.2
def toldP (bk : List Lf) (ps : List (Pg × Pg)) : List Pg := (shownP bk).filter fun p => (ps.filter (isR bk)).any (inR p)
def dueP (bk : List Lf) (ps : List (Pg × Pg)) : List Pg := (shownP bk).filter fun p => (ps.filter (isG bk)).any (inR p)
theorem told_due (bk : List Lf) (ps : List (Pg × Pg)) : toldP bk ps = dueP bk ps := by
  unfold toldP dueP
  refine List.filter_congr fun p _ => ?_
  rw [Bool.eq_iff_iff, List.any_eq_true, List.any_eq_true]
  constructor
  · rintro ⟨r, hr, h⟩
    obtain ⟨h1, h2⟩ := List.mem_filter.mp hr
    refine ⟨r, List.mem_filter.mpr ⟨h1, ?_⟩, h⟩
    unfold isR at h2
    unfold isG
    simp only [Bool.and_eq_true] at h2 ⊢
    exact ⟨h2.1, h2.2.1⟩
  · rintro ⟨r, hr, h⟩
    obtain ⟨h1, h2⟩ := List.mem_filter.mp hr
    refine ⟨r, List.mem_filter.mpr ⟨h1, ?_⟩, h⟩
    unfold isG at h2
    unfold isR
    unfold inR at h
    simp only [Bool.and_eq_true] at h2 h ⊢
    exact ⟨h2.1, h2.2, leP_trans h.1 h.2⟩
/-- a page as it is kept -/
def keptPD (d : PyData) : Option Pg := match items d with
  | some [x, y] => if wI 0 1 y = true then (match keptD x with | some L => some (L, toI y) | none => none) else none
  | _ => none
/-- a row of two things that are kept as pages -/
def RowAt (K : PySem.W.Frag) (H : Hp) (v : V) (r : Pg × Pg) : Prop := ∃ (a : Addr) (x y : V) (dx dy : PyData), v = .ref a ∧ Seq K H a [x, y] ∧ Dp K H x dx ∧ Dp K H y dy ∧ keptPD dx = some r.1 ∧ keptPD dy = some r.2
theorem RowAt.same {K : PySem.W.Frag} {H H' : Hp} {v : V} {r : Pg × Pg} (m : Same H H') (h : RowAt K H v r) : RowAt K H' v r := by
  obtain ⟨a, x, y, dx, dy, e, h1, h2, h3, h4, h5⟩ := h
  exact ⟨a, x, y, dx, dy, e, same_sq m h1, dp_same m h2, dp_same m h3, h4, h5⟩
inductive RowAll (K : PySem.W.Frag) (H : Hp) : List V → List (Pg × Pg) → Prop
  | nil : RowAll K H [] []
  | cons {v : V} {vs : List V} {r : Pg × Pg} {rs : List (Pg × Pg)} (h : RowAt K H v r) (t : RowAll K H vs rs) : RowAll K H (v :: vs) (r :: rs)
theorem RowAll.same {K : PySem.W.Frag} {H H' : Hp} (m : Same H H') : ∀ {vs : List V} {rs : List (Pg × Pg)}, RowAll K H vs rs → RowAll K H' vs rs
  | _, _, .nil => .nil
  | _, _, .cons h r => .cons (h.same m) (RowAll.same m r)
theorem RowAll.len {K : PySem.W.Frag} {H : Hp} : ∀ {vs : List V} {rs : List (Pg × Pg)}, RowAll K H vs rs → vs.length = rs.length
  | _, _, .nil => rfl
  | _, _, .cons _ r => congrArg (· + 1) (RowAll.len r)
theorem RowAll.get {K : PySem.W.Frag} {H : Hp} : ∀ {vs : List V} {rs : List (Pg × Pg)} {i : Nat} {v : V}, RowAll K H vs rs → vs[i]? = some v → ∃ r, rs[i]? = some r ∧ RowAt K H v r
  | _, _, _, _, .nil, e => nomatch e
  | _, _, 0, _, .cons h r, e => by
    injection e with e
    subst e
    exact ⟨_, rfl, h⟩
  | _, _, i + 1, _, .cons h r, e => by
    obtain ⟨d, e1, e2⟩ := RowAll.get (i := i) r e
    exact ⟨d, e1, e2⟩
/-- data all the way of the depth of a row of leaves -/
def dLf (l : Lf) : PyData := .tuple [dL l.L, dS l.fr, dS l.bk, .tuple []]
def okLf (l : Lf) : Prop := okL l.L ∧ rowsB 1 l.fr = true ∧ rowsB 0 l.bk = true ∧ l.pen = []
/-- a row of leaves of rising labels -/
def okBk (bk : List Lf) : Prop := bk.length ≤ 60 ∧ (∀ l ∈ bk, okLf l) ∧ bk.Pairwise fun a b => HT.lexLt a.L b.L = true
def okR (r : Pg × Pg) : Prop := okP r.1 ∧ okP r.2
def dRs (ps : List (Pg × Pg)) : PyData := .tuple (ps.map dR)
theorem dLf_inv {H : Hp} {v : V} {lf : Lf} (h : Tp H v (dLf lf)) : ∃ (t : Addr) (u1 u2 u3 u4 : V), v = .ref t ∧ H t = some (.tup [u1, u2, u3, u4]) ∧ Tp H u1 (dL lf.L) ∧ Tp H u2 (dS lf.fr) ∧ Tp H u3 (dS lf.bk) := by
  cases h with
  | tup h r =>
    cases r with
    | cons h1 r =>
      cases r with
      | cons h2 r =>
        cases r with
        | cons h3 r =>
          cases r with
          | cons h4 r => cases r; exact ⟨_, _, _, _, _, rfl, h, h1, h2, h3⟩
theorem allP_snoc (bk : List Lf) (l : Lf) : allP (bk ++ [l]) = allP bk ++ [(l.L, 0), (l.L, 1)] := by
  unfold allP
  rw [List.flatMap_append]
  rfl

theorem pl_dRs {ps : List (Pg × Pg)} (h : ∀ r ∈ ps, okR r) (hl : ps.length ≤ 1000) : Pl 5 (dRs ps) := pl_tup (fun r hr => pl_dR' (h r hr) 0) hl
theorem pl_dPs {ps : List Pg} (h : ∀ p ∈ ps, p.1.length ≤ 3) (hl : ps.length ≤ 1000) : Pl 5 (dPs ps) := pl_tup (fun p hp => pl_dP (h p hp) 1) hl
theorem told_mem {bk : List Lf} {ps : List (Pg × Pg)} (ok : okBk bk) : ∀ p ∈ toldP bk ps, p.1.length ≤ 3 := fun p hp => by
  obtain ⟨l, hl, h⟩ := List.mem_flatMap.mp (List.mem_filter.mp hp).1
  have e : p.1 = l.L := by
    rw [sideP_eq] at h
    obtain ⟨s, _, hs⟩ := List.mem_filterMap.mp h
    rw [(sideF_some hs).2]
  rw [e]
  exact (ok.2.1 l hl).1.1
theorem pl_told {bk : List Lf} {ps : List (Pg × Pg)} (ok : okBk bk) : Pl 5 (dPs (toldP bk ps)) := pl_dPs (told_mem ok) (by
  have h1 : (toldP bk ps).length ≤ (shownP bk).length := List.length_filter_le ..
  have h2 := shownP_len bk
  have := ok.1
  omega)
theorem kept_P {p : Pg} (h : okP p) : keptPD (dP p) = some p := by
  show (if wI 0 1 (.int p.2) = true then (match keptD (dL p.1) with | some L => some (L, toI (.int p.2)) | none => none) else none) = some p
  rw [if_pos (show wI 0 1 (.int p.2) = true from decide_eq_true (by have := h.2; omega)), kept_dL h.1]
  rfl
theorem kept_lP {p : Pg} (h : okP p) : keptPD (toL (dP p)) = some p := by
  have e : keptD (.list (toLs (p.1.map PyData.int))) = some p.1 := by
    rw [toLs_ints]
    exact kept_dL h.1
  show (if wI 0 1 (.int p.2) = true then (match keptD (.list (toLs (p.1.map PyData.int))) with | some L => some (L, toI (.int p.2)) | none => none) else none) = some p
  rw [if_pos (show wI 0 1 (.int p.2) = true from decide_eq_true (by have := h.2; omega)), e]
  rfl
theorem rowAll_tp {K : PySem.W.Frag} {H : Hp} : ∀ {us : List V} {ps : List (Pg × Pg)}, TpAll H us (ps.map dR) → (∀ r ∈ ps, okR r) → RowAll K H us ps
  | _, [], h, _ => by cases h; exact .nil
  | _, r :: ps, h, ok => by
    cases h with
    | cons h t =>
      obtain ⟨a, x, y, rfl, ha, h1, h2⟩ := tpR_inv h
      have o := ok r (List.mem_cons_self ..)
      exact .cons ⟨a, x, y, _, _, rfl, .inr (.inl (.inl ha)), h1.dp, h2.dp, kept_P o.1, kept_P o.2⟩ (rowAll_tp t fun q hq => ok q (List.mem_cons_of_mem _ hq))
theorem rowAll_dp {K : PySem.W.Frag} {H : Hp} : ∀ {us : List V} {ps : List (Pg × Pg)}, DpAll K H us (toLs (ps.map dR)) → (∀ r ∈ ps, okR r) → RowAll K H us ps
  | _, [], h, _ => by cases h; exact .nil
  | _, r :: ps, h, ok => by
    cases h with
    | cons h t =>
      have o := ok r (List.mem_cons_self ..)
      refine .cons ?_ (rowAll_dp t fun q hq => ok q (List.mem_cons_of_mem _ hq))
      have h : Dp K H _ (.list [toL (dP r.1), toL (dP r.2)]) := h
      cases h with
      | lst ha da =>
        cases da with
        | cons h1 da =>
          cases da with
          | cons h2 da =>
            cases da
            exact ⟨_, _, _, _, _, rfl, .inl ha, h1, h2, kept_lP o.1, kept_lP o.2⟩
theorem okBk_drop {bk : List Lf} (k : Nat) (h : okBk bk) : okBk (bk.take k ++ bk.drop (k + 1)) := by
  have s : (bk.take k ++ bk.drop (k + 1)).Sublist bk := by
    rw [← List.eraseIdx_eq_take_drop_succ]
    exact List.eraseIdx_sublist ..
  exact ⟨Nat.le_trans s.length_le h.1, fun l hl => h.2.1 l (s.subset hl), h.2.2.sublist s⟩
theorem okBk_set {bk : List Lf} {k : Nat} {lf new : Lf} (h : okBk bk) (e : bk[k]? = some lf) (o : okLf new) (eL : new.L = lf.L) : okBk ((bk.take k ++ [new]) ++ bk.drop (k + 1)) := by
  obtain ⟨hk, e⟩ := List.getElem?_eq_some_iff.mp e
  have m : ((bk.take k ++ [new]) ++ bk.drop (k + 1)).map (·.L) = bk.map (·.L) := by
    conv => rhs; rw [← List.take_append_drop k bk]
    rw [List.drop_eq_getElem_cons hk, e, List.append_assoc]
    simp only [List.map_append, List.map_cons, List.map_nil, List.singleton_append, eL]
  refine ⟨?_, ?_, ?_⟩
  · rw [← List.length_map (f := (·.L)), m, List.length_map]
    exact h.1
  · intro l hl
    rcases List.mem_append.mp hl with hl | hl
    · rcases List.mem_append.mp hl with hl | hl
      · exact h.2.1 l (List.mem_of_mem_take hl)
      · rw [List.mem_singleton.mp hl]; exact o
    · exact h.2.1 l (List.mem_of_mem_drop hl)
  · have p : (bk.map (·.L)).Pairwise fun a b => HT.lexLt a b = true := by
      rw [List.pairwise_map]
      exact h.2.2
    rw [← m, List.pairwise_map] at p
    exact p
/-! ### sorted of a list of data that are alike -/
section
variable {X : Cx}
/-- the items of a list, by the order of the data they stand for -/
def srtV (xs : List V) (ds : List PyData) : List (V × PyData) := (xs.zip ds).mergeSort (PySem.W.dataLe false Prod.snd)
def rSortedD (K : PySem.W.Frag) : List V → Hp → VK → Prop := fun vs H Q => ∃ (a : Addr) (xs : List V) (ds : List PyData), vs = [V.ref a] ∧ SqL K H a xs ∧ DpAll K H xs ds ∧ PySem.W.AllAlike ds ∧ PySem.W.Sortable ds ∧ (∀ d ∈ ds, d.depth ≤ 60) ∧
  ∀ p, H p = none → Q (.ref p) (upd H p (.lst ((srtV xs ds).map Prod.fst)))
theorem dpAll_zip {K : PySem.W.Frag} {H : Hp} : ∀ {xs : List V} {ds : List PyData}, DpAll K H xs ds → (xs.zip ds).map Prod.snd = ds ∧ (xs.zip ds).map Prod.fst = xs
  | _, _, .nil => ⟨rfl, rfl⟩
  | x :: xs, d :: ds, .cons _ t => by
    obtain ⟨h1, h2⟩ := dpAll_zip t
    exact ⟨congrArg (d :: ·) h1, congrArg (x :: ·) h2⟩
theorem vals_each : ∀ {xs : List V} {its : List Value} {ds : List PyData}, Vals xs its → ds.length = xs.length → PySem.W.EachIs (fun (v : Value) (b : V × PyData) => RelV b.1 v) its (xs.zip ds)
  | _, _, [], .nil, _ => .nil
  | _, _, d :: ds, .cons r t, h => .cons r (vals_each t (Nat.succ.inj h))
  | _, _, d :: ds, .nil, h => nomatch h
  | _, _, [], .cons _ _, h => nomatch h
theorem reads_each {pins : List (Addr × Obj)} {σ : L2.St} {H : Hp} {s : Shared} (I : Inv X pins σ H s) : ∀ {xs : List V} {its : List Value} {ds : List PyData}, Vals xs its → DpAll X.K H xs ds → PySem.W.EachIs (fun (v : Value) (b : V × PyData) => ∃ as, Reads s.heap v b.2 as) its (xs.zip ds)
  | _, _, _, .nil, .nil => .nil
  | _, _, _, .cons r t, .cons h u => .cons (Dp.reads I _ _ _ h r) (reads_each I t u)
theorem each_vals : ∀ {its : List Value} {bs : List (V × PyData)}, PySem.W.EachIs (fun (v : Value) (b : V × PyData) => RelV b.1 v) its bs → Vals (bs.map Prod.fst) its
  | _, _, .nil => .nil
  | _, _, .cons h t => .cons h (each_vals t)
theorem cr_sortedD (hu : X.A.units + 65 < cLine) : CallR X (.builtin "sorted") (rSortedD X.K) := by
  intro pins s σ H vs us Q I r h
  obtain ⟨a, xs, ds, rfl, hs, hd, al, so, dep, q⟩ := h
  obtain ⟨its, rv, hl, hz⟩ := I.list hs
  obtain ⟨u, rfl, ru⟩ := vals1 r
  obtain rfl : u = Value.ref a := ru
  obtain ⟨z1, z2⟩ := dpAll_zip hd
  have hlen := dpAll_len hd
  have lz : (xs.zip ds).length = xs.length := by rw [← List.length_map (f := Prod.fst), z2]
  refine PySem.W.sorted_data (enc := Prod.snd) hl.isList (vals_each rv hlen.symm) (reads_each I rv hd) (by rw [z1]; exact al) (by rw [z1]; exact so) (by rw [lz]; exact hz) (fun b hb => ?_) fun out ho he => ?_
  · have hb2 : b.2 ∈ ds := by rw [← z1]; exact List.mem_map_of_mem hb
    have := dep _ hb2
    omega
  · obtain ⟨n, hn⟩ := sortedAll_at s.heap its out.toArray
    have ol : ((srtV xs ds).map Prod.fst).length ≤ sizeLine := by
      unfold srtV
      rw [List.length_map, (List.mergeSort_perm ..).length_eq, lz]
      exact hz
    exact ⟨.ref (s.heap.objs.size + 1), upd H (s.heap.objs.size + 1) (.lst ((srtV xs ds).map Prod.fst)), I.laid (t' := s.toks) (fun b o e => sortedAll_old e) (Nat.le_succ _) ⟨ol, out, n, each_vals he, hn⟩, rfl, q _ (I.hok.fresh (Nat.le_succ _))⟩
end
/-- .. of pages -/
theorem alike_Ps (ps : List Pg) : PySem.W.AllAlike (ps.map dP) := PySem.W.AllAlike.of alike_P
theorem sortable_Ps (ps : List Pg) : PySem.W.Sortable (ps.map dP) := PySem.W.Sortable.tuples fun _ => ⟨_, _, rfl⟩
theorem tpAll_mem {H : Hp} : ∀ {xs : List V} {ds : List PyData}, TpAll H xs ds → ∀ b ∈ xs.zip ds, Tp H b.1 b.2
  | _, _, .nil, b, hb => nomatch hb
  | _, _, .cons h t, b, hb => by
    rcases List.mem_cons.mp hb with rfl | hb
    · exact h
    · exact tpAll_mem t b hb
theorem tpAll_of {H : Hp} : ∀ (bs : List (V × PyData)), (∀ b ∈ bs, Tp H b.1 b.2) → TpAll H (bs.map Prod.fst) (bs.map Prod.snd)
  | [], _ => .nil
  | b :: r, h => .cons (h b (List.mem_cons_self ..)) (tpAll_of r fun c hc => h c (List.mem_cons_of_mem _ hc))
theorem perm_of_map {α β : Type} {f : α → β} : ∀ {l : List β} {ps : List α}, l.Perm (ps.map f) → ∃ qs : List α, l = qs.map f ∧ qs.Perm ps := by
  intro l ps h
  have key : ∀ {l m : List β}, l.Perm m → ∀ ps : List α, m = ps.map f → ∃ qs : List α, l = qs.map f ∧ qs.Perm ps := by
    intro l m h
    induction h with
    | nil => intro ps e; exact ⟨[], rfl, by cases ps with | nil => exact .nil | cons _ _ => cases e⟩
    | cons x _ ih =>
      intro ps e
      cases ps with
      | nil => cases e
      | cons p r =>
        injection e with e1 e2
        obtain ⟨qs, e3, hp⟩ := ih r e2
        exact ⟨p :: qs, by rw [e1, e3]; rfl, hp.cons p⟩
    | swap x y l =>
      intro ps e
      match ps, e with
      | p :: q :: r, e =>
        injection e with e1 e2
        injection e2 with e2 e3
        exact ⟨q :: p :: r, by rw [e1, e2, e3]; rfl, .swap ..⟩
    | trans _ _ ih1 ih2 =>
      intro ps e
      obtain ⟨qs, e1, h1⟩ := ih2 ps e
      obtain ⟨rs, e2, h2⟩ := ih1 qs e1
      exact ⟨rs, e2, h2.trans h1⟩
  exact key h ps rfl
theorem srt_Ps {H : Hp} {xs : List V} {ps : List Pg} (h : TpAll H xs (ps.map dP)) : ∃ qs : List Pg, qs.Perm ps ∧ TpAll H ((srtV xs (ps.map dP)).map Prod.fst) (qs.map dP) := by
  have hp : (srtV xs (ps.map dP)).Perm (xs.zip (ps.map dP)) := List.mergeSort_perm ..
  have hm : ∀ b ∈ srtV xs (ps.map dP), Tp H b.1 b.2 := fun b hb => tpAll_mem h b (hp.mem_iff.mp hb)
  have h2 := tpAll_of _ hm
  have z : (xs.zip (ps.map dP)).map Prod.snd = ps.map dP := by
    rw [List.map_snd_zip]
    rw [h.len]
    exact Nat.le_refl _
  have h3 : ((srtV xs (ps.map dP)).map Prod.snd).Perm (ps.map dP) := by
    have := hp.map Prod.snd
    rwa [z] at this
  obtain ⟨qs, e, hq⟩ : ∃ qs : List Pg, (srtV xs (ps.map dP)).map Prod.snd = qs.map dP ∧ qs.Perm ps := perm_of_map h3
  exact ⟨qs, hq, by rw [← e]; exact h2⟩
/-! ### rows of pages -/
inductive PgAll (K : PySem.W.Frag) (H : Hp) : List V → List Pg → Prop
  | nil : PgAll K H [] []
  | cons {v : V} {vs : List V} {p : Pg} {ps : List Pg} {d : PyData} (h : Dp K H v d) (e : keptPD d = some p) (t : PgAll K H vs ps) : PgAll K H (v :: vs) (p :: ps)
theorem PgAll.same {K : PySem.W.Frag} {H H' : Hp} (m : Same H H') : ∀ {vs : List V} {ps : List Pg}, PgAll K H vs ps → PgAll K H' vs ps
  | _, _, .nil => .nil
  | _, _, .cons h e t => .cons (dp_same m h) e (PgAll.same m t)
theorem PgAll.len {K : PySem.W.Frag} {H : Hp} : ∀ {vs : List V} {ps : List Pg}, PgAll K H vs ps → vs.length = ps.length
  | _, _, .nil => rfl
  | _, _, .cons _ _ t => congrArg (· + 1) (PgAll.len t)
theorem PgAll.get {K : PySem.W.Frag} {H : Hp} : ∀ {vs : List V} {ps : List Pg} {i : Nat} {v : V}, PgAll K H vs ps → vs[i]? = some v → ∃ p d, ps[i]? = some p ∧ Dp K H v d ∧ keptPD d = some p
  | _, _, _, _, .nil, e => nomatch e
  | _, _, 0, _, .cons h k t, e => by
    injection e with e
    subst e
    exact ⟨_, _, rfl, h, k⟩
  | _, _, i + 1, _, .cons h k t, e => PgAll.get (i := i) t e
theorem pgAll_tp {K : PySem.W.Frag} {H : Hp} : ∀ {us : List V} {ps : List Pg}, TpAll H us (ps.map dP) → (∀ p ∈ ps, okP p) → PgAll K H us ps
  | _, [], h, _ => by cases h; exact .nil
  | _, p :: ps, h, ok => by
    cases h with
    | cons h t => exact .cons h.dp (kept_P (ok p (List.mem_cons_self ..))) (pgAll_tp t fun q hq => ok q (List.mem_cons_of_mem _ hq))
theorem pgAll_dp {K : PySem.W.Frag} {H : Hp} : ∀ {us : List V} {ps : List Pg}, DpAll K H us (toLs (ps.map dP)) → (∀ p ∈ ps, okP p) → PgAll K H us ps
  | _, [], h, _ => by cases h; exact .nil
  | _, p :: ps, h, ok => by
    cases h with
    | cons h t => exact .cons h (kept_lP (ok p (List.mem_cons_self ..))) (pgAll_dp t fun q hq => ok q (List.mem_cons_of_mem _ hq))
theorem eqvAll_P : ∀ ps qs : List Pg, PyData.eqvAll (ps.map dP) (qs.map dP) = decide (ps = qs)
  | [], [] => rfl
  | [], _ :: _ => rfl
  | _ :: _, [] => rfl
  | p :: ps, q :: qs => by
    show (PyData.eqv (dP p) (dP q) && PyData.eqvAll (ps.map dP) (qs.map dP)) = _
    rw [eqv_dP, eqvAll_P ps qs, Bool.eq_iff_iff]
    simp
theorem shown_okP {bk : List Lf} (ok : okBk bk) : ∀ p ∈ shownP bk, okP p := fun p hp => by
  obtain ⟨l, hl, h⟩ := List.mem_flatMap.mp hp
  rw [sideP_eq] at h
  obtain ⟨s, hs, hf⟩ := List.mem_filterMap.mp h
  obtain ⟨_, rfl⟩ := sideF_some hf
  refine ⟨(ok.2.1 l hl).1, ?_⟩
  rcases List.mem_cons.mp hs with h | h
  · exact .inl h
  · exact .inr (List.mem_singleton.mp h)
theorem all_okP {bk : List Lf} (ok : okBk bk) : ∀ p ∈ allP bk, okP p := fun p hp => by
  obtain ⟨l, hl, h⟩ := List.mem_flatMap.mp hp
  rcases List.mem_cons.mp h with rfl | h
  · exact ⟨(ok.2.1 l hl).1, .inl rfl⟩
  · rw [List.mem_singleton.mp h]; exact ⟨(ok.2.1 l hl).1, .inr rfl⟩
theorem ltP_leP (p q : Pg) : PySem.W.dataLt (dP p) (dP q) = !leP q p := by
  unfold leP ltP
  rw [Bool.not_not]
/-- when all are ranges of the book, what is told needs no more asking -/
theorem told_all {bk : List Lf} {ps : List (Pg × Pg)} (h : ps.all (isR bk) = true) : toldP bk ps = (shownP bk).filter fun p => ps.any (inR p) := by
  unfold toldP
  rw [List.filter_eq_self.mpr (List.all_eq_true.mp h)]
theorem pn_Ps (ps : List Pg) : Pn 3 (dPs ps) := fun d hd => by
  obtain ⟨p, _, rfl⟩ := List.mem_map.mp hd
  exact pn_P p
/-- one of the leaves' data -/
theorem lv_get {H : Hp} {vs : List V} {bk : List Lf} {i : Nat} {v : V} (tp : TpAll H vs (bk.map dLf)) (hx : vs[i]? = some v) : ∃ lf, bk[i]? = some lf ∧ Tp H v (dLf lf) := by
  obtain ⟨d, ed, td⟩ := tp.get hx
  rw [List.getElem?_map] at ed
  cases e : bk[i]? with
  | none => rw [e] at ed; cases ed
  | some l => rw [e] at ed; cases ed; exact ⟨l, rfl, td⟩
theorem nodup_sub {α : Type} [DecidableEq α] : ∀ {l m : List α}, l.Nodup → (∀ x ∈ l, x ∈ m) → l.length ≤ m.length
  | [], _, _, _ => Nat.zero_le _
  | x :: l, m, n, s => by
    obtain ⟨hx, hl⟩ := List.nodup_cons.mp n
    have hm := s x (List.mem_cons_self ..)
    have h := nodup_sub (m := m.erase x) hl fun y hy => (List.mem_erase_of_ne (fun e : y = x => hx (by rw [← e]; exact hy))).mpr (s y (List.mem_cons_of_mem _ hy))
    rw [List.length_erase_of_mem hm] at h
    have := List.length_pos_of_mem hm
    show l.length + 1 ≤ m.length
    omega
def freeK (Ls : List (List Int)) (n : Nat) : List Nat := (List.range n).filter fun i => decide ([(99 : Int) - (i : Int)] ∉ Ls)
theorem freeK_succ (Ls : List (List Int)) (n : Nat) : freeK Ls (n + 1) = freeK Ls n ++ (if decide ([(99 : Int) - (n : Int)] ∉ Ls) = true then [n] else []) := by
  unfold freeK
  rw [List.range_succ, List.filter_append, List.filter_cons, List.filter_nil]
theorem freeK_ne {Ls : List (List Int)} (h : Ls.length ≤ 60) : freeK Ls 99 ≠ [] := fun e => by
  have hall : ∀ x ∈ (List.range 99).map (fun (i : Nat) => [(99 : Int) - (i : Int)]), x ∈ Ls := fun x hx => by
    obtain ⟨i, hi, rfl⟩ := List.mem_map.mp hx
    have := List.filter_eq_nil_iff.mp e i hi
    simpa using this
  have nd : ((List.range 99).map (fun (i : Nat) => [(99 : Int) - (i : Int)])).Nodup := List.Pairwise.map _ (fun x y h e => h (by injection e with e; omega)) List.nodup_range
  have := nodup_sub nd hall
  rw [List.length_map, List.length_range] at this
  omega
theorem freeK_mem {Ls : List (List Int)} {n i : Nat} (h : i ∈ freeK Ls n) : i < n := List.mem_range.mp (List.mem_filter.mp h).1
theorem tpAll_snoc_inv {H : Hp} : ∀ {ws : List V} {ds : List PyData} {d : PyData}, TpAll H ws (ds ++ [d]) → ∃ W v, ws = W ++ [v] ∧ TpAll H W ds ∧ Tp H v d
  | _, [], d, h => by
    cases h with
    | cons h t => cases t; exact ⟨[], _, rfl, .nil, h⟩
  | _, e :: ds, d, h => by
    cases h with
    | cons h t =>
      obtain ⟨W, v, rfl, h1, h2⟩ := tpAll_snoc_inv t
      exact ⟨_ :: W, v, rfl, .cons h h1, h2⟩
theorem pg_inv {H : Hp} {v : V} {p : Pg} (h : Tp H v (dP p)) : ∃ a l, v = .ref a ∧ H a = some (.tup [.ref l, .int p.2]) ∧ H l = some (.tup (p.1.map V.int)) := by
  cases h with
  | tup h r =>
    cases r with
    | cons h1 r =>
      cases r with
      | cons h2 r =>
        cases r
        cases h2
        obtain ⟨l, rfl, hl⟩ := tpL_inv h1
        exact ⟨_, l, rfl, h, hl⟩
theorem first_at {p : Pg} : ∀ {ps : List Pg}, p ∈ ps → ∃ j, j < ps.length ∧ ps[j]? = some p ∧ ∀ m p', m < j → ps[m]? = some p' → p' ≠ p
  | q :: ps, h => by
    by_cases e : q = p
    · exact ⟨0, Nat.succ_pos _, by rw [e]; rfl, fun m _ h => absurd h (Nat.not_lt_zero _)⟩
    · have h2 : p ∈ ps := by
        rcases List.mem_cons.mp h with h | h
        · exact absurd h.symm e
        · exact h
      obtain ⟨j, h1, h3, h4⟩ := first_at h2
      refine ⟨j + 1, Nat.succ_lt_succ h1, h3, fun m p' hm hp => ?_⟩
      cases m with
      | zero => cases hp; exact e
      | succ m => exact h4 m p' (Nat.lt_of_succ_lt_succ hm) hp
theorem first_d {ps : List Pg} {p : Pg} {j : Nat} (e : ps[j]? = some p) : (ps.map dP)[j]? = some (dP p) := by rw [List.getElem?_map, e]; rfl
theorem first_no {ps : List Pg} {p : Pg} {j : Nat} (h : ∀ m p', m < j → ps[m]? = some p' → p' ≠ p) : ∀ (m : Nat) (z : PyData), m < j → (ps.map dP)[m]? = some z → PyData.eqv z (dP p) = false := fun m z hm hz => by
  rw [List.getElem?_map] at hz
  cases e : ps[m]? with
  | none => rw [e] at hz; cases hz
  | some p' =>
    rw [e] at hz
    cases hz
    rw [eqv_dP]
    exact decide_eq_false (h m p' hm e)
theorem eqv_Pself (p : Pg) : PyData.eqv (dP p) (dP p) = true := by rw [eqv_dP]; exact decide_eq_true rfl
theorem TpAll.rev {H : Hp} : ∀ {vs : List V} {ds : List PyData}, TpAll H vs ds → TpAll H vs.reverse ds.reverse
  | _, _, .nil => .nil
  | _, _, .cons h t => by
    rw [List.reverse_cons, List.reverse_cons]
    exact (TpAll.rev t).snoc h
/-- a list of one or two pairs, laid apart from the source -/
def Good (a : Addr) (H H' : Hp) (G : Addr) : Prop := Src H' a ∧ But a H H' ∧ G ≠ a ∧ ∃ (gs : List V) (ns : List (Pg × Pg)), H' G = some (.lst gs) ∧ TpAll H' gs (ns.map dR) ∧ (∀ r ∈ ns, okR r) ∧ ns.length ≤ 2
theorem srcS {Ha Hb : Hp} {a : Addr} (s : Same Ha Hb) (h : Src Ha a) : Src Hb a := by
  obtain ⟨g, x, c, e⟩ := h
  exact ⟨g, x, c, s _ _ e⟩
theorem good1 {a : Addr} {H Hn : Hp} {x y : V} {p p' : Pg} (sn : Src Hn a) (bn : But a H Hn) (hx : Tp Hn x (dP p)) (hy : Tp Hn y (dP p')) (o : okP p) (o' : okP p') {t : Addr} (nt : Hn t = none) {g : Addr} (ng : upd Hn t (.tup [x, y]) g = none) : Good a H (upd (upd Hn t (.tup [x, y])) g (.lst [.ref t])) g := by
  have s1 := same_upd (o := .tup [x, y]) nt
  have s2 := same_upd (o := .lst [.ref t]) ng
  have s := s1.trans s2
  have sg := srcS s1 sn
  refine ⟨srcS s sn, bn.trans (But.of s), (sg.ne ng).symm, _, [(p, p')], upd_same, .cons (.tup (s2 _ _ upd_same) (.cons (hx.nl (NL.of s)) (.cons (hy.nl (NL.of s)) .nil))) .nil, fun r hr => ?_, (by show 1 ≤ 2; decide)⟩
  rw [List.mem_singleton.mp hr]
  exact ⟨o, o'⟩
theorem good0 {a : Addr} {H Hn : Hp} {v : V} {r : Pg × Pg} (sn : Src Hn a) (bn : But a H Hn) (hv : Tp Hn v (dR r)) (o : okR r) {g : Addr} (ng : Hn g = none) : Good a H (upd Hn g (.lst [v])) g := by
  have s := same_upd (o := .lst [v]) ng
  refine ⟨srcS s sn, bn.trans (But.of s), (sn.ne ng).symm, _, [r], upd_same, .cons (hv.nl (NL.of s)) .nil, fun q hq => ?_, (by show 1 ≤ 2; decide)⟩
  rw [List.mem_singleton.mp hq]
  exact o
theorem page_at {H : Hp} {ks : List V} {bk : List Lf} (ok : okBk bk) (tk : TpAll H ks ((allP bk).map dP)) {c : Int} (h0 : 0 ≤ c) (h1 : c < ks.length) : ∃ x p, atI ks c = some x ∧ Tp H x (dP p) ∧ okP p := by
  obtain ⟨x, ex⟩ : ∃ x, ks[c.toNat]? = some x := ⟨_, List.getElem?_eq_getElem (by omega)⟩
  obtain ⟨d, ed, tx⟩ := tk.get ex
  rw [List.getElem?_map] at ed
  cases e : (allP bk)[c.toNat]? with
  | none => rw [e] at ed; cases ed
  | some p =>
    rw [e] at ed
    cases ed
    exact ⟨x, p, at_of' (Int.toNat_of_nonneg h0).symm ex, tx, all_okP ok p (List.mem_of_getElem? e)⟩
theorem good2 {a : Addr} {H Hn : Hp} {v1 v2 : V} {r1 r2 : Pg × Pg} (sn : Src Hn a) (bn : But a H Hn) (h1 : Tp Hn v1 (dR r1)) (h2 : Tp Hn v2 (dR r2)) (o1 : okR r1) (o2 : okR r2) {g : Addr} (ng : Hn g = none) : Good a H (upd Hn g (.lst [v1, v2])) g := by
  have s := same_upd (o := .lst [v1, v2]) ng
  refine ⟨srcS s sn, bn.trans (But.of s), (sn.ne ng).symm, _, [r1, r2], upd_same, .cons (h1.nl (NL.of s)) (.cons (h2.nl (NL.of s)) .nil), fun q hq => ?_, (by show 2 ≤ 2; decide)⟩
  rcases List.mem_cons.mp hq with h | h
  · rw [h]; exact o1
  · rw [List.mem_singleton.mp h]; exact o2
/-! ### dicts whose keys are data of tuples, of any depth up to 8 -/
mutual
def nkD : PyData → PySem.NestedKey
  | .int i => .num i
  | .str x => .text x
  | .bool b => .num (if b = true then 1 else 0)
  | .tuple ds => .tup (nkDs ds)
  | _ => .none
def nkDs : List PyData → List PySem.NestedKey
  | [] => []
  | d :: r => nkD d :: nkDs r
end
mutual
theorem nested_tp {P : Program} {w : World} {H : Hp} {h : Heap} (ok : HOk P w H h) : ∀ {v : V} {d : PyData} {u : Value}, Tp H v d → RelV v u → PySem.NestedIs h (nkD d) u
  | _, _, _, .non, r => by
    cases (show _ = Value.none from r)
    exact .none
  | _, _, _, .bl b, r => by
    cases (show _ = Value.bool b from r)
    exact .bool rfl
  | _, _, _, .int i, r => by
    obtain ⟨t, rfl⟩ := (show ∃ t, _ = Value.int i t from r)
    exact .int i t
  | _, _, _, .str z, r => by
    obtain ⟨t, rfl⟩ := (show ∃ t, _ = Value.str z t from r)
    exact .text z t
  | _, _, _, .tup (a := a) (vs := vs) e t, r => by
    cases (show _ = Value.ref a from r)
    obtain ⟨_, its, rv, o, h1, h2, n, h3⟩ := (show ObjOk P w H h a (.tup vs) from ok a _ e)
    exact .tup h1 h2 h3 (by simpa using nestedAll_tp ok t rv)
theorem nestedAll_tp {P : Program} {w : World} {H : Hp} {h : Heap} (ok : HOk P w H h) : ∀ {vs : List V} {ds : List PyData} {us : List Value}, TpAll H vs ds → Vals vs us → PySem.NestedAll h (nkDs ds) us
  | _, _, _, .nil, r => by
    cases r
    exact .nil
  | _, _, _, .cons a t, r => by
    cases r with
    | cons r1 r2 => exact .cons (nested_tp ok a r1) (nestedAll_tp ok t r2)
end
mutual
def noL : PyData → Bool
  | .list _ => false
  | .dict _ => false
  | .tuple ds => noLs ds
  | _ => true
def noLs : List PyData → Bool
  | [] => true
  | d :: r => noL d && noLs r
end
mutual
theorem nested_dp {X : Cx} {pins : List (Addr × Obj)} {σ : L2.St} {H : Hp} {s : Shared} (I : Inv X pins σ H s) : ∀ {v : V} {d : PyData} {u : Value}, Dp X.K H v d → noL d = true → RelV v u → PySem.NestedIs s.heap (nkD d) u
  | _, _, _, .non, _, r => by
    cases (show _ = Value.none from r)
    exact .none
  | _, _, _, .bl b, _, r => by
    cases (show _ = Value.bool b from r)
    exact .bool rfl
  | _, _, _, .int i, _, r => by
    obtain ⟨t, rfl⟩ := (show ∃ t, _ = Value.int i t from r)
    exact .int i t
  | _, _, _, .str z, _, r => by
    obtain ⟨t, rfl⟩ := (show ∃ t, _ = Value.str z t from r)
    exact .text z t
  | _, _, _, .lst _ _, n, _ => nomatch n
  | _, _, _, .tup e t, n, r => by
    rename_i a vs ds
    cases (show _ = Value.ref a from r)
    obtain ⟨its, rv, ⟨o, h1, h2, k, h3⟩, _⟩ := I.tuple e
    exact .tup h1 h2 h3 (by simpa using nestedAll_dp I t n rv)
theorem nestedAll_dp {X : Cx} {pins : List (Addr × Obj)} {σ : L2.St} {H : Hp} {s : Shared} (I : Inv X pins σ H s) : ∀ {vs : List V} {ds : List PyData} {us : List Value}, DpAll X.K H vs ds → noLs ds = true → Vals vs us → PySem.NestedAll s.heap (nkDs ds) us
  | _, _, _, .nil, _, r => by
    cases r
    exact .nil
  | _, _, _, .cons a t, n, r => by
    have n2 : (noL _ && noLs _) = true := n
    rw [Bool.and_eq_true] at n2
    cases r with
    | cons r1 r2 => exact .cons (nested_dp I a n2.1 r1) (nestedAll_dp I t n2.2 r2)
end
/-- at b lies the key k -/
def NKey (H : Hp) (b : Addr) (k : PySem.NestedKey) : Prop := ∃ d, Tp H (.ref b) d ∧ nkD d = k ∧ k.depth ≤ 8
theorem NKey.nl {H H' : Hp} {b : Addr} {k : PySem.NestedKey} (m : NL H H') (h : NKey H b k) : NKey H' b k := by
  obtain ⟨d, h1, h2⟩ := h
  exact ⟨d, h1.nl m, h2⟩
theorem nkey_is {P : Program} {w : World} {H : Hp} {h : Heap} {b : Addr} {k : PySem.NestedKey} (ok : HOk P w H h) (q : NKey H b k) : (PySem.nestedKind P w).is h k b := by
  obtain ⟨d, h1, rfl, h3⟩ := q
  exact ⟨nested_tp ok h1 rfl, h3⟩
abbrev NE := PySem.NestedKey × Addr × V
abbrev NU := PySem.NestedKey × Addr × Value
def entN (w : World) (x : NU) : DictEntry := ⟨x.1.hash w, .ref x.2.1, x.2.2⟩
def RelN (p : NE) (q : NU) : Prop := p.1 = q.1 ∧ p.2.1 = q.2.1 ∧ RelV p.2.2 q.2.2
def rawN (w : World) (a : Addr) (kvs : List NE) : HO := .ext fun h => kvs.length ≤ sizeLine ∧ (a == sysModules) = false ∧ ∃ xs : List NU, Paired RelN kvs xs ∧
  ∃ o es ep, h.get? a = some o ∧ o.ExactDict ∧ o.data = .dict es ep ∧ es.toList = xs.map (entN w) ∧ (xs.map (·.1)).Nodup
theorem rawN_st {w : World} {a : Addr} {kvs : List NE} : ∀ h1 h2 : Heap, (kvs.length ≤ sizeLine ∧ (a == sysModules) = false ∧ ∃ xs : List NU, Paired RelN kvs xs ∧ ∃ o es ep, h1.get? a = some o ∧ o.ExactDict ∧ o.data = .dict es ep ∧ es.toList = xs.map (entN w) ∧ (xs.map (·.1)).Nodup) →
    (∀ o, h1.get? a = some o → h2.get? a = some o) → kvs.length ≤ sizeLine ∧ (a == sysModules) = false ∧ ∃ xs : List NU, Paired RelN kvs xs ∧ ∃ o es ep, h2.get? a = some o ∧ o.ExactDict ∧ o.data = .dict es ep ∧ es.toList = xs.map (entN w) ∧ (xs.map (·.1)).Nodup := by
  rintro h1 h2 ⟨z, y, xs, r, o, es, ep, e, c⟩ k
  exact ⟨z, y, xs, r, o, es, ep, k _ e, c⟩
/-- a dict of such keys -/
def DN (w : World) (H : Hp) (a : Addr) (kvs : List NE) : Prop := H a = some (rawN w a kvs) ∧ ∀ p ∈ kvs, NKey H p.2.1 p.1
theorem rawN_ne {w : World} {a : Addr} {kvs : List NE} {xs : List V} : rawN w a kvs ≠ .lst xs := fun z => by
  have z' : HO.ext _ = HO.lst xs := z
  cases z'
theorem rawN_net {w : World} {a : Addr} {kvs : List NE} {xs : List V} : rawN w a kvs ≠ .tup xs := fun z => by
  have z' : HO.ext _ = HO.tup xs := z
  cases z'
theorem DN.nl {w : World} {H H' : Hp} {a : Addr} {kvs : List NE} (m : NL H H') (h : DN w H a kvs) : DN w H' a kvs := ⟨m _ _ h.1 fun _ => rawN_ne, fun p hp => (h.2 p hp).nl m⟩
def atN (kvs : List NE) (k : PySem.NestedKey) : Option V := (kvs.find? fun p => decide (p.1 = k)).map (·.2.2)
def putN (kvs : List NE) (k : PySem.NestedKey) (b : Addr) (v : V) : List NE := if (atN kvs k).isSome = true then kvs.map (fun p => if p.1 = k then (p.1, p.2.1, v) else p) else kvs ++ [(k, b, v)]
theorem putN_len (kvs : List NE) (k : PySem.NestedKey) (b : Addr) (v : V) : (putN kvs k b v).length ≤ kvs.length + 1 := by
  unfold putN
  split
  · rw [List.length_map]; exact Nat.le_succ _
  · rw [List.length_append]; exact Nat.le_refl _
theorem atN_put (kvs : List NE) (k q : PySem.NestedKey) (b : Addr) (v : V) : atN (putN kvs k b v) q = if q = k then some v else atN kvs q := by
  have up : ∀ l : List NE, ((l.map fun p => if p.1 = k then (p.1, p.2.1, v) else p).find? fun p => decide (p.1 = q)).map (·.2.2) = if q = k then (if (atN l k).isSome = true then some v else none) else atN l q := by
    intro l
    induction l with
    | nil => unfold atN; split <;> rfl
    | cons p r ih =>
      unfold atN at ih ⊢
      rw [List.map_cons, List.find?_cons, List.find?_cons, List.find?_cons]
      by_cases c1 : p.1 = k
      · rw [if_pos c1]
        by_cases c2 : q = k
        · rw [decide_eq_true (show p.1 = q from c1.trans c2.symm), decide_eq_true c1, if_pos c2]
          rfl
        · rw [decide_eq_false (fun z : p.1 = q => c2 (z.symm.trans c1)), if_neg c2]
          rw [if_neg c2] at ih
          exact ih
      · rw [if_neg c1, decide_eq_false c1]
        by_cases c2 : p.1 = q
        · rw [decide_eq_true c2, if_neg (fun z => c1 (c2.trans z))]
        · rw [decide_eq_false c2]
          exact ih
  unfold putN
  by_cases e : (atN kvs k).isSome = true
  · rw [if_pos e]
    have := up kvs
    rw [if_pos e] at this
    exact this
  · rw [if_neg e]
    unfold atN at e ⊢
    rw [List.find?_append]
    by_cases c : q = k
    · subst c
      rw [if_pos rfl]
      cases h : kvs.find? fun p => decide (p.1 = q) with
      | none => rw [Option.none_or, List.find?_cons, decide_eq_true rfl]; rfl
      | some p => rw [h] at e; exact absurd rfl e
    · rw [if_neg c]
      cases h : kvs.find? fun p => decide (p.1 = q) with
      | none => rw [Option.none_or, List.find?_cons, decide_eq_false (fun z : k = q => c z.symm)]; rfl
      | some p => rfl
theorem relN_at {kvs : List NE} {xs : List NU} (r : Paired RelN kvs xs) (k : PySem.NestedKey) : RelO (atN kvs k) ((atKey xs k).map (·.2)) := by
  induction r with
  | nil => exact True.intro
  | @cons p q ps qs h t ih =>
    obtain ⟨h1, _, h3⟩ := h
    unfold atN atKey at ih ⊢
    rw [List.find?_cons, List.find?_cons, h1]
    by_cases e : q.1 = k
    · rw [decide_eq_true e]; exact h3
    · rw [decide_eq_false e]; exact ih
theorem relN_map {kvs : List NE} {xs : List NU} (r : Paired RelN kvs xs) (k : PySem.NestedKey) {v : V} {u : Value} (rv : RelV v u) : Paired RelN (kvs.map fun p => if p.1 = k then (p.1, p.2.1, v) else p) (xs.map (putAt k u)) := by
  induction r with
  | nil => exact .nil
  | @cons p q ps qs h t ih =>
    rw [List.map_cons, List.map_cons]
    refine .cons ?_ ih
    obtain ⟨h1, h2, h3⟩ := h
    unfold putAt
    by_cases e : p.1 = k
    · rw [if_pos e, if_pos (h1.symm.trans e)]; exact ⟨h1, h2, rv⟩
    · rw [if_neg e, if_neg (fun z => e (h1.trans z))]; exact ⟨h1, h2, h3⟩
theorem relN_put {kvs : List NE} {xs : List NU} (r : Paired RelN kvs xs) (k : PySem.NestedKey) (b : Addr) {v : V} {u : Value} (rv : RelV v u) : Paired RelN (putN kvs k b v) (storedH xs k b u) := by
  have e : (atN kvs k).isSome = (atKey xs k).isSome := by
    rw [(relN_at r k).isSome_eq, Option.isSome_map]
  unfold putN storedH
  rw [e]
  by_cases q : (atKey xs k).isSome = true
  · rw [if_pos q, if_pos q]; exact relN_map r k rv
  · rw [if_neg q, if_neg q]; exact Paired.snoc r ⟨rfl, rfl, rv⟩
theorem putN_keys {H : Hp} {kvs : List NE} {k : PySem.NestedKey} {b : Addr} {v : V} (h : ∀ p ∈ kvs, NKey H p.2.1 p.1) (hb : NKey H b k) : ∀ p ∈ putN kvs k b v, NKey H p.2.1 p.1 := fun p hp => by
  unfold putN at hp
  split at hp
  · obtain ⟨q, hq, rfl⟩ := List.mem_map.mp hp
    split
    · exact h q hq
    · exact h q hq
  · rcases List.mem_append.mp hp with e | e
    · exact h p e
    · rw [List.mem_singleton.mp e]; exact hb
theorem dn_rd {P : Program} {w : World} {H : Hp} {h : Heap} {a : Addr} {kvs : List NE} (ok : HOk P w H h) (e : DN w H a kvs) : kvs.length ≤ sizeLine ∧ (a == sysModules) = false ∧ ∃ xs, Paired RelN kvs xs ∧ h.DictOfH (PySem.nestedKind P w) a xs := by
  obtain ⟨⟨z, y, xs, r, o, es, ep, h1, h2, h3, h4, h5⟩, _⟩ := (show ObjOk P w H h a (rawN w a kvs) from ok a _ e.1)
  refine ⟨z, y, xs, r, o, es, ep, h1, h2, h3, h4, fun x hx => ?_, h5⟩
  have all : ∀ {l : List NE} {m : List NU}, Paired RelN l m → (∀ p ∈ l, NKey H p.2.1 p.1) → ∀ x ∈ m, (PySem.nestedKind P w).is h x.1 x.2.1 := by
    intro l m q
    induction q with
    | nil => intro _ x hx; exact nomatch hx
    | @cons p q ps qs hq t ih =>
      intro hk x hx
      rcases List.mem_cons.mp hx with e | hx
      · subst e
        have := nkey_is (P := P) (w := w) ok (hk p (List.mem_cons_self ..))
        rw [hq.1, hq.2.1] at this
        exact this
      · exact ih (fun p hp => hk p (List.mem_cons_of_mem _ hp)) x hx
  exact all r e.2 x hx
theorem dn_empty {P : Program} {w : World} {H : Hp} (h : Heap) (hb : sysModules < h.objs.size) : ObjOk P w H (h.push { cls := .type "dict", data := .dict #[] }) h.objs.size (rawN w h.objs.size []) :=
  ⟨⟨Nat.zero_le _, beq_eq_false_iff_ne.mpr (Ne.symm (Nat.ne_of_lt hb)), [], .nil, _, #[], 0, Heap.get?_push_size _ rfl, ⟨rfl, rfl, rfl⟩, rfl, rfl, List.nodup_nil⟩, ⟨_, Heap.get?_push_size _ rfl⟩, rawN_st⟩
section
variable {X : Cx} {pins : List (Addr × Obj)} {σ : L2.St} {H : Hp} {s : Shared} {a b : Addr} {k : PySem.NestedKey} {kvs : List NE} {A : Around} {E : Value → Shared → Prop}
theorem dn_get {v : V} {Q : Value → Shared → Prop} (hu : A.units + 64 < cLine) (I : Inv X pins σ H s) (e : DN X.w H a kvs) (hb : (PySem.nestedKind X.prog X.w).is s.heap k b) (l : atN kvs k = some v) (h : ∀ w' s', Inv X pins σ H s' → RelV v w' → Q w' s') :
    wpAny (model X.prog X.w) A (getItem (.ref a) (.ref b)) Q E s := by
  obtain ⟨z, hd, xs, rel, dd⟩ := dn_rd I.hok e
  obtain ⟨w', hw, rw'⟩ := RelO.some_of (v := v) (o := (atKey xs k).map (·.2)) (by rw [← l]; exact relN_at rel k)
  obtain ⟨p, hp, hp2⟩ := Option.map_eq_some_iff.mp hw
  refine wpAny_getItem_heap (knd := PySem.nestedKind X.prog X.w) (show A.units + 1 + 8 < cLine by omega) hb dd hp ?_
  rw [hp2]
  exact h w' _ (I.tok _) rw'
theorem dn_new {P : Program} {w : World} {H' : Hp} {h' : Heap} {a : Addr} {kvs : List NE} {xs : List NU} (z : kvs.length ≤ sizeLine) (hd : (a == sysModules) = false) (rel : Paired RelN kvs xs) (dd : h'.DictOfH (PySem.nestedKind P w) a xs) : ObjOk P w H' h' a (rawN w a kvs) := by
  obtain ⟨o, es, ep, h1, h2, h3, h4, _, h5⟩ := dd
  exact ⟨⟨z, hd, xs, rel, o, es, ep, h1, h2, h3, h4, h5⟩, ⟨o, h1⟩, rawN_st⟩
theorem DN.put {w : World} {H : Hp} {a b : Addr} {kvs : List NE} {k : PySem.NestedKey} {v : V} (e : DN w H a kvs) (hb : NKey H b k) : DN w (upd H a (rawN w a (putN kvs k b v))) a (putN kvs k b v) := by
  have tp : ∀ {c : Addr} {q : PySem.NestedKey}, NKey H c q → NKey (upd H a (rawN w a (putN kvs k b v))) c q := fun {c q} ⟨d, h1, h2⟩ => by
    refine ⟨d, ?_, h2⟩
    have go : ∀ {H' : Hp}, (∀ c ys, H c = some (.tup ys) → H' c = some (.tup ys)) → ∀ {u : V} {d : PyData}, Tp H u d → Tp H' u d := fun {H'} m => @Tp.rec H (fun u d _ => Tp H' u d) (fun us ds _ => TpAll H' us ds) .non .bl .int .str (fun h _ r => .tup (m _ _ h) r) .nil (fun _ _ a b => .cons a b)
    exact go (fun c ys ec => by rw [upd_ne (fun z => by rw [z, e.1] at ec; exact rawN_net (Option.some.inj ec))]; exact ec) h1
  exact ⟨upd_same, fun p hp => putN_keys (fun p hp => tp (e.2 p hp)) (tp hb) p hp⟩
theorem dn_set {v : V} {r : Value} {QQ : Unit → Shared → Prop} (hu : X.A.units + 64 < cLine) (I : Inv X pins σ H s) (e : DN X.w H a kvs) (hb : NKey H b k) (small : kvs.length < sizeLine) (rv : RelV v r)
    (go : ∀ s', Inv X pins σ (upd H a (rawN X.w a (putN kvs k b v))) s' → QQ () s') : wpAny (model X.prog X.w) X.A (dictSet a (.ref b) r) QQ E s := by
  obtain ⟨le, nsys, xs, rel, dd⟩ := dn_rd I.hok e
  have le2 : (putN kvs k b v).length ≤ sizeLine := Nat.le_trans (putN_len kvs k b v) small
  refine wpAny_dictSet_heap (knd := PySem.nestedKind X.prog X.w) (hsz := by rw [← Paired.length rel]; exact le) (show X.A.units + 8 < cLine by omega) (nkey_is I.hok hb) dd fun h' new only => go _ ?_
  obtain ⟨o, es, ep, at_, _⟩ := id new
  exact d_write I (by rw [e.1]; exact True.intro) only ⟨o, at_⟩ (dn_new le2 nsys (relN_put rel k b rv) new)
variable {o i : Expr} {pos : Pos} {td ty : TE}
/-- d[y], y data without lists -/
def tNGet (K : PySem.W.Frag) (w : World) (td ty : TE) : TE := fun σ H Q => td σ H fun x H1 => ty σ H1 fun y H2 => ∃ a kvs b d v, x = .ref a ∧ DN w H2 a kvs ∧ y = .ref b ∧ Dp K H2 (.ref b) d ∧ noL d = true ∧ (nkD d).depth ≤ 8 ∧ atN kvs (nkD d) = some v ∧ Q v H2
theorem pe_nget (hu : X.A.units + 64 < cLine) (ho : PE X o td) (hi : PE X i ty) (hs : NoSl i) : PE X (.Subscript o i pos) (tNGet X.K X.w td ty) := by
  constructor
  intro pins s σ H Q I h
  refine subD_of PySem.F.slot_dict_getitem.lookup hs (thn (ho.run pins s σ H _ I h) ?_)
  rintro u s1 ⟨x, H1, I1, rx, q1⟩
  refine thn (hi.run pins s1 σ H1 _ I1 q1) ?_
  rintro iv s2 ⟨y, H2, I2, ry, a, kvs, b, d, v, rfl, e, rfl, hd, hn, h8, l, q2⟩
  cases rx
  cases ry
  obtain ⟨_, _, xs, _, dd⟩ := dn_rd I2.hok e
  exact ⟨dd.typeIs, dn_get hu I2 e ⟨nested_dp I2 hd hn rfl, h8⟩ l fun w' s3 I3 rw' => ⟨v, H2, I3, rw', q2⟩⟩
end
section
variable {X : Cx}
/-- {k: v for target in iter}: D the new dict -/
def tDcN (w : World) (wi : TI) (g : TG) (tk tv : TE) (vs : List Nat) : TE := fun σ H Q => wi σ H fun J H1 => ∀ D, H1 D = Option.none → ∃ W : Nat → Nat → Hp → Prop, (∃ m, W 0 m (upd H1 D (rawN w D []))) ∧ ∀ i m H, W i m H →
  (J.stop i H ∧ Q (.ref D) H) ∨ (J.go i H ∧ ∃ Nx : Hp → Prop, (∀ H', Nx H' → ∃ m', m' < m ∧ W (i + 1) m' H') ∧ ∀ x H', J.yld i H x H' → g x (wipe σ vs) H' fun σ2 H2 => wipe σ2 vs = wipe σ vs ∧
    tk σ2 H2 fun y H4 => tv σ2 H4 fun z H5 => ∃ b kvs k, y = .ref b ∧ DN w H5 D kvs ∧ NKey H5 b k ∧ kvs.length < sizeLine ∧ Nx (upd H5 D (rawN w D (putN kvs k b z))))
theorem dcN_core {pins : List (Addr × Obj)} {s : Shared} {σ : L2.St} {H : Hp} {Q : VK} {use : Option (Value → Sem Unit)} {Qf : Value → Shared → Prop} {kx vx tg iter : Expr} {scope : Scope} {own : List (Str × Nat)} {pos : Pos} {wi : TI} {g : TG} {tk tv : TE} (hu : X.A.units + 64 < cLine) (hc : X.calm = true) (hN : X.N.Nodup) (hi : PI X tg iter wi) (ok : BlkOk X.N X.env.scope scope own)
    (hg : ∀ (s : Shared) (H : Hp) (C : Addr) (cl : List (Str × Addr)) (fp : List Addr), PG (X.blk s H scope (compEnvC scope cl C X.env) fp) tg g)
    (hk : ∀ (s : Shared) (H : Hp) (C : Addr) (cl : List (Str × Addr)) (fp : List Addr), PE (X.blk s H scope (compEnvC scope cl C X.env) fp) kx tk)
    (hv : ∀ (s : Shared) (H : Hp) (C : Addr) (cl : List (Str × Addr)) (fp : List Addr), PE (X.blk s H scope (compEnvC scope cl C X.env) fp) vx tv) (hs : ∀ x, foldedSetIterable iter X.env x = pure x) (I : Inv X pins σ H s) (h : tDcN X.w wi g tk tv (own.map (·.2)) σ H Q)
    (hRR : ∀ (D : Addr) (ce : Env) (s' : Shared) (m : Str → Option Value) (H' : Hp), Inv X pins σ H' s' → Q (.ref D) H' → s'.heap.Ns ce.locals m → FpOk X pins H' ce.locals → compEnds (model X.prog X.w) X.A X.xe use Qf (.ref D) ce (.ok .next) s') :
    wpAny (model X.prog X.w) X.A (comprehension (.DictComp kx vx [⟨tg, iter, [], 0⟩] scope pos) scope X.env (firstIterPos [⟨tg, iter, [], 0⟩] pos) newDict false (eval iter X.env) use) Qf X.xe s := by
  have hfree : ∀ y ∈ scope.names, y.2 = .free → ∃ c, X.env.cells.lookup y.1 = some c := fun y hy e => (ok.free y hy e).elim (fun k => I.ok.has _ (.inl k)) (fun k => I.ok.has _ (.inr k))
  refine comprehension_at (use := use) rfl hs (closure_ok hfree) ok.kind (fun y hy e => by rw [ok.uniq y hy, e]) (thn (hi.run pins s σ H _ I h) fun xv s1 hx => thn hx fun itv s2 h2 => ?_)
  obtain ⟨it, fp, tn, J, H2, rfl, I2, T, st2, f2, q⟩ := h2
  refine wpAny_newObj_type (newEnv_comp ?_)
  obtain ⟨D, hD⟩ : ∃ D, s2.heap.objs.size = D := ⟨_, rfl⟩
  obtain ⟨W, ⟨m0, w0⟩, turn⟩ := q D (I2.hok.fresh (Nat.le_of_eq hD))
  rw [hD]
  obtain ⟨s3, hs3⟩ : ∃ s3 : Shared, s3 = { s2 with heap := s2.heap.push { cls := .type "dict", data := .dict #[] } } := ⟨_, rfl⟩
  have h3 : s3.heap = s2.heap.push { cls := .type "dict", data := .dict #[] } := by rw [hs3]
  have I3 : Inv X pins σ (upd H2 D (rawN X.w D [])) s3 := by
    rw [hs3]
    refine I2.laid (t' := s2.toks) (fun b o e => Heap.get?_push_of_some _ e) (Nat.le_of_eq hD) ?_
    rw [← hD]
    exact dn_empty s2.heap I2.big
  have f3 : ∀ b ∈ fp, FpOk X pins (upd H2 D (rawN X.w D [])) b ∧ b < s3.heap.objs.size := fun b hb => by
    obtain ⟨o, e, _⟩ := T.obj _ _ st2 b hb
    have hlt := Heap.lt_size e
    refine ⟨⟨?_, (f2 b hb).2⟩, by rw [h3, Heap.size_push]; exact Nat.lt_succ_of_lt hlt⟩
    rw [upd_ne (by rw [← hD]; exact Nat.ne_of_lt hlt)]
    exact (f2 b hb).1
  have hch : ∀ b ∈ fp, (b ∈ X.ex ∨ X.s_0.heap.objs.size ≤ b) ∧ b ≠ X.env.locals ∧ (∀ x c, X.env.cells.lookup x = some c → c ≠ b) ∧ ∀ p ∈ X.pn ++ pins, p.1 ≠ b := fun b hb => ⟨(f3 b hb).1.2.2.2.1, (f3 b hb).1.2.1, (f3 b hb).1.2.2.2.2.1, (f3 b hb).1.2.2.2.2.2⟩
  have I4 := block_start I3 ok hN f3
  rw [← hs3]
  show codeAny _ _ (.compStart (.DictComp kx vx [⟨tg, iter, [], 0⟩] scope pos) 0 (.ref it) (.ref D) (compEnvC scope (cellsFrom (s3.heap.objs.size + 1) scope.names (cloFrom X.env.cells scope.names [])) s3.heap.objs.size X.env)) (compEnds (model X.prog X.w) X.A X.xe use Qf (.ref D) (compEnvC scope (cellsFrom (s3.heap.objs.size + 1) scope.names (cloFrom X.env.cells scope.names [])) s3.heap.objs.size X.env)) { s3 with heap := pushCells (s3.heap.push { cls := .type "dict", data := .dict #[] }) scope.names }
  have pg := hg s3 (upd H2 D (rawN X.w D [])) s3.heap.objs.size (cellsFrom (s3.heap.objs.size + 1) scope.names (cloFrom X.env.cells scope.names [])) fp
  have pk := hk s3 (upd H2 D (rawN X.w D [])) s3.heap.objs.size (cellsFrom (s3.heap.objs.size + 1) scope.names (cloFrom X.env.cells scope.names [])) fp
  have pv := hv s3 (upd H2 D (rawN X.w D [])) s3.heap.objs.size (cellsFrom (s3.heap.objs.size + 1) scope.names (cloFrom X.env.cells scope.names [])) fp
  obtain ⟨ce, hce⟩ : ∃ ce, ce = compEnvC scope (cellsFrom (s3.heap.objs.size + 1) scope.names (cloFrom X.env.cells scope.names [])) s3.heap.objs.size X.env := ⟨_, rfl⟩
  have cL : ce.locals = s3.heap.objs.size := by rw [hce]; rfl
  rw [← hce] at I4 pg pk pv ⊢
  have nfp : ∀ b ∈ fp, (upd H2 D (rawN X.w D [])) b = Option.none := fun b hb => (f3 b hb).1.1
  have st4 : tn 0 (pushCells (s3.heap.push { cls := .type "dict", data := .dict #[] }) scope.names) := T.keep _ _ _ st2 fun b _ o e => pushCells_keeps _ _ _ _ (Heap.get?_push_of_some _ (by rw [h3]; exact Heap.get?_push_of_some _ e))
  generalize upd H2 D (rawN X.w D []) = H3 at I3 I4 pg pk pv w0 nfp f3
  have stat : ∀ {σ' : L2.St} {H' : Hp} {s' : Shared}, Inv (X.blk s3 H3 scope ce fp) [] σ' H' s' → (∀ b ∈ fp, H' b = Option.none) → ∀ b ∈ fp, FpOk (X.blk s3 H3 scope ce fp) [] H' b := fun {σ' H' s'} I' hn b hb =>
    ⟨hn b hb, (I'.ok.exf b hb).1, I'.ok.exfs b hb, .inl hb, fun x c e => (I'.ok.exf b hb).2 x c e, fun p hp => absurd (show p ∈ ([] : List (Addr × Obj)) ++ [] from hp) (by simp)⟩
  have loop : ∀ s4 : Shared, Inv (X.blk s3 H3 scope ce fp) [] (wipe σ (own.map (·.2))) H3 s4 → tn 0 s4.heap → codeAny (model X.prog X.w) X.A (.compLoop (.DictComp kx vx [⟨tg, iter, [], 0⟩] scope pos) 0 (.ref it) (.ref D) ce) (compEnds (model X.prog X.w) X.A X.xe use Qf (.ref D) ce) s4 := by
    intro s4 I4 st4
    refine compLoop_anyD (fun n s' => ∃ i H', Inv (X.blk s3 H3 scope ce fp) [] (wipe σ (own.map (·.2))) H' s' ∧ tn i s'.heap ∧ (∀ b ∈ fp, H' b = Option.none) ∧ W i n H') ?_ m0 ⟨0, H3, I4, st4, nfp, w0⟩
    rintro n s5 ⟨i, H5, I5, st5, n5, w5⟩
    rcases turn i n H5 w5 with ⟨stop, qq⟩ | ⟨go, Nx, hNx, step⟩
    · refine thnF (T.done (X.blk s3 H3 scope ce fp) rfl rfl rfl hc i [] s5 _ H5 (fun _ _ => False) I5 (stat I5 n5) st5 stop) fun r s6 ⟨hr, I6⟩ => ?_
      subst hr
      have I7 : Inv X pins σ H5 s6 := I3.call' (ch := fp) I6.os I6.base I6.hok I6.bare hch
      have nC : H5 ce.locals = Option.none := I6.free
      obtain ⟨m, hn, _⟩ := I6.loc
      have f : FpOk X pins H5 ce.locals := by rw [cL] at nC ⊢; exact I3.fpOk (Nat.le_refl _) nC
      exact hRR D ce s6 m H5 I7 qq hn f
    · refine thnF (T.item (X.blk s3 H3 scope ce fp) rfl rfl rfl hc i [] s5 _ H5 (fun _ _ => False) I5 (stat I5 n5) st5 go) fun r s6 ⟨u, hr, h6⟩ => ?_
      subst hr
      refine thnF h6 fun _ s7 ⟨x, H7, I7, r7, y7, st7, n7⟩ => ?_
      refine thnF (pg.run _ s7 _ H7 x u _ (I7.pinned (stat I7 n7) (T.obj _ _ st7)) r7 (step x H7 y7)) fun _ s8 ⟨σ8, H8, I8, hw8, q8⟩ => ?_
      refine wpAny_tests_nil ?_
      have fin : ∀ {s' : Shared} {H' : Hp}, Inv (X.blk s3 H3 scope ce fp) ([] ++ pinsAt fp s7.heap) σ8 H' s' → Nx H' → ∃ m, m < n ∧ ∃ i H', Inv (X.blk s3 H3 scope ce fp) [] (wipe σ (own.map (·.2))) H' s' ∧ tn i s'.heap ∧ (∀ b ∈ fp, H' b = Option.none) ∧ W i m H' := fun {s' H'} I' nx => by
        obtain ⟨m', hm, w'⟩ := hNx H' nx
        have pin' : ∀ b ∈ fp, ∀ o, s7.heap.get? b = some o → s'.heap.get? b = some o ∧ H' b = Option.none := fun b hb o e =>
          let z := I'.pin (b, o) (List.mem_append_right _ (List.mem_append_right _ (mem_pinsAt hb e)))
          ⟨z.1, z.2.1⟩
        refine ⟨m', hm, i + 1, H', (I'.unpinned (pins := [])).weak (by rw [← hw8, wipe_length]) (fun j v e => ?_), T.keep _ _ _ st7 fun b hb o e => (pin' b hb o e).1, fun b hb => ?_, w'⟩
        · rw [← hw8] at e
          exact (wipe_some e).1
        · obtain ⟨o, e, _⟩ := T.obj _ _ st7 b hb
          exact (pin' b hb o e).2
      rw [if_pos rfl]
      refine thnF (pk.run _ s8 σ8 H8 _ I8 q8) fun z s10 ⟨yk, H10, I10, r10, q10⟩ => ?_
      refine thnF (pv.run _ s10 σ8 H10 _ I10 q10) fun z2 s11 ⟨yv, H11, I11, r11, b, kvs, k, ek, hD11, hb11, hz11, nx⟩ => ?_
      subst ek
      cases r10
      exact dn_set (X := X.blk s3 H3 scope ce fp) hu I11 hD11 hb11 hz11 r11 fun s12 I12 => fin I12 nx
  exact codeAny_compStart_dict (loop _ I4 st4) (T.self X.A 0 _ _ _ st4 (loop _ I4 st4))
theorem pe_dcN {kx vx tg iter : Expr} {scope : Scope} {own : List (Str × Nat)} {pos : Pos} {wi : TI} {g : TG} {tk tv : TE} (hu : X.A.units + 64 < cLine) (hc : X.calm = true) (hN : X.N.Nodup) (hi : PI X tg iter wi) (ok : BlkOk X.N X.env.scope scope own)
    (hg : ∀ (s : Shared) (H : Hp) (C : Addr) (cl : List (Str × Addr)) (fp : List Addr), PG (X.blk s H scope (compEnvC scope cl C X.env) fp) tg g)
    (hk : ∀ (s : Shared) (H : Hp) (C : Addr) (cl : List (Str × Addr)) (fp : List Addr), PE (X.blk s H scope (compEnvC scope cl C X.env) fp) kx tk)
    (hv : ∀ (s : Shared) (H : Hp) (C : Addr) (cl : List (Str × Addr)) (fp : List Addr), PE (X.blk s H scope (compEnvC scope cl C X.env) fp) vx tv) (hs : ∀ x, foldedSetIterable iter X.env x = pure x := by intro _; rfl) :
    PE X (.DictComp kx vx [⟨tg, iter, [], 0⟩] scope pos) (tDcN X.w wi g tk tv (own.map (·.2))) := by
  constructor
  intro pins s σ H Q I h
  rw [arm_eval_DictComp]
  refine dcN_core (use := Option.none) hu hc hN hi ok hg hk hv hs I h fun D ce s' m H' I' q hn f => ⟨m, hn, fun h'' sb => ?_⟩
  obtain ⟨f0, f1, f2, f3, f4, f5⟩ := f
  exact ⟨.ref D, H', I'.turned (t' := s'.toks) (fun b o hb e => (sb.2 b hb).trans e) f0 f1 f3 f4 f5, rfl, q⟩
theorem ps_setDcN {i : Nat} {y : Str} {py spos : Pos} {kx vx tg iter : Expr} {scope : Scope} {own : List (Str × Nat)} {pos : Pos} {wi : TI} {g : TG} {tk tv : TE} (hu : X.A.units + 64 < cLine) (hc : X.calm = true) (hN : X.N.Nodup) (hi : PI X tg iter wi) (ok : BlkOk X.N X.env.scope scope own)
    (hg : ∀ (s : Shared) (H : Hp) (C : Addr) (cl : List (Str × Addr)) (fp : List Addr), PG (X.blk s H scope (compEnvC scope cl C X.env) fp) tg g)
    (hk : ∀ (s : Shared) (H : Hp) (C : Addr) (cl : List (Str × Addr)) (fp : List Addr), PE (X.blk s H scope (compEnvC scope cl C X.env) fp) kx tk)
    (hv : ∀ (s : Shared) (H : Hp) (C : Addr) (cl : List (Str × Addr)) (fp : List Addr), PE (X.blk s H scope (compEnvC scope cl C X.env) fp) vx tv) (hs : ∀ x, foldedSetIterable iter X.env x = pure x := by intro _; rfl) (hy : X.N[i]? = some y) (hyl : X.env.scope.names.lookup y = some .local) (hsw : swapsWith (.DictComp kx vx [⟨tg, iter, [], 0⟩] scope pos) (some (.Name y py)) spos.line X.env = pure true) :
    PS X (.Assign [.Name y py] (.DictComp kx vx [⟨tg, iter, [], 0⟩] scope pos) spos) (tAsg (tDcN X.w wi g tk tv (own.map (·.2))) (gName i)) := by
  constructor
  intro pins s σ H D I h
  rw [exec_Assign_Name_used _ _ _ _ hsw]
  refine wpAny_bind (wpAny_standAt (wpAny_bind ?_))
  show wpAny _ X.A (do let _ ← comprehension (.DictComp kx vx [⟨tg, iter, [], 0⟩] scope pos) scope X.env (firstIterPos [⟨tg, iter, [], 0⟩] pos) newDict false (eval iter X.env) (some (assign (.Name y py) X.env))) _ _ s
  have h : tDcN X.w wi g tk tv (own.map (·.2)) σ H (fun x H1 => gName i x σ H1 D.nx) := h
  refine wpAny_bind (thn (dcN_core (Qf := fun _ s' => SP X pins D .next s') hu hc hN hi ok hg hk hv hs I h fun L C s' m H' I' q hn f => ?_) fun _ s' hq => wpAny_pure (wpAny_pure hq))
  show wpAny _ _ (assign (.Name y py) X.env (.ref L)) _ _ _
  refine wpAny_assign_Name (store_ok2 (v := V.ref L) I' hN hy (.inl hyl) rfl (fun s2 I2 ⟨a, sb, ha⟩ => ?_) (.inr hyl))
  obtain ⟨f0, f1, f2, f3, f4, f5⟩ := f
  have apart : C.locals ≠ a := ha.elim (fun z => by rw [z]; exact f1) (fun z e => f4 y a z e.symm)
  exact ⟨m, hn.sameBut sb apart, fun h3 sb3 => ⟨_, H', I2.turned (t' := s2.toks) (fun b o hb e => (sb3.2 b hb).trans e) f0 f1 f3 f4 f5, q⟩⟩
theorem sw_trueD {kx vx : Expr} {gs : List Comprehension} {scope : Scope} {pos py : Pos} {y : Str} {l : Nat} {env : Env} (hk : env.scope.kind = .function) (hy : env.scope.names.lookup y = some .local) (hl : (py.line == pos.line) = true)
    (ha : (scope.names.any fun (n, k) => n == y && (k == .local || k == .cell)) = false) : swapsWith (.DictComp kx vx gs scope pos) (some (.Name y py)) l env = pure true := by
  have k1 : env.blockKind = .function := by unfold Env.blockKind; rw [hk]; rfl
  have k2 : env.kindOf y = some .local := hy
  unfold swapsWith
  simp only [k1, k2, ha, Expr.pos, hl]
  rfl
end
theorem dcN_it {wo : World} {J : It} {n : Nat} {G : Hp → Prop} {Y : Nat → Hp → V → Hp → Prop} (w : Walk J n G Y) {g : TG} {tk tv : TE} {vs : List Nat} {σ : L2.St} {H1 : Hp} {D : Addr} {Qd : Hp → Prop} (Pv : Nat → Hp → Prop) (h0 : Pv 0 (upd H1 D (rawN wo D []))) (hG : ∀ i H, i ≤ n → Pv i H → G H)
    (hs : ∀ i x H H', i < n → Pv i H → Y i H x H' → g x (wipe σ vs) H' fun σ2 H2 => wipe σ2 vs = wipe σ vs ∧ tk σ2 H2 fun y H4 => tv σ2 H4 fun z H5 => ∃ b kvs k, y = .ref b ∧ DN wo H5 D kvs ∧ NKey H5 b k ∧ kvs.length < sizeLine ∧ Pv (i + 1) (upd H5 D (rawN wo D (putN kvs k b z)))) (hd : ∀ H, Pv n H → Qd H) :
    ∃ W : Nat → Nat → Hp → Prop, (∃ m, W 0 m (upd H1 D (rawN wo D []))) ∧ ∀ i m H, W i m H →
      (J.stop i H ∧ Qd H) ∨ (J.go i H ∧ ∃ Nx : Hp → Prop, (∀ H', Nx H' → ∃ m', m' < m ∧ W (i + 1) m' H') ∧ ∀ x H', J.yld i H x H' → g x (wipe σ vs) H' fun σ2 H2 => wipe σ2 vs = wipe σ vs ∧
        tk σ2 H2 fun y H4 => tv σ2 H4 fun z H5 => ∃ b kvs k, y = .ref b ∧ DN wo H5 D kvs ∧ NKey H5 b k ∧ kvs.length < sizeLine ∧ Nx (upd H5 D (rawN wo D (putN kvs k b z)))) := by
  refine ⟨fun i m H => m = n - i ∧ i ≤ n ∧ Pv i H, ⟨n, by simp, Nat.zero_le _, h0⟩, ?_⟩
  rintro i m H ⟨rfl, hi, p⟩
  have q := hG i H hi p
  by_cases hlt : i < n
  · exact .inr ⟨w.goes i H hlt q, Pv (i + 1), fun H' p' => ⟨n - (i + 1), by omega, rfl, hlt, p'⟩, fun x H' y => hs i x H H' hlt p (w.yields i H x H' hlt q y)⟩
  · have e : i = n := by omega
    subst e
    exact .inl ⟨w.stops H q, hd H p⟩
/-! ### {} and setdefault of a dict with nested keys -/
section
variable {X : Cx}
def tDNewN (w : World) : TE := fun _ H Q => ∀ p, H p = none → Q (.ref p) (upd H p (rawN w p []))
theorem pe_dnewN {pos : Pos} : PE X (.Dict [] [] pos) (tDNewN X.w) := ⟨fun pins s σ H Q I h =>
  wpAny_Dict_empty ⟨.ref s.heap.objs.size, _, I.laid (a := s.heap.objs.size) (o := rawN X.w s.heap.objs.size []) (t' := s.toks) (fun _ _ q => Heap.get?_push_of_some _ q) (Nat.le_refl _) (dn_empty s.heap I.big), rfl, h _ (I.hok.fresh (Nat.le_refl _))⟩⟩
def tNSetd (w : World) (td ty tx : TE) : TE := fun σ H Q => td σ H fun x H1 => ∃ a kvs1, x = .ref a ∧ DN w H1 a kvs1 ∧ ty σ H1 fun y H2 => tx σ H2 fun z H3 => ∃ kvs b k, y = .ref b ∧ DN w H3 a kvs ∧ NKey H3 b k ∧ kvs.length < sizeLine ∧
  (∀ v, atN kvs k = some v → Q v H3) ∧ (atN kvs k = none → Q z (upd H3 a (rawN w a (putN kvs k b z))))
variable {o e f : Expr} {td ty tx : TE} {apos cpos : Pos}
theorem pe_nsetd (hu : X.A.units + 64 < cLine) (ho : PE X o td) (he : PE X e ty) (hf : PE X f tx) (m : M2 X o "setdefault" apos e f cpos) : PE X (.Call (.Attribute o "setdefault" apos) [e, f] [] cpos) (tNSetd X.w td ty tx) := by
  refine ⟨fun pins s σ H Q I h => ?_⟩
  refine wpAny_Call_method m.base m.few m.line PySem.F.plainAttrs_dict PySem.F.slot_dict_setdefault PySem.F.type_dict_setdefault (thn (ho.run pins s σ H _ I h) fun u s1 ⟨x, H1, I1, rx, a, kvs1, ex, d, q1⟩ => ?_)
  subst ex
  obtain rfl : u = Value.ref a := rx
  obtain ⟨_, _, xs1, _, dd1⟩ := dn_rd I1.hok d
  refine ⟨dd1.typeIs, fun b q => ?_, ?_⟩
  · cases q
    obtain ⟨ob, _, _, h1, h2, _⟩ := dd1
    exact ⟨ob, h1, h2.2.1⟩
  rw [m.trees]
  refine Calls.callWith_builtin rfl (Calls.evalArgs_plain (Calls.spliced_cons (thn (he.run pins s1 σ H1 _ I1 q1) fun iv s2 ⟨y, H2, I2, ry, q2⟩ =>
    Calls.spliced_cons (thn (hf.run pins s2 σ H2 _ I2 q2) fun fv s3 ⟨z, H3, I3, rz, kvs, b, k, ey, dn, nk, hl, q3, q4⟩ => Calls.spliced_nil ?_))))
  subst ey
  obtain rfl : iv = Value.ref b := ry
  obtain ⟨le, nsys, xs, rel, dd⟩ := dn_rd I3.hok dn
  refine call_setdefault_heap (knd := PySem.nestedKind X.prog X.w) (hsz := by rw [← Paired.length rel]; exact le) (show X.A.units + 1 + 8 < cLine by omega) (nkey_is I3.hok nk) nsys dd (fun p hp => ?_) fun hn h' new only => ?_
  · have r := relN_at rel k
    rw [hp] at r
    cases q0 : atN kvs k with
    | none => rw [q0] at r; exact (show False from r).elim
    | some v => rw [q0] at r; exact ⟨v, H3, I3.tok _, r, q3 v q0⟩
  · have r := relN_at rel k
    rw [hn] at r
    cases q0 : atN kvs k with
    | some v => rw [q0] at r; exact (show False from r).elim
    | none =>
      have le2 : (putN kvs k b z).length ≤ sizeLine := Nat.le_trans (putN_len kvs k b z) hl
      refine ⟨z, _, ?_, rz, q4 q0⟩
      obtain ⟨o, es, ep, at_, _⟩ := id new
      exact d_write I3 (by rw [dn.1]; exact True.intro) only ⟨o, at_⟩ (dn_new le2 nsys (relN_put rel k b rz) new)
end
/-! ### the head by one run: what the end leans on is read off the state behind the top -/
section
theorem fb_at {l : List Bool} (h : l.all id = true) (i : Nat) {b : Bool} (e : l[i]? = some b) : b = true := List.all_eq_true.mp h b (List.mem_of_getElem? e)
theorem fb_is {p : Prop} {_ : Decidable p} {l : List Bool} (h : l.all id = true) (i : Nat) (e : l[i]? = some (decide p)) : p := of_decide_eq_true (fb_at h i e)
theorem fb_app {a b : List Bool} (h : (a ++ b).all id = true) : a.all id = true ∧ b.all id = true := by
  rw [List.all_append] at h
  exact Bool.and_eq_true_iff.mp h
/-- what is asked of a function object -/
abbrev FnQ : Type := Option (Str × Str × Arguments × FuncBody × Scope × Addr × List (Str × Addr) × Value × Addr)
def fnQ (K : PySem.W.Frag) (a : Addr) : FnQ := match K.lookup a with
  | some ⟨_, _, .func fd, _⟩ => some (fd.name, fd.qualname, fd.params, fd.body, fd.scope, fd.globals, fd.closure, fd.defaults, fd.builtins)
  | _ => none
def fnV (x q : Str) (st : Stmt) (dv : Value) : FnQ := some (x, q, defArgs st, .stmts (defBody st), defScope st, mainGlobals, [], dv, builtinsNs)
def codeQ (K : PySem.W.Frag) (a : Addr) (q : Str) : Bool := match K.lookup a with
  | some ⟨_, _, .func fd, _⟩ => PySem.W.codeIn K fd.code q
  | _ => false
theorem fnQ_ok {K : PySem.W.Frag} {a : Addr} {x q : Str} {st : Stmt} {dv : Value} (e : fnQ K a = fnV x q st dv) (c : codeQ K a q = true) :
    ∃ oc od osl kV doc pm an cdv ct, K.lookup a = some ⟨oc, od, .func (PySem.W.fnOf x q (defArgs st) (defBody st) (defScope st) dv kV doc pm an cdv ct), osl⟩ ∧ PySem.W.codeIn K cdv q = true := by
  unfold fnQ at e
  unfold codeQ at c
  cases r : K.lookup a with
  | none =>
    rw [r] at c
    cases c
  | some o =>
    obtain ⟨oc, od, dt, osl⟩ := o
    rw [r] at c e
    cases dt with
    | func fd =>
      obtain ⟨n1, n2, n3, n4, n5, n6, n7, n8, n9, n10, n11, n12, n13, n14, n15⟩ := fd
      unfold fnV at e
      simp only [Option.some.injEq, Prod.mk.injEq] at e
      obtain ⟨h1, h2, h3, h4, h5, h6, h7, h8, h9⟩ := e
      subst h1 h2 h3 h4 h5 h6 h7 h8 h9
      exact ⟨oc, od, osl, n9, n10, n11, n12, n13, n14, rfl, c⟩
    | _ => cases c
/-- a list, a tuple of such values -/
def seqQ (K : PySem.W.Frag) (a : Addr) (vs : List Value) : Bool := match K.lookup a with
  | some ⟨_, _, .seq its _, _⟩ => decide (its.toList = vs)
  | _ => false
theorem seqQ_ok {K : PySem.W.Frag} {a : Addr} {vs : List Value} (c : seqQ K a vs = true) : ∃ oc od n sl, K.lookup a = some ⟨oc, od, .seq vs.toArray n, sl⟩ := by
  unfold seqQ at c
  cases r : K.lookup a with
  | none =>
    rw [r] at c
    cases c
  | some o =>
    obtain ⟨oc, od, dt, sl⟩ := o
    rw [r] at c
    cases dt with
    | seq its n =>
      have e : its.toList = vs := of_decide_eq_true c
      exact ⟨oc, od, n, sl, by rw [← e]⟩
    | _ => cases c
def tupQ (K : PySem.W.Frag) (a : Addr) : Bool := match K.lookup a with
  | some ⟨.type t, _, .seq its _, _⟩ => decide (t = "tuple") && decide (its.toList = [])
  | _ => false
theorem tupQ_ok {K : PySem.W.Frag} {a : Addr} (c : tupQ K a = true) : ∃ od n sl, K.lookup a = some ⟨.type "tuple", od, .seq #[] n, sl⟩ := by
  unfold tupQ at c
  cases r : K.lookup a with
  | none =>
    rw [r] at c
    cases c
  | some o =>
    obtain ⟨oc, od, dt, sl⟩ := o
    rw [r] at c
    cases oc with
    | type t =>
      cases dt with
      | seq its n =>
        obtain ⟨c1, c2⟩ := Bool.and_eq_true_iff.mp c
        have e1 : t = "tuple" := of_decide_eq_true c1
        have e2 : its.toList = [] := of_decide_eq_true c2
        have e3 : its = #[] := by rw [← Array.toArray_toList (xs := its), e2]
        subst e1 e3
        exact ⟨od, n, sl, rfl⟩
      | _ => cases c
    | _ => cases dt <;> cases c
/-- an error's class -/
def excQ (K : PySem.W.Frag) (C : Addr) : Bool := match K.lookup C with
  | some ⟨.type t, _, .cls cd, sl⟩ => decide (t = "type") && (match cd.mro with
    | .ref c :: bm => decide (c = C) && PySem.HandSPX.refsVE bm
    | _ => false) && decide (cd.hasDict = true) && decide (cd.hasDel = false) && (match sl.toList with
    | [_, _, _, _, some (.builtin n), _] => decide (n = "ValueError.__new__")
    | _ => false)
  | _ => false
theorem excQ_ok {K : PySem.W.Frag} {C : Addr} (c : excQ K C = true) :
    ∃ nm qn N bs sub sn ab col dd m0 m1 m2 m3 m5 bm, K.lookup C = some (excClassObj nm qn C N bs bm true sn sub ab col dd m0 m1 m2 m3 m5 "ValueError.__new__") ∧ PySem.HandSPX.refsVE bm = true := by
  unfold excQ at c
  cases r : K.lookup C with
  | none =>
    rw [r] at c
    cases c
  | some o =>
    obtain ⟨oc, dd, dt, sl⟩ := o
    rw [r] at c
    cases oc with
    | type t =>
      cases dt with
      | cls cd =>
        obtain ⟨nm, bs, mro, N, qn, hd, sn, sub, ab, col, hdl⟩ := cd
        dsimp only at c
        obtain ⟨c, c5⟩ := Bool.and_eq_true_iff.mp c
        obtain ⟨c, c4⟩ := Bool.and_eq_true_iff.mp c
        obtain ⟨c, c3⟩ := Bool.and_eq_true_iff.mp c
        obtain ⟨c1, c2⟩ := Bool.and_eq_true_iff.mp c
        have e1 : t = "type" := of_decide_eq_true c1
        have e3 : hd = true := of_decide_eq_true c3
        have e4 : hdl = false := of_decide_eq_true c4
        subst e1 e3 e4
        cases mro with
        | nil => cases c2
        | cons v bm =>
          cases v with
          | ref b =>
            obtain ⟨d1, d2⟩ := Bool.and_eq_true_iff.mp c2
            have e2 : b = C := of_decide_eq_true d1
            subst e2
            obtain ⟨ls⟩ := sl
            dsimp only at c5
            match ls, c5 with
            | [k0, k1, k2, k3, some (.builtin n), k5], c5 =>
              have e5 : n = "ValueError.__new__" := of_decide_eq_true c5
              subst e5
              exact ⟨nm, qn, N, bs, sub, sn, ab, col, dd, k0, k1, k2, k3, k5, bm, rfl, d2⟩
          | _ => cases c2
      | _ => cases c
    | _ => cases dt <;> cases c
def intQ (K : PySem.W.Frag) (x : Str) (i : Int) : Bool := match PySem.W.nsIn K mainGlobals x with
  | some (some (.int j _)) => decide (j = i)
  | _ => false
theorem intQ_ok {K : PySem.W.Frag} {x : Str} {i : Int} (c : intQ K x i = true) : ∃ t, PySem.W.nsIn K mainGlobals x = some (some (.int i t)) := by
  unfold intQ at c
  cases e : PySem.W.nsIn K mainGlobals x with
  | none =>
    rw [e] at c
    cases c
  | some o =>
    rw [e] at c
    cases o with
    | none => cases c
    | some v =>
      cases v with
      | int j t => exact ⟨t, by rw [of_decide_eq_true c]⟩
      | _ => cases c
def strQ (K : PySem.W.Frag) (x z : Str) : Bool := match PySem.W.nsIn K mainGlobals x with
  | some (some (.str y _)) => decide (y = z)
  | _ => false
theorem strQ_ok {K : PySem.W.Frag} {x z : Str} (c : strQ K x z = true) : ∃ t, PySem.W.nsIn K mainGlobals x = some (some (.str z t)) := by
  unfold strQ at c
  cases e : PySem.W.nsIn K mainGlobals x with
  | none =>
    rw [e] at c
    cases c
  | some o =>
    rw [e] at c
    cases o with
    | none => cases c
    | some v =>
      cases v with
      | str y t => exact ⟨t, by rw [of_decide_eq_true c]⟩
      | _ => cases c
abbrev AlQ : Type := Bool × List FnQ
def obsQ (fb : PySem.W.Frag → List Bool) (fl : List Addr) (K : PySem.W.Frag) : AlQ := ((fb K).all id, fl.map (fnQ K))
def obsQG (as : List Addr) (fb : PySem.W.Frag → List Bool) (fl : List Addr) (g : Addr → Option Obj) : AlQ := obsQ fb fl (He.frG g as)
def hookQ (as : List Addr) (fb : PySem.W.Frag → List Bool) (fl : List Addr) (vs : List FnQ) : PySem.W.Hook where
  α := AlQ
  obs := fun s => obsQG as fb fl s.heap.get?
  val := fun _ => (true, vs)
  says := fun _ h => ∃ K : PySem.W.Frag, K.In h ∧ obsQ fb fl K = (true, vs)
  of := fun _ _ e => ⟨_, He.frG_in, e⟩
  keeps := fun _ _ _ ⟨K, hK, c⟩ k => ⟨K, PySem.W.Frag.In.keeps hK k, c⟩
theorem obsQG_eq {as : List Addr} {fb : PySem.W.Frag → List Bool} {fl : List Addr} {vs : List FnQ} {g : Addr → Option Obj} {s : Shared} (h : ∀ a, g a = s.heap.get? a) : obsQG as fb fl g = (hookQ as fb fl vs).obs s := by
  have e : g = s.heap.get? := funext h
  rw [e] <;> rfl
theorem fl_at {K : PySem.W.Frag} {fl : List Addr} {vs : List FnQ} (e : fl.map (fnQ K) = vs) (i : Nat) {a : Addr} {v : FnQ} (h1 : fl[i]? = some a) (h2 : vs[i]? = some v) : fnQ K a = v := by
  rw [← e, List.getElem?_map, h1] at h2
  exact Option.some.inj h2
end
/-- the goal behind that head, for a law whose def counts on its guards -/
theorem walk_ofGQ {l : PySem.W.OpenLaw} {n k : Nat} {q : Program} {loose : List Str} {XP : (Str → Option Value) → Heap → Prop} {YP : World → Heap → Prop} {d : DefRec} {CX : World → CXT} {sp : World → PySem.W.Frag → Sp} {x : Str}
    (hn : l.most = some n) (hn2 : n ≤ sizeLine) (hdf : d.params.defaults = []) (hr : Room k callerA)
    (F : ∀ (w : World) (mg : Str → Option Value) (fa : Addr) (h : Heap), YP w h → h.Ns mainGlobals mg → mg d.name = some (.ref fa) → ∃ (K : PySem.W.Frag) (fd : FuncData), K.In h ∧ (∀ (s : Shared) (u : Value), BindsTo s fd ⟨[u], []⟩ [(x, u)]) ∧
      ∀ base : Heap, K.In base → base.Ns mainGlobals mg → GnOk l.prog w K mg base (CX w) k fa fd [x] (sp w K))
    (hsp : ∀ (w : World) (K : PySem.W.Frag) (H : Hp) (a : Addr) (ns : List Int), ns.length ≤ n → Only H → SqL K H a (ns.map V.int) → sp w K [.ref a] H (fun v _ => v = .bl true) fun _ _ _ => False)
    (hCX : ∀ (w : World) (H : Hp) (s : Shared) (e : Value) (s' : Shared), CX w [] H s (fun _ _ _ => False) e s' → False) : PySem.W.WalkO q loose XP YP l.row.toRowW d [] (fun f vs => PySem.call f vs) := by
  refine Att.attach_call hn hdf ?_
  intro w s₀ s₁ mg mb fa o pm cd doc a vs ns G Y ho hd hcd hmg hobj hints hlen hg
  obtain ⟨K, fd, KX, hb, hF⟩ := F w mg fa _ Y G.T.g hmg
  exact law_goG KX G.T.g G.T.b G.T.builtins G.T.nolimit hg hobj hints (Nat.le_trans hlen hn2) hr hF hb (fun H h1 h2 => hsp w K H a ns hlen h1 h2) (fun H e s' => hCX w H s₁ e s')
theorem join_cc (sep x y : Str) (r : List Str) : Txt.join sep (x :: y :: r) = x ++ sep ++ Txt.join sep (y :: r) := by
  unfold Txt.join
  rw [StrLaws.glued_eq_join, StrLaws.glued_eq_join]
  rfl
/-! ### corrections -/
structure Co where
  p : Pg
  r : Int
  w : Int
  o : Str
  n : Str
def dC (c : Co) : PyData := .tuple [dP c.p, .int c.r, .int c.w, .str c.o, .str c.n]
def Wd (z : Str) : Prop := tokB z = true ∧ ∀ x ∈ z.cps.toList, x < 128
def okC (c : Co) : Prop := okP c.p ∧ (0 ≤ c.r ∧ c.r ≤ 11) ∧ (0 ≤ c.w ∧ c.w ≤ 29) ∧ Wd c.o ∧ Wd c.n ∧ c.o ≠ c.n
def wC (c : Co) : List Str := ["on", fP c.p, toString c.r, toString c.w, "for", c.o, "read", c.n]
def fC (c : Co) : Str := Txt.join " " (wC c)
theorem Wd.free {z : Str} (h : Wd z) : 32 ∉ z.cps.toList := by
  have h := h.1
  unfold tokB at h
  simp only [Bool.and_eq_true, decide_eq_true_eq] at h
  exact h.2
theorem Wd.len {z : Str} (h : Wd z) : 1 ≤ z.length ∧ z.length ≤ 20 := by
  have h := h.1
  unfold tokB at h
  simp only [Bool.and_eq_true, decide_eq_true_eq] at h
  exact h.1
theorem num_free {i : Int} (h0 : 0 ≤ i) (h1 : i ≤ 99) : ∀ c ∈ ((toString i : Str)).cps.toList, 48 ≤ c ∧ c ≤ 57 := (num_ok h0 h1).2.2.1
theorem fL_sgn {L : List Int} (h : okL L) : ∀ c ∈ (fL L).cps.toList, c = 46 ∨ (48 ≤ c ∧ c ≤ 57) := by
  intro c hc
  unfold fL at hc
  rw [TL.join_eq] at hc
  rcases (mem_join _ _ _).mp hc with ⟨t, ht, h1⟩ | ⟨_, h1⟩
  · obtain ⟨i, hi, rfl⟩ := List.mem_map.mp ht
    exact .inr (num_free (h.2.2 i hi).1 (h.2.2 i hi).2 c h1)
  · revert h1
    have : TL.tl "." = [46] := by decide +kernel
    intro h1
    have h1 : c ∈ TL.tl "." := h1
    rw [this] at h1
    exact .inl (List.mem_singleton.mp h1)
theorem fP_sgn {p : Pg} (h : okP p) : ∀ c ∈ (fP p).cps.toList, c = 46 ∨ (48 ≤ c ∧ c ≤ 57) ∨ c = 97 ∨ c = 98 := by
  intro c hc
  unfold fP at hc
  rw [cps_toList_append] at hc
  rcases List.mem_append.mp hc with h1 | h1
  · rcases fL_sgn h.1 c h1 with h | h
    · exact .inl h
    · exact .inr (.inl h)
  · have ea : ("a" : Str).cps.toList = [97] := by decide +kernel
    have eb : ("b" : Str).cps.toList = [98] := by decide +kernel
    split at h1
    · rw [ea] at h1; exact .inr (.inr (.inl (List.mem_singleton.mp h1)))
    · rw [eb] at h1; exact .inr (.inr (.inr (List.mem_singleton.mp h1)))
theorem wC_sgn {c : Co} (h : okC c) : ∀ z ∈ wC c, ∀ x ∈ z.cps.toList, x ≠ 32 ∧ x < 128 := by
  obtain ⟨hp, hr, hw, ho, hn, _⟩ := h
  have lit : ∀ z : Str, z.cps.toList.all (fun x => decide (x ≠ 32) && decide (x < 128)) = true → ∀ x ∈ z.cps.toList, x ≠ 32 ∧ x < 128 := fun z e x hx => by
    have := List.all_eq_true.mp e x hx
    rw [Bool.and_eq_true] at this
    exact ⟨of_decide_eq_true this.1, of_decide_eq_true this.2⟩
  intro z hz
  simp only [wC, List.mem_cons, List.not_mem_nil, or_false] at hz
  rcases hz with rfl | rfl | rfl | rfl | rfl | rfl | rfl | rfl
  · exact lit _ (by decide +kernel)
  · intro x hx
    have := fP_sgn hp x hx
    omega
  · intro x hx
    have := num_free hr.1 (by omega) x hx
    omega
  · intro x hx
    have := num_free hw.1 (by omega) x hx
    omega
  · exact lit _ (by decide +kernel)
  · exact fun x hx => ⟨fun e => ho.free (e ▸ hx), ho.2 x hx⟩
  · exact lit _ (by decide +kernel)
  · exact fun x hx => ⟨fun e => hn.free (e ▸ hx), hn.2 x hx⟩
theorem split_fC {c : Co} (h : okC c) : Txt.split (fC c) " " = wC c := TL.split_join (s := 32) (S := []) (by rfl) (by decide +kernel) (by unfold wC; exact fun z => nomatch z) fun z hz hx => (wC_sgn h z hz 32 hx).1 rfl
theorem join_one (s x : Str) : Txt.join s [x] = x := by rw [TL.join_eq]; rfl
theorem fC_law (c : Co) : "on " ++ fP c.p ++ " " ++ toString c.r ++ " " ++ toString c.w ++ " for " ++ c.o ++ " read " ++ c.n = fC c := by
  unfold fC wC
  rw [join_cc, join_cc, join_cc, join_cc, join_cc, join_cc, join_cc, join_one]
  rw [show ("on " : Str) = "on" ++ " " by decide +kernel, show (" for " : Str) = " " ++ "for" ++ " " by decide +kernel, show (" read " : Str) = " " ++ "read" ++ " " by decide +kernel]
  simp only [Str.append_assoc]
theorem app_len (x y : Str) : (x ++ y).length = x.length + y.length := by
  show (x.cps ++ y.cps).size = _
  rw [Array.size_append]; rfl
theorem fC_len {c : Co} (h : okC c) : (fC c).length ≤ 80 := by
  obtain ⟨hp, hr, hw, ho, hn, _⟩ := h
  rw [← fC_law c]
  simp only [app_len]
  have := (fP_len hp).1
  have := (num_ok hr.1 (by omega)).1
  have := (num_ok hw.1 (by omega)).1
  have := ho.len.2
  have := hn.len.2
  have e1 : ("on " : Str).length = 3 := by decide +kernel
  have e2 : (" " : Str).length = 1 := by decide +kernel
  have e3 : (" for " : Str).length = 5 := by decide +kernel
  have e4 : (" read " : Str).length = 6 := by decide +kernel
  omega
theorem fC_sgn {c : Co} (h : okC c) : ∀ x ∈ (fC c).cps.toList, x < 128 := by
  intro x hx
  unfold fC at hx
  rw [TL.join_eq] at hx
  rcases (mem_join _ _ _).mp hx with ⟨t, ht, h1⟩ | ⟨_, h1⟩
  · exact (wC_sgn h t ht x h1).2
  · have : TL.tl " " = [32] := by decide +kernel
    have h1 : x ∈ TL.tl " " := h1
    rw [this] at h1
    rw [List.mem_singleton.mp h1]
    decide
/-! ### what is shown -/
/-- what repr serves -/
def Shown (d : PyData) : Prop := d.showable = true ∧ d.hasDict = false ∧ d.depth ≤ 8 ∧ d.shown.length ≤ sizeLine
def Sm (B k : Nat) (d : PyData) : Prop := d.showable = true ∧ d.hasDict = false ∧ d.depth ≤ k ∧ d.shown.length ≤ B
theorem sm_all {B k : Nat} : ∀ {ds : List PyData}, (∀ d ∈ ds, Sm B k d) → PyData.showableAll ds = true ∧ PyData.hasDictAll ds = false ∧ PyData.depthAll ds ≤ k ∧ ((PyData.shownAll ds).map (·.length)).sum ≤ ds.length * B ∧ (PyData.shownAll ds).length = ds.length
  | [], _ => ⟨rfl, rfl, Nat.zero_le _, Nat.zero_le _, rfl⟩
  | d :: r, h => by
    obtain ⟨h1, h2, h3, h4⟩ := h d (List.mem_cons_self ..)
    obtain ⟨k1, k2, k3, k4, k5⟩ := sm_all fun e he => h e (List.mem_cons_of_mem _ he)
    refine ⟨?_, ?_, ?_, ?_, ?_⟩
    · show (d.showable && PyData.showableAll r) = true
      rw [h1, k1]
      rfl
    · show (d.hasDict || PyData.hasDictAll r) = false
      rw [h2, k2]
      rfl
    · show max d.depth (PyData.depthAll r) ≤ k
      omega
    · show ((d.shown :: PyData.shownAll r).map (·.length)).sum ≤ (r.length + 1) * B
      rw [List.map_cons, List.sum_cons, Nat.add_mul, Nat.one_mul]
      omega
    · show (d.shown :: PyData.shownAll r).length = r.length + 1
      rw [List.length_cons, k5]
theorem sm_tup {B k : Nat} {ds : List PyData} (hl : ds.length ≤ 5) (h : ∀ d ∈ ds, Sm B k d) : Sm (5 * B + 13) (k + 1) (.tuple ds) := by
  obtain ⟨k1, k2, k3, k4, k5⟩ := sm_all h
  refine ⟨k1, k2, Nat.succ_le_succ k3, ?_⟩
  have := tupleText_len_le (PyData.shownAll ds)
  have hm : ds.length * B ≤ 5 * B := Nat.mul_le_mul_right _ hl
  show (tupleText (PyData.shownAll ds)).length ≤ _
  omega
theorem sm_shown {B k : Nat} {d : PyData} (h : Sm B k d) (hB : B ≤ 10000000) (hk : k ≤ 8) : Shown d := by
  obtain ⟨h1, h2, h3, h4⟩ := h
  refine ⟨h1, h2, by omega, ?_⟩
  rw [sizeLine_eq]
  omega
theorem Sm.mono {B B' k k' : Nat} {d : PyData} (h : Sm B k d) (hB : B ≤ B') (hk : k ≤ k') : Sm B' k' d := ⟨h.1, h.2.1, Nat.le_trans h.2.2.1 hk, Nat.le_trans h.2.2.2 hB⟩
theorem sm_tupN {B k n : Nat} {ds : List PyData} (hl : ds.length ≤ n) (h : ∀ d ∈ ds, Sm B k d) : Sm (n * B + 2 * n + 3) (k + 1) (.tuple ds) := by
  obtain ⟨k1, k2, k3, k4, k5⟩ := sm_all h
  refine ⟨k1, k2, Nat.succ_le_succ k3, ?_⟩
  have := tupleText_len_le (PyData.shownAll ds)
  have hm : ds.length * B ≤ n * B := Nat.mul_le_mul_right _ hl
  show (tupleText (PyData.shownAll ds)).length ≤ _
  omega
theorem sm_int {i : Int} (h : i.natAbs ≤ 200) : Sm 300 0 (.int i) := by
  refine ⟨decide_eq_true ?_, rfl, Nat.le_refl 0, ?_⟩
  · exact Nat.lt_of_le_of_lt (Nat.log2_le_self _) (by omega)
  · have := len_str_of_int i
    show (Str.ofString (toString i)).length ≤ 300
    omega
theorem sm_str {z : Str} {n : Nat} (h : z.length ≤ n) (hc : ∀ c ∈ z.cps.toList, c < 128) : Sm (10 * n + 2) 0 (.str z) := by
  refine ⟨rfl, rfl, Nat.le_refl 0, ?_⟩
  have := PySem.StrLaws.reprText_len z fun c h => Nat.lt_trans (hc c h) (by decide)
  show (reprText z).length ≤ _
  omega
theorem Tp.tups {H H' : Hp} (m : ∀ c ys, H c = some (.tup ys) → H' c = some (.tup ys)) : ∀ {u : V} {d : PyData}, Tp H u d → Tp H' u d := @Tp.rec H (fun u d _ => Tp H' u d) (fun us ds _ => TpAll H' us ds) .non .bl .int .str (fun h _ r => .tup (m _ _ h) r) .nil (fun _ _ a b => .cons a b)
theorem TpAll.tups {H H' : Hp} (m : ∀ c ys, H c = some (.tup ys) → H' c = some (.tup ys)) : ∀ {us : List V} {ds : List PyData}, TpAll H us ds → TpAll H' us ds
  | _, _, .nil => .nil
  | _, _, .cons a r => .cons (a.tups m) (r.tups m)
theorem tups_ins {x C dx : Addr} {fs : List (Str × V)} {H H' : Hp} (hx : H x = some (.ins C dx fs)) (b : But x H H') : ∀ c ys, H c = some (.tup ys) → H' c = some (.tup ys) := fun c ys e => b _ _ (fun z => by rw [z, hx] at e; cases e) e
theorem Tp.butI {x C dx : Addr} {fs : List (Str × V)} {H H' : Hp} {u : V} {d : PyData} (h : Tp H u d) (hx : H x = some (.ins C dx fs)) (b : But x H H') : Tp H' u d := h.tups (tups_ins hx b)
theorem TpAll.butI {x C dx : Addr} {fs : List (Str × V)} {H H' : Hp} {us : List V} {ds : List PyData} (h : TpAll H us ds) (hx : H x = some (.ins C dx fs)) (b : But x H H') : TpAll H' us ds := h.tups (tups_ins hx b)
theorem tpC_inv {H : Hp} {v : V} {c : Co} (h : Tp H v (dC c)) : ∃ (a : Addr) (pv : V), v = .ref a ∧ H a = some (.tup [pv, .int c.r, .int c.w, .str c.o, .str c.n]) ∧ Tp H pv (dP c.p) := by
  cases h with
  | tup h r =>
    cases r with
    | cons h1 r =>
      cases r with
      | cons h2 r =>
        cases r with
        | cons h3 r =>
          cases r with
          | cons h4 r =>
            cases r with
            | cons h5 r =>
              cases r
              cases h2
              cases h3
              cases h4
              cases h5
              exact ⟨_, _, rfl, h, h1⟩
def Pd : Nat → PyData → Prop
  | 0, _ => False
  | _ + 1, .int _ => True
  | _ + 1, .str z => PyData.strOk z = true
  | n + 1, .tuple ds => ds.length ≤ 1000 ∧ ∀ d ∈ ds, Pd n d
  | _ + 1, _ => False
theorem lay_pd : ∀ (n : Nat) (d : PyData), Pd n d → d.canLay0 = true ∧ d.depth ≤ n
  | 0, _, h => h.elim
  | _ + 1, .int _, _ => ⟨rfl, Nat.zero_le _⟩
  | _ + 1, .str z, h => ⟨h, Nat.zero_le _⟩
  | n + 1, .tuple ds, h => by
    have key : ∀ es : List PyData, (∀ d ∈ es, Pd n d) → PyData.canLayAll0 es = true ∧ PyData.depthAll es ≤ n := by
      intro es
      induction es with
      | nil => exact fun _ => ⟨rfl, Nat.zero_le _⟩
      | cons d r ih =>
        intro hh
        have h1 := lay_pd n d (hh d (List.mem_cons_self ..))
        have h2 := ih fun e he => hh e (List.mem_cons_of_mem _ he)
        refine ⟨?_, ?_⟩
        · show (d.canLay0 && PyData.canLayAll0 r) = true
          rw [h1.1, h2.1]
          rfl
        · show max d.depth (PyData.depthAll r) ≤ n
          omega
    have := key ds h.2
    exact ⟨this.1, Nat.succ_le_succ this.2⟩
  | _ + 1, .none, h => by simp [Pd] at h
  | _ + 1, .bool _, h => by simp [Pd] at h
  | _ + 1, .list _, h => by simp [Pd] at h
  | _ + 1, .dict _, h => by simp [Pd] at h
theorem layl_pd {n : Nat} {ds : List PyData} (h : ∀ d ∈ ds, Pd n d) : (PyData.list ds).canLay0 = true ∧ (PyData.list ds).depth ≤ n + 1 := by
  induction ds with
  | nil => exact ⟨rfl, Nat.succ_le_succ (Nat.zero_le _)⟩
  | cons d r ih =>
    have h1 := lay_pd n d (h d (List.mem_cons_self ..))
    have h2 := ih fun e he => h e (List.mem_cons_of_mem _ he)
    refine ⟨?_, ?_⟩
    · show (d.canLay0 && (PyData.list r).canLay0) = true
      rw [h1.1, h2.1]
      rfl
    · have h3 : PyData.depthAll r + 1 ≤ n + 1 := h2.2
      show max d.depth (PyData.depthAll r) + 1 ≤ n + 1
      omega
theorem shaped_pdl {n : Nat} {ds : List PyData} (h : ∀ d ∈ ds, Pd n d) (hn : n ≤ 60) : SeqAt.shaped (.list ds) = true := by
  have := layl_pd h
  unfold SeqAt.shaped
  rw [Bool.and_eq_true]
  exact ⟨this.1, decide_eq_true (by omega)⟩
theorem eqv_pdl {n : Nat} {ds : List PyData} (h : ∀ d ∈ ds, Pd n d) : PyData.eqv (.list ds) (.list ds) = true := SeqAt.eqv_refl _ (layl_pd h).1
theorem nk_ints : ∀ L : List Int, nkDs (L.map PyData.int) = L.map PySem.NestedKey.num
  | [] => rfl
  | i :: r => by
    show PySem.NestedKey.num i :: nkDs (r.map PyData.int) = _
    rw [nk_ints r]
    rfl
theorem nk_P (p : Pg) : nkD (dP p) = .tup [.tup (p.1.map PySem.NestedKey.num), .num p.2] := by
  show PySem.NestedKey.tup [.tup (nkDs (p.1.map PyData.int)), .num p.2] = _
  rw [nk_ints]
def keyC (c : Co) : PyData := .tuple [dP c.p, .int c.r, .int c.w]
theorem key_depth (c : Co) : (nkD (keyC c)).depth ≤ 8 := by
  have : ∀ L : List Int, PySem.NestedKey.depthAll (L.map PySem.NestedKey.num) = 0 := by
    intro L
    induction L with
    | nil => rfl
    | cons x r ih => show max 0 (PySem.NestedKey.depthAll (r.map PySem.NestedKey.num)) = 0; rw [ih]; rfl
  show (PySem.NestedKey.tup [nkD (dP c.p), .num c.r, .num c.w]).depth ≤ 8
  rw [nk_P]
  show max (max (PySem.NestedKey.depthAll (c.p.1.map PySem.NestedKey.num) + 1) (max 0 0) + 1) (max 0 (max 0 0)) + 1 ≤ 8
  rw [this]
  decide
theorem ok_tok {z : Str} (h : ∀ x ∈ z.cps.toList, x < 128) : PyData.strOk z = true := by
  show z.cps.all (· < 0x110000) = true
  rw [← Array.all_toList, List.all_eq_true]
  intro x hx
  exact decide_eq_true (Nat.lt_trans (h x hx) (by decide))
theorem pd_P {p : Pg} (h : okP p) (n : Nat) : Pd (n + 3) (dP p) := ⟨by show 2 ≤ 1000; decide, fun d hd => by
  rcases List.mem_cons.mp hd with e | e
  · rw [e]
    refine ⟨by rw [List.length_map]; have := h.1.1; omega, fun f hf => ?_⟩
    obtain ⟨i, _, rfl⟩ := List.mem_map.mp hf
    trivial
  · rw [List.mem_singleton.mp e]; trivial⟩
theorem pd_C {c : Co} (h : okC c) : Pd 4 (dC c) := ⟨by show 5 ≤ 1000; decide, fun d hd => by
  obtain ⟨hp, hr, hw, ho, hn, _⟩ := h
  simp only [List.mem_cons, List.not_mem_nil, or_false] at hd
  rcases hd with rfl | rfl | rfl | rfl | rfl
  · exact pd_P hp 0
  · trivial
  · trivial
  · exact ok_tok ho.2
  · exact ok_tok hn.2⟩
theorem pd_Cs {cs : List Co} (h : ∀ c ∈ cs, okC c) : ∀ d ∈ cs.map dC, Pd 4 d := fun d hd => by
  obtain ⟨c, hc, rfl⟩ := List.mem_map.mp hd
  exact pd_C (h c hc)
theorem pd_Ct {cs : List Co} (h : ∀ c ∈ cs, okC c) (l : cs.length ≤ 60) : Pd 5 (.tuple (cs.map dC)) := ⟨by rw [List.length_map]; omega, pd_Cs h⟩
theorem shaped_pd {n : Nat} {d : PyData} (h : Pd n d) (hn : n ≤ 60) : SeqAt.shaped d = true := by
  have := lay_pd n d h
  unfold SeqAt.shaped
  rw [Bool.and_eq_true]
  exact ⟨this.1, decide_eq_true (by omega)⟩
theorem eqv_pd {n : Nat} {d : PyData} (h : Pd n d) : PyData.eqv d d = true := SeqAt.eqv_refl _ (lay_pd n d h).1
theorem no_none (cs : List Co) : ((cs.map dC).any fun z => PyData.eqv z .none) = false := by
  rw [List.any_eq_false]
  intro z hz
  obtain ⟨c, _, rfl⟩ := List.mem_map.mp hz
  exact Bool.false_ne_true
theorem atN_mem {kvs : List NE} {k : PySem.NestedKey} {v : V} (h : atN kvs k = some v) : ∃ p ∈ kvs, p.2.2 = v := by
  unfold atN at h
  obtain ⟨p, hp, e⟩ := Option.map_eq_some_iff.mp h
  exact ⟨p, List.mem_of_find?_eq_some hp, e⟩
theorem none_of {H H' : Hp} (s : Same H H') {p : Addr} (n : H' p = none) : H p = none := by
  cases e : H p with
  | none => rfl
  | some o => rw [s _ _ e] at n; cases n
/-! ### tokens that the law draws -/
def SG : Str := "abmw0129/.-:()*+!\"#$&',;<=>?@ABCDEFGHIJKLMNOPQRSTUVWXYZ[\\]^_`cdefghijklnopqrstuvxyz345678{|}~"
theorem SG_len : SG.cps.toList.length = 93 := by decide +kernel
theorem all_sgn {z : Str} (h : z.cps.toList.all (fun x => decide (x ≠ 32) && decide (x < 128)) = true) : ∀ x ∈ z.cps.toList, x ≠ 32 ∧ x < 128 := fun x hx => by
  have := List.all_eq_true.mp h x hx
  rw [Bool.and_eq_true] at this
  exact ⟨of_decide_eq_true this.1, of_decide_eq_true this.2⟩
theorem SG_sgn : ∀ x ∈ SG.cps.toList, x ≠ 32 ∧ x < 128 := all_sgn (by decide +kernel)
theorem tok_of {z : Str} (l1 : 1 ≤ z.length) (l2 : z.length ≤ 20) (h : ∀ x ∈ z.cps.toList, x ≠ 32 ∧ x < 128) : Wd z := by
  refine ⟨?_, fun x hx => (h x hx).2⟩
  unfold tokB
  simp only [Bool.and_eq_true, decide_eq_true_eq]
  exact ⟨⟨l1, l2⟩, fun m => (h 32 m).1 rfl⟩
theorem Wd.sgn {z : Str} (h : Wd z) : ∀ x ∈ z.cps.toList, x ≠ 32 ∧ x < 128 := fun x hx => ⟨fun e => h.free (e ▸ hx), h.2 x hx⟩
theorem app_sgn {x y : Str} {P : Nat → Prop} (hx : ∀ c ∈ x.cps.toList, P c) (hy : ∀ c ∈ y.cps.toList, P c) : ∀ c ∈ (x ++ y).cps.toList, P c := fun c hc => by
  rw [cps_toList_append] at hc
  rcases List.mem_append.mp hc with h | h
  · exact hx c h
  · exact hy c h
theorem one_sgn {c : Nat} {P : Nat → Prop} (h : P c) : ∀ x ∈ (⟨#[c]⟩ : Str).cps.toList, P x := fun x hx => by
  rw [List.mem_singleton.mp (show x ∈ [c] from hx)]
  exact h
theorem str_len (z : Str) : z.length = z.cps.toList.length := rfl
theorem cut1 {z : Str} (h : 1 ≤ z.length) : (cutS z (some 1) none).cps.toList = z.cps.toList.drop 1 := by
  unfold cutS
  rw [HT.sIx_none, show HT.sIx z.length 0 (some 1) = 1 by
    have := HT.sIx_nat z.length 0 1
    rw [show ((1 : Nat) : Int) = 1 from rfl] at this
    rw [this]
    omega]
  show (((z.cps.toList.drop 1).take (z.length - 1)).toArray).toList = _
  rw [List.take_of_length_le (by rw [List.length_drop]; exact Nat.le_refl _)]
theorem cut1_len {z : Str} (h : 1 ≤ z.length) : (cutS z (some 1) none).length = z.length - 1 := by
  rw [str_len, cut1 h, List.length_drop]
  rfl
theorem tok_new {z y : Str} (hz : Wd z) (hy : y.length = 1) (hs : ∀ x ∈ y.cps.toList, x ≠ 32 ∧ x < 128) : Wd (y ++ cutS z (some 1) none) := by
  have l := hz.len
  refine tok_of (by rw [app_len]; omega) (by rw [app_len, cut1_len l.1]; omega) (app_sgn hs fun c hc => hz.sgn c ?_)
  rw [cut1 l.1] at hc
  exact List.mem_of_mem_drop hc
def WS : List Str := ["on", "for", "read", "0", "11", "7a", "7.0.1b", "clear", "leaf", "-"]
theorem WS_len : WS.length = 10 := rfl
theorem WS_tok : ∀ z ∈ WS, Wd z := fun z hz => by
  simp only [WS, List.mem_cons, List.not_mem_nil, or_false] at hz
  rcases hz with rfl | rfl | rfl | rfl | rfl | rfl | rfl | rfl | rfl | rfl <;> exact tok_of (by decide +kernel) (by decide +kernel) (all_sgn (by decide +kernel))
theorem shown_Ps {p : Pg} (h : okP p) : Sm 7578 2 (dP p) := by
  obtain ⟨⟨h1, h2, h3⟩, h4⟩ := h
  refine sm_tup (B := 1513) (k := 1) (by show 2 ≤ 5; decide) fun d hd => ?_
  rcases List.mem_cons.mp hd with e | e
  · rw [e]
    refine sm_tup (B := 300) (k := 0) (by rw [List.length_map]; omega) fun f hf => ?_
    obtain ⟨i, hi, rfl⟩ := List.mem_map.mp hf
    have := h3 i hi
    exact sm_int (by omega)
  · rw [List.mem_singleton.mp e]
    exact (sm_int (by omega)).mono (by decide) (by decide)
theorem shown_C {c : Co} (h : okC c) : Sm 37903 3 (dC c) := by
  obtain ⟨hp, hr, hw, ho, hn, _⟩ := h
  refine sm_tup (B := 7578) (k := 2) (by show 5 ≤ 5; decide) fun d hd => ?_
  simp only [List.mem_cons, List.not_mem_nil, or_false] at hd
  rcases hd with rfl | rfl | rfl | rfl | rfl
  · exact shown_Ps hp
  · exact (sm_int (by omega)).mono (by decide) (by decide)
  · exact (sm_int (by omega)).mono (by decide) (by decide)
  · exact (sm_str (n := 20) ho.len.2 ho.2).mono (by decide) (by decide)
  · exact (sm_str (n := 20) hn.len.2 hn.2).mono (by decide) (by decide)
theorem shown_Cs {cs : List Co} (h : ∀ c ∈ cs, okC c) (l : cs.length ≤ 60) : Shown (.tuple (cs.map dC)) := by
  refine sm_shown (sm_tupN (B := 37903) (k := 3) (n := 60) (by rw [List.length_map]; exact l) fun d hd => ?_) (by decide) (by decide)
  obtain ⟨c, hc, rfl⟩ := List.mem_map.mp hd
  exact shown_C (h c hc)
theorem shown_Fs {cs : List Co} (h : ∀ c ∈ cs, okC c) (l : cs.length ≤ 60) : Shown (dS (cs.map fC)) := by
  refine sm_shown (sm_tupN (B := 802) (k := 0) (n := 60) (by rw [List.length_map, List.length_map]; exact l) fun d hd => ?_) (by decide) (by decide)
  obtain ⟨z, hz, rfl⟩ := List.mem_map.mp hd
  obtain ⟨c, hc, rfl⟩ := List.mem_map.mp hz
  exact sm_str (fC_len (h c hc)) (fC_sgn (h c hc))
theorem fC_map (cs : List Co) : (cs.map fun c => V.str (fC c)) = (cs.map fC).map V.str := by rw [List.map_map]; rfl
/-! ### lines, good or not -/
def LnOk (v : V) : Prop := v = .non ∨ v = .int 7 ∨ v = .bl true ∨ ∃ z : Str, v = .str z ∧ z.length ≤ 12000 ∧ ∀ c ∈ z.cps.toList, c < 128
def dV : V → PyData
  | .int i => .int i
  | .bl b => .bool b
  | .str z => .str z
  | _ => .none
theorem LnOk.dp {K : PySem.W.Frag} {H : Hp} {v : V} (h : LnOk v) : Dp K H v (dV v) := by
  rcases h with rfl | rfl | rfl | ⟨z, rfl, _⟩
  · exact .non
  · exact .int _
  · exact .bl _
  · exact .str _
theorem LnOk.all {K : PySem.W.Frag} {H : Hp} : ∀ {xs : List V}, (∀ x ∈ xs, LnOk x) → DpAll K H xs (xs.map dV)
  | [], _ => .nil
  | x :: r, h => .cons (h x (List.mem_cons_self ..)).dp (LnOk.all fun y hy => h y (List.mem_cons_of_mem _ hy))
def rdM (m : Int) (z : Str) : Option Int := match rdI z with
  | some i => if i ≤ m then some i else none
  | none => none
theorem rdM_some {m : Int} {z : Str} {i : Int} (h : rdM m z = some i) : rdI z = some i ∧ 0 ≤ i ∧ i ≤ m := by
  unfold rdM at h
  cases e : rdI z with
  | none => rw [e] at h; cases h
  | some j =>
    rw [e] at h
    have h : (if j ≤ m then some j else none) = some i := h
    split at h
    · cases h; exact ⟨rfl, (rd_bound e).1, by assumption⟩
    · cases h
def fit (k : Nat) (z : Str) : Bool :=
  if k = 1 then (rdP z).isSome else if k = 2 then (rdM 11 z).isSome else if k = 3 then (rdM 29 z).isSome
  else if k = 5 ∨ k = 7 then decide (1 ≤ z.length ∧ z.length ≤ 20) else decide (z = (["on", "", "", "", "for", "", "read", ""] : List Str).getD k "")
def okW (ws : List Str) (k : Nat) : Bool := match ws[k]? with
  | some z => fit k z
  | none => false
def badW (ws : List Str) : Option Nat := match (List.range 8).find? fun k => !okW ws k with
  | some k => some k
  | none => if 8 < ws.length then some 8 else none
theorem badW_at {ws : List Str} {k : Nat} (hk : k < 8) (h : ∀ j, j < k → okW ws j = true) (hb : okW ws k = false) : badW ws = some k := by
  unfold badW
  have : (List.range 8).find? (fun k => !okW ws k) = some k := List.find?_range_eq_some.mpr ⟨by rw [hb]; rfl, List.mem_range.mpr hk, fun j hj => by rw [h j hj]; rfl⟩
  rw [this]
theorem badW_all {ws : List Str} (h : ∀ j, j < 8 → okW ws j = true) : badW ws = if 8 < ws.length then some 8 else none := by
  unfold badW
  have : (List.range 8).find? (fun k => !okW ws k) = none := List.find?_eq_none.mpr fun j hj => by rw [h j (List.mem_range.mp hj)]; decide
  rw [this]
theorem okW_get {ws : List Str} {k : Nat} (h : okW ws k = true) : ∃ z, ws[k]? = some z ∧ fit k z = true := by
  unfold okW at h
  cases e : ws[k]? with
  | none => rw [e] at h; cases h
  | some z => rw [e] at h; exact ⟨z, rfl, h⟩
theorem okW_of {ws : List Str} {k : Nat} {z : Str} (e : ws[k]? = some z) : okW ws k = fit k z := by
  unfold okW
  rw [e]
theorem okW_non {ws : List Str} {k : Nat} (e : ws[k]? = none) : okW ws k = false := by
  unfold okW
  rw [e]
theorem badW_none {ws : List Str} (h : badW ws = none) : (∀ j, j < 8 → okW ws j = true) ∧ ws.length = 8 := by
  have h1 : ∀ j, j < 8 → okW ws j = true := by
    intro j
    induction j using Nat.strongRecOn with
    | ind j ih =>
      intro hj
      cases e : okW ws j with
      | true => rfl
      | false =>
        rw [badW_at hj (fun i hi => ih i hi (by omega)) e] at h
        cases h
  refine ⟨h1, ?_⟩
  rw [badW_all h1] at h
  obtain ⟨z, hz, _⟩ := okW_get (h1 7 (by decide))
  have := (List.getElem?_eq_some_iff.mp hz).1
  split at h
  · cases h
  · omega
def badL (v : V) : Option Nat := match v with
  | .str z => badW (Txt.split z " ")
  | _ => some 0
def firstFrom : Nat → List V → Option (Nat × Nat)
  | _, [] => none
  | n, x :: r => match badL x with
    | some p => some (n, p)
    | none => firstFrom (n + 1) r
theorem firstFrom_at : ∀ {xs : List V} {n i p : Nat} {x : V}, (∀ j, j < i → ∀ y, xs[j]? = some y → badL y = none) → xs[i]? = some x → badL x = some p → firstFrom n xs = some (n + i, p)
  | [], _, _, _, _, _, h, _ => by cases h
  | y :: r, n, 0, p, x, _, h, hb => by
    cases h
    show (match badL y with | some p => some (n, p) | none => _) = _
    rw [hb]
    rfl
  | y :: r, n, i + 1, p, x, hh, h, hb => by
    show (match badL y with | some p => some (n, p) | none => firstFrom (n + 1) r) = _
    rw [hh 0 (Nat.succ_pos _) y rfl]
    show firstFrom (n + 1) r = _
    rw [firstFrom_at (fun j hj z hz => hh (j + 1) (Nat.succ_lt_succ hj) z hz) h hb]
    congr 2
    omega
theorem firstFrom_none : ∀ {xs : List V} {n : Nat}, (∀ x ∈ xs, badL x = none) → firstFrom n xs = none
  | [], _, _ => rfl
  | y :: r, n, h => by
    show (match badL y with | some p => some (n, p) | none => firstFrom (n + 1) r) = _
    rw [h y (List.mem_cons_self ..)]
    exact firstFrom_none fun x hx => h x (List.mem_cons_of_mem _ hx)
def coW (ws : List Str) : Co := ⟨(rdP (ws.getD 1 "")).getD ([], 0), (rdM 11 (ws.getD 2 "")).getD 0, (rdM 29 (ws.getD 3 "")).getD 0, ws.getD 5 "", ws.getD 7 ""⟩
def coV (v : V) : Co := match v with
  | .str z => coW (Txt.split z " ")
  | _ => coW []
def okC' (c : Co) : Prop := okP c.p ∧ (0 ≤ c.r ∧ c.r ≤ 11) ∧ (0 ≤ c.w ∧ c.w ≤ 29) ∧ Wd c.o ∧ Wd c.n
theorem okC'.ne {c : Co} (h : okC' c) (n : c.o ≠ c.n) : okC c := ⟨h.1, h.2.1, h.2.2.1, h.2.2.2.1, h.2.2.2.2, n⟩
theorem rdL_ok {z : Str} {L : List Int} (h : rdL z = some L) : okL L := by
  obtain ⟨e, h1, h2⟩ := keep_some h
  refine ⟨h1, h2, fun i hi => ?_⟩
  have : some i ∈ (Txt.split z ".").map rdI := by rw [e]; exact List.mem_map.mpr ⟨i, hi, rfl⟩
  exact rdI_some this
theorem rdP_ok {z : Str} {p : Pg} (h : rdP z = some p) : okP p := by
  unfold rdP at h
  split at h
  · split at h
    · split at h
      · cases h
        rename_i c _ hc _ L hL
        refine ⟨rdL_ok hL, ?_⟩
        show (c : Int) - 97 = 0 ∨ (c : Int) - 97 = 1
        omega
      · cases h
    · cases h
  · cases h
theorem sp_eq : (" " : Str) = ⟨#[32]⟩ := by decide +kernel
theorem split_sp (z : Str) : ∀ p ∈ Txt.split z " ", 32 ∉ p.cps.toList := by
  rw [sp_eq]
  exact PySem.StrLaws.split_free z 32
theorem split_sgn {z : Str} {P : Nat → Prop} (h : ∀ c ∈ z.cps.toList, P c) : ∀ p ∈ Txt.split z " ", ∀ c ∈ p.cps.toList, P c := by
  intro p hp c hc
  refine h c ?_
  have e := PySem.StrLaws.join_split z " "
  rw [← e]
  have e2 : Str.join " " (Txt.split z " ") = Txt.join " " (Txt.split z " ") := by
    unfold Txt.join
    rw [StrLaws.glued_eq_join]
  rw [e2, TL.join_eq]
  exact (mem_join _ _ _).mpr (.inl ⟨p, hp, hc⟩)
theorem fit_tok {z : Str} (h : 32 ∉ z.cps.toList) : tokB z = decide (1 ≤ z.length ∧ z.length ≤ 20) := by
  unfold tokB
  rw [decide_eq_true h, Bool.and_true]
  rw [Bool.decide_and]
theorem okC'_of {z : Str} (h : ∀ c ∈ z.cps.toList, c < 128) (e : badW (Txt.split z " ") = none) : okC' (coW (Txt.split z " ")) := by
  obtain ⟨h8, _⟩ := badW_none e
  have at_ : ∀ k, k < 8 → ∃ y, (Txt.split z " ")[k]? = some y ∧ (Txt.split z " ").getD k "" = y ∧ fit k y = true := fun k hk => by
    obtain ⟨y, hy, f⟩ := okW_get (h8 k hk)
    exact ⟨y, hy, by rw [List.getD_eq_getElem?_getD, hy]; rfl, f⟩
  obtain ⟨y1, _, e1, f1⟩ := at_ 1 (by decide)
  obtain ⟨y2, _, e2, f2⟩ := at_ 2 (by decide)
  obtain ⟨y3, _, e3, f3⟩ := at_ 3 (by decide)
  obtain ⟨y5, g5, e5, f5⟩ := at_ 5 (by decide)
  obtain ⟨y7, g7, e7, f7⟩ := at_ 7 (by decide)
  have wd : ∀ {k : Nat} {y : Str}, (Txt.split z " ")[k]? = some y → decide (1 ≤ y.length ∧ y.length ≤ 20) = true → Wd y := fun hy f => by
    have m := List.mem_of_getElem? hy
    exact ⟨by rw [fit_tok (split_sp z _ m)]; exact f, split_sgn h _ m⟩
  unfold coW
  rw [e1, e2, e3, e5, e7]
  refine ⟨?_, ?_, ?_, wd g5 f5, wd g7 f7⟩
  · have f1 : (rdP y1).isSome = true := f1
    cases q : rdP y1 with
    | none => rw [q] at f1; cases f1
    | some p => exact rdP_ok q
  · have f2 : (rdM 11 y2).isSome = true := f2
    cases q : rdM 11 y2 with
    | none => rw [q] at f2; cases f2
    | some p => exact (rdM_some q).2
  · have f3 : (rdM 29 y3).isSome = true := f3
    cases q : rdM 29 y3 with
    | none => rw [q] at f3; cases f3
    | some p => exact (rdM_some q).2
theorem okC'_V {v : V} (h : LnOk v) (e : badL v = none) : okC' (coV v) ∧ ∃ z, v = .str z ∧ badW (Txt.split z " ") = none := by
  rcases h with rfl | rfl | rfl | ⟨z, rfl, _, hc⟩
  · cases e
  · cases e
  · cases e
  · exact ⟨okC'_of hc e, z, rfl, e⟩
/-! ### what is told -/
def shI (i : Nat) : Str := (PyData.int (i : Int)).shown
def same1 (cs : List Co) : Option Nat := cs.findIdx? fun c => decide (c.o = c.n)
def res (xs : List V) : List Str := match firstFrom 0 xs with
  | some (i, p) => ["line", shI i, shI p]
  | none => if 60 < xs.length then ["many", "'correction'"] else match same1 (xs.map coV) with
    | some i => ["same", shI i]
    | none => ["good", (PyData.tuple ((xs.map coV).map dC)).shown]
theorem same1_none {cs : List Co} (h : ∀ c ∈ cs, c.o ≠ c.n) : same1 cs = none := List.findIdx?_eq_none_iff.mpr fun c hc => decide_eq_false (h c hc)
theorem same1_at {cs : List Co} {i : Nat} {c : Co} (h : ∀ j, j < i → ∀ e, cs[j]? = some e → e.o ≠ e.n) (hi : cs[i]? = some c) (e : c.o = c.n) : same1 cs = some i := by
  obtain ⟨hl, rfl⟩ := List.getElem?_eq_some_iff.mp hi
  refine List.findIdx?_eq_some_iff_getElem.mpr ⟨hl, decide_eq_true e, fun j hj => ?_⟩
  have := h j hj _ (List.getElem?_eq_getElem (Nat.lt_trans hj hl))
  simpa using this
theorem same1_some {cs : List Co} {i : Nat} (h : same1 cs = some i) : ∃ c, cs[i]? = some c ∧ c.o = c.n ∧ ∀ j, j < i → ∀ e, cs[j]? = some e → e.o ≠ e.n := by
  obtain ⟨hl, h1, h2⟩ := List.findIdx?_eq_some_iff_getElem.mp h
  refine ⟨_, List.getElem?_eq_getElem hl, of_decide_eq_true h1, fun j hj e he => ?_⟩
  obtain ⟨hl2, rfl⟩ := List.getElem?_eq_some_iff.mp he
  simpa using h2 j hj
theorem same1_none' {cs : List Co} (h : same1 cs = none) : ∀ c ∈ cs, c.o ≠ c.n := fun c hc => by
  have := List.findIdx?_eq_none_iff.mp h c hc
  simpa using this
def kD (c : Co) : PyData := if c.o = c.n then .none else dC c
/-! ### how long words may grow -/
def Wt (ws : List Str) : Nat := (ws.map fun z => z.length + 1).sum
theorem Wt_app (x y : List Str) : Wt (x ++ y) = Wt x + Wt y := by unfold Wt; rw [List.map_append, List.sum_append]
theorem Wt_sub {x y : List Str} (h : x.Sublist y) : Wt x ≤ Wt y := by
  induction h with
  | slnil => exact Nat.le_refl _
  | cons a _ ih => unfold Wt at *; rw [List.map_cons, List.sum_cons]; omega
  | cons_cons a _ ih => unfold Wt at *; rw [List.map_cons, List.map_cons, List.sum_cons, List.sum_cons]; omega
theorem Wt_one (z : Str) : Wt [z] = z.length + 1 := rfl
theorem Wt_mem {ws : List Str} {z : Str} (h : z ∈ ws) : z.length + 1 ≤ Wt ws := Wt_sub (List.singleton_sublist.mpr h)
theorem Wt_len : ∀ ws : List Str, ws.length ≤ Wt ws
  | [] => Nat.le_refl _
  | z :: r => by have := Wt_len r; show r.length + 1 ≤ (z.length + 1) + Wt r; omega
theorem Wt_split (z : Str) : Wt (Txt.split z " ") ≤ z.length + 1 := by
  have h := split_weight z " " (by decide +kernel)
  have : ∀ ws : List Str, Wt ws = (ws.map (·.length)).sum + ws.length := by
    intro ws
    induction ws with
    | nil => rfl
    | cons z r ih => show (z.length + 1) + Wt r = (z.length + (r.map (·.length)).sum) + (r.length + 1); omega
  rw [this]
  exact h
theorem Wt_join : ∀ ws : List Str, (Txt.join " " ws).length ≤ Wt ws
  | [] => by rw [TL.join_eq]; exact Nat.le_refl 0
  | [z] => by rw [join_one]; exact Nat.le_succ _
  | z :: y :: r => by
    have := Wt_join (y :: r)
    rw [join_cc, app_len, app_len]
    have e2 : (" " : Str).length = 1 := by decide +kernel
    show z.length + (" " : Str).length + (Txt.join " " (y :: r)).length ≤ (z.length + 1) + Wt (y :: r)
    omega
theorem join_sgn {ws : List Str} (h : ∀ z ∈ ws, ∀ c ∈ z.cps.toList, c < 128) : ∀ c ∈ (Txt.join " " ws).cps.toList, c < 128 := fun c hc => by
  rw [TL.join_eq] at hc
  rcases (mem_join _ _ _).mp hc with ⟨t, ht, h1⟩ | ⟨_, h1⟩
  · exact h t ht c h1
  · have : TL.tl " " = [32] := by decide +kernel
    have h1 : c ∈ TL.tl " " := h1
    rw [this] at h1
    rw [List.mem_singleton.mp h1]
    decide
theorem cut_sub {α : Type} (ns : List α) (f : α → V) (lo hi : Option Int) : ∃ ms : List α, cutV (ns.map f) lo hi = ms.map f ∧ ms.Sublist ns := by
  unfold cutV
  exact ⟨_, by rw [← List.map_drop, ← List.map_take], (List.take_sublist ..).trans (List.drop_sublist ..)⟩
theorem cutS_sgn {z : Str} {P : Nat → Prop} (h : ∀ c ∈ z.cps.toList, P c) (lo hi : Option Int) : ∀ c ∈ (cutS z lo hi).cps.toList, P c := fun c hc => by
  unfold cutS at hc
  exact h c (List.mem_of_mem_drop (List.mem_of_mem_take (by simpa using hc)))
/-- words as the law spoils them -/
def WsOk (B : Nat) (ws : List Str) : Prop := Wt ws ≤ B ∧ ∀ z ∈ ws, ∀ c ∈ z.cps.toList, c < 128
def oI : Option Int → PyData
  | none => .none
  | some i => .int i
theorem dp_optI {K : PySem.W.Frag} {H : Hp} : ∀ os : List (Option Int), DpAll K H (os.map optI) (os.map oI)
  | [] => .nil
  | none :: r => .cons .non (dp_optI r)
  | some i :: r => .cons (.int i) (dp_optI r)
theorem toO_oI : ∀ {os : List (Option Int)}, (∀ i, some i ∈ os → 0 ≤ i ∧ i ≤ 99) → (os.map oI).map toO = os
  | [], _ => rfl
  | none :: r, h => by
    rw [List.map_cons, List.map_cons, toO_oI fun i hi => h i (List.mem_cons_of_mem _ hi)]
    rfl
  | some i :: r, h => by
    rw [List.map_cons, List.map_cons, toO_oI fun i hi => h i (List.mem_cons_of_mem _ hi)]
    have e : toO (oI (some i)) = some i := if_pos (h i (List.mem_cons_self ..))
    rw [e]
theorem rdM99 (z : Str) : rdM 99 z = rdI z := by
  unfold rdM
  cases e : rdI z with
  | none => rfl
  | some i => exact if_pos (rd_bound e).2
theorem pd_C' {c : Co} (h : okC' c) : Pd 4 (dC c) := ⟨by show 5 ≤ 1000; decide, fun d hd => by
  obtain ⟨hp, hr, hw, ho, hn⟩ := h
  simp only [List.mem_cons, List.not_mem_nil, or_false] at hd
  rcases hd with rfl | rfl | rfl | rfl | rfl
  · exact pd_P hp 0
  · trivial
  · trivial
  · exact ok_tok ho.2
  · exact ok_tok hn.2⟩
def Pe (n : Nat) (d : PyData) : Prop := d = .none ∨ Pd n d
theorem shaped_pel {n : Nat} {ds : List PyData} (h : ∀ d ∈ ds, Pe n d) (hn : n ≤ 60) : SeqAt.shaped (.list ds) = true := by
  have key : (PyData.list ds).canLay0 = true ∧ (PyData.list ds).depth ≤ n + 1 := by
    induction ds with
    | nil => exact ⟨rfl, Nat.succ_le_succ (Nat.zero_le _)⟩
    | cons d r ih =>
      have h1 : d.canLay0 = true ∧ d.depth ≤ n := by
        rcases h d (List.mem_cons_self ..) with rfl | h
        · exact ⟨rfl, Nat.zero_le _⟩
        · exact lay_pd n d h
      have h2 := ih fun e he => h e (List.mem_cons_of_mem _ he)
      refine ⟨?_, ?_⟩
      · show (d.canLay0 && (PyData.list r).canLay0) = true
        rw [h1.1, h2.1]
        rfl
      · have h3 : PyData.depthAll r + 1 ≤ n + 1 := h2.2
        show max d.depth (PyData.depthAll r) + 1 ≤ n + 1
        omega
  unfold SeqAt.shaped
  rw [Bool.and_eq_true]
  exact ⟨key.1, decide_eq_true (by omega)⟩
theorem in_one (z y : Str) : inV (.str z) [.str y] = decide (z = y) := by
  show ((y == z) || false) = _
  rw [Bool.or_false]
  by_cases h : z = y
  · subst h; simp
  · have h' : ¬ y = z := fun e => h e.symm
    simp [h, h']
theorem okW_lit {ws : List Str} {k : Nat} {y : Str} (h : (k = 0 ∧ y = "on") ∨ (k = 4 ∧ y = "for") ∨ (k = 6 ∧ y = "read")) : okW ws k = decide (ws[k]? = some y) := by
  cases e : ws[k]? with
  | none => rw [okW_non e]; exact (decide_eq_false (fun z => nomatch z)).symm
  | some z =>
    rw [okW_of e]
    rcases h with ⟨rfl, rfl⟩ | ⟨rfl, rfl⟩ | ⟨rfl, rfl⟩
    · exact decide_eq_decide.mpr ⟨fun h => congrArg some h, fun h => Option.some.inj h⟩
    · exact decide_eq_decide.mpr ⟨fun h => congrArg some h, fun h => Option.some.inj h⟩
    · exact decide_eq_decide.mpr ⟨fun h => congrArg some h, fun h => Option.some.inj h⟩
theorem okW_no {ws : List Str} {k : Nat} (h : ∀ z, ws[k]? = some z → fit k z = false) : okW ws k = false := by
  cases e : ws[k]? with
  | none => exact okW_non e
  | some z => rw [okW_of e]; exact h z e
theorem getD_of {ws : List Str} {k : Nat} {z : Str} (e : ws[k]? = some z) : ws.getD k "" = z := by rw [List.getD_eq_getElem?_getD, e]; rfl
theorem firstFrom_some : ∀ {xs : List V} {n i p : Nat}, firstFrom n xs = some (i, p) → ∃ k x, i = n + k ∧ xs[k]? = some x ∧ badL x = some p ∧ ∀ j, j < k → ∀ y, xs[j]? = some y → badL y = none
  | [], _, _, _, h => by cases h
  | y :: r, n, i, p, h => by
    have h : (match badL y with | some p => some (n, p) | none => firstFrom (n + 1) r) = some (i, p) := h
    cases e : badL y with
    | some q =>
      rw [e] at h
      cases h
      exact ⟨0, y, rfl, rfl, e, fun j hj => absurd hj (Nat.not_lt_zero j)⟩
    | none =>
      rw [e] at h
      obtain ⟨k, x, rfl, h1, h2, h3⟩ := firstFrom_some h
      refine ⟨k + 1, x, by omega, h1, h2, fun j hj z hz => ?_⟩
      cases j with
      | zero => cases hz; exact e
      | succ j => exact h3 j (by omega) z hz
theorem firstFrom_none' : ∀ {xs : List V} {n : Nat}, firstFrom n xs = none → ∀ x ∈ xs, badL x = none
  | [], _, _ => fun _ h => nomatch h
  | y :: r, n, h => by
    have h : (match badL y with | some p => some (n, p) | none => firstFrom (n + 1) r) = none := h
    cases e : badL y with
    | some q => rw [e] at h; cases h
    | none =>
      rw [e] at h
      intro x hx
      rcases List.mem_cons.mp hx with rfl | hx
      · exact e
      · exact firstFrom_none' h x hx
theorem rdI_bad {z : Str} {c : Nat} (hc : c ∈ z.cps.toList) (h : dg c = false) : rdI z = none := by
  have hd : ¬ (48 ≤ c ∧ c ≤ 57) := of_decide_eq_false h
  unfold rdI
  match e : z.cps.toList with
  | [] => rfl
  | [a] =>
    rw [e] at hc
    rw [List.mem_singleton.mp hc] at hd
    exact if_neg hd
  | [a, b] =>
    refine if_neg (fun h => ?_)
    rw [e] at hc
    rcases List.mem_cons.mp hc with h1 | h1
    · rw [h1] at hd; omega
    · rw [List.mem_singleton.mp h1] at hd; omega
  | a :: b :: c :: r => rfl
theorem rdI_len {z : Str} (h : ¬ (1 ≤ z.length ∧ z.length ≤ 2)) : rdI z = none := by
  have hl : z.length = z.cps.toList.length := rfl
  unfold rdI
  match e : z.cps.toList with
  | [] => rfl
  | [a] => rw [e] at hl; simp only [List.length_cons, List.length_nil] at hl; omega
  | [a, b] => rw [e] at hl; simp only [List.length_cons, List.length_nil] at hl; omega
  | a :: b :: c :: r => rfl
theorem rdM_non {m : Int} {z : Str} (h : rdI z = none) : rdM m z = none := by unfold rdM; rw [h]
/-- one or two figures, the first of two no nought: what they are -/
theorem rdI_int {z : Str} (h1 : 1 ≤ z.length ∧ z.length ≤ 2) (h2 : z.length = 2 → z.cps.toList[0]? ≠ some 48) (h3 : ∀ c ∈ z.cps.toList, dg c = true) : ∃ i, rdI z = some i ∧ PySem.intText? z = some i := by
  have hl : z.length = z.cps.toList.length := rfl
  match e : z.cps.toList with
  | [] => rw [e] at hl; simp only [List.length_nil] at hl; omega
  | a :: b :: c :: r => rw [e] at hl; simp only [List.length_cons] at hl; omega
  | [a] =>
    have ha : 48 ≤ a ∧ a ≤ 57 := of_decide_eq_true (h3 a (by rw [e]; exact List.mem_singleton.mpr rfl))
    refine ⟨_, ?_, by rw [str1 e]; exact int1 ha⟩
    unfold rdI
    rw [e]
    exact if_pos ha
  | [a, b] =>
    have ha : 48 ≤ a ∧ a ≤ 57 := of_decide_eq_true (h3 a (by rw [e]; simp))
    have hb : 48 ≤ b ∧ b ≤ 57 := of_decide_eq_true (h3 b (by rw [e]; simp))
    have n48 : a ≠ 48 := fun z => h2 (by rw [hl, e]; rfl) (by rw [e, z]; rfl)
    refine ⟨_, ?_, by rw [str2 e]; exact int2 ha hb⟩
    unfold rdI
    rw [e]
    exact if_pos (by omega)
theorem rdI_zero {z : Str} (h : z.length = 2) (h0 : z.cps.toList[0]? = some 48) : rdI z = none := by
  have hl : z.length = z.cps.toList.length := rfl
  unfold rdI
  match e : z.cps.toList with
  | [] => rfl
  | [a] => rw [e] at hl; simp only [List.length_cons, List.length_nil] at hl; omega
  | [a, b] =>
    rw [e] at h0
    have : a = 48 := Option.some.inj h0
    exact if_neg (fun h => by omega)
  | a :: b :: c :: r => rfl
def OW1 : List Str := ["", "on", "for", "read", "clear", "0", "1", "11", "12", "29", "30", "00", "07", "+1", "-1", "1a", "7c", "a"]
def OW2 : List Str := ["0a", "7.0a", "7.1b", "7.0.1a", "1.2.3.4a", "100a", "07a", "7.1", "7.a", ".7a", "99.99.99b", "7A"]
def OW3 : List Str := ["On", "1 ", "abcdefghijklmnopqrst", "abcdefghijklmnopqrstu"]
def OW : List Str := (OW1 ++ OW2) ++ OW3
theorem OW_all : (OW.all fun z => decide (z.length ≤ 21) && z.cps.toList.all fun c => decide (c < 128)) = true := by decide +kernel
theorem OW_ok : ∀ z ∈ OW, z.length ≤ 21 ∧ ∀ c ∈ z.cps.toList, c < 128 := fun z hz => by
  have := List.all_eq_true.mp OW_all z hz
  rw [Bool.and_eq_true] at this
  exact ⟨of_decide_eq_true this.1, fun c hc => of_decide_eq_true (List.all_eq_true.mp this.2 c hc)⟩
theorem shI0 : shI 0 = "0" := by decide +kernel
theorem shI8 : shI 8 = "8" := by decide +kernel
theorem shI_ok {i : Nat} (h : i ≤ 200) : (PyData.int (i : Int)).showable = true ∧ (PyData.int (i : Int)).hasDict = false ∧ (PyData.int (i : Int)).depth ≤ 8 ∧ (PyData.int (i : Int)).shown.length ≤ sizeLine := sm_shown (sm_int (i := (i : Int)) (by omega)) (by decide) (by decide)
theorem shI_okN {i : Nat} (h : i ≤ 20000) : (PyData.int (i : Int)).showable = true ∧ (PyData.int (i : Int)).hasDict = false ∧ (PyData.int (i : Int)).depth ≤ 8 ∧ (PyData.int (i : Int)).shown.length ≤ sizeLine := by
  refine ⟨decide_eq_true ?_, rfl, Nat.zero_le _, ?_⟩
  · by_cases z : ((i : Int)).natAbs = 0
    · rw [z]; decide
    · have : ((i : Int)).natAbs.log2 < 15 := (Nat.log2_lt z).mpr (by omega)
      omega
  · have := len_str_of_int (i : Int)
    show (Str.ofString (toString (i : Int))).length ≤ _
    rw [sizeLine_eq]
    omega
theorem badW_le {ws : List Str} {p : Nat} (h : badW ws = some p) : p ≤ 8 := by
  unfold badW at h
  cases e : (List.range 8).find? fun k => !okW ws k with
  | none =>
    rw [e] at h
    have h : (if 8 < ws.length then some 8 else none) = some p := h
    split at h
    · cases h; exact Nat.le_refl 8
    · cases h
  | some k =>
    rw [e] at h
    cases h
    exact Nat.le_of_lt (List.mem_range.mp (List.mem_of_find?_eq_some e))
theorem badL_le {v : V} {p : Nat} (h : badL v = some p) : p ≤ 20000 := by
  unfold badL at h
  split at h
  · have := badW_le h; omega
  · cases h; decide
def bB : Nat → Nat
  | 0 => 80
  | n + 1 => 5 * bB n + 40
theorem sm_line {v : V} (h : LnOk v) : Sm 120002 0 (dV v) := by
  rcases h with rfl | rfl | rfl | ⟨z, rfl, l, a⟩
  · exact ⟨rfl, rfl, Nat.le_refl 0, by decide +kernel⟩
  · exact (sm_int (i := 7) (by decide)).mono (by decide) (by decide)
  · exact ⟨rfl, rfl, Nat.le_refl 0, by decide +kernel⟩
  · exact sm_str l a
theorem sm_listN {B k n : Nat} {ds : List PyData} (hl : ds.length ≤ n) (h : ∀ d ∈ ds, Sm B k d) : Sm (n * B + 2 * n + 3) (k + 1) (.list ds) := by
  obtain ⟨k1, k2, k3, k4, k5⟩ := sm_all h
  refine ⟨k1, k2, Nat.succ_le_succ k3, ?_⟩
  have := listText_len_le (PyData.shownAll ds)
  have hm : ds.length * B ≤ n * B := Nat.mul_le_mul_right _ hl
  show (listText (PyData.shownAll ds)).length ≤ _
  omega
theorem shown_lines {xs : List V} (h : ∀ x ∈ xs, LnOk x) (l : xs.length ≤ 65) : Shown (.list (xs.map dV)) := by
  refine sm_shown (sm_listN (B := 120002) (k := 0) (n := 65) (by rw [List.length_map]; exact l) fun d hd => ?_) (by decide) (by decide)
  obtain ⟨v, hv, rfl⟩ := List.mem_map.mp hd
  exact sm_line (h v hv)
section
variable {P : Program} {w : World} {K : PySem.W.Frag} {mg : Str → Option Value} {base : Heap}
/-! ### the promises -/
theorem nf_self {K : PySem.W.Frag} {C : Addr} : PySem.W.notFirst K C (.ref C) = true := by
  unfold PySem.W.notFirst
  simp
def sp_is_integer (K : PySem.W.Frag) : Sp := fun vs H Q _ => ∃ (v : V) (d : PyData), vs = [v] ∧ Dp K H v d ∧ Q (.bl (isI d)) H
def sp_is_within (K : PySem.W.Frag) : Sp := fun vs H Q _ => ∃ (v : V) (d : PyData) (l m : Int), vs = [v, .int l, .int m] ∧ Dp K H v d ∧ Q (.bl (wI l m d)) H
def sp_is_tuple (K : PySem.W.Frag) : Sp := fun vs H Q _ => ∃ (v : V) (d : PyData), vs = [v] ∧ ((Dp K H v d ∧ ∀ H', Same H H' → Q (.bl (items d).isSome) H') ∨ ∃ a xs, v = .ref a ∧ Seq K H a xs ∧ ∀ H', Same H H' → Q (.bl true) H')
def sz (l m : Int) (d : PyData) : Bool := match items d with
  | some ds => decide (l ≤ (ds.length : Int) ∧ (ds.length : Int) ≤ m)
  | none => false
def sp_is_sized (K : PySem.W.Frag) : Sp := fun vs H Q _ => ∃ (v : V) (d : PyData) (l m : Int), vs = [v, .int l, .int m] ∧ Dp K H v d ∧ ∀ H', Same H H' → Q (.bl (sz l m d)) H'
def sp_source (K : PySem.W.Frag) : Sp := fun vs H Q _ => ∃ (a : Addr) (ns : List Int) (k : Nat), vs = [.ref a, .int k] ∧ SqL K H a (ns.map V.int) ∧ ∀ p H', Same H H' → H p = none → Src H' p → Q (.ref p) H'
def sp_pick (K : PySem.W.Frag) : Sp := fun vs H Q _ => ∃ (a : Addr) (m : Int), vs = [.ref a, .int m] ∧ Src H a ∧ 0 ≤ m ∧ m ≤ 1000000 ∧ ∀ r H', Src H' a → But a H H' → 0 ≤ r → (r < m ∨ r = 0 ∧ m = 0) → Q (.int r) H'
/-- a label handed in as a tuple or a list -/
def IL (K : PySem.W.Frag) (H : Hp) (x : V) (L : List Int) : Prop := ∃ l, x = .ref l ∧ (H l = some (.tup (L.map V.int)) ∨ SqL K H l (L.map V.int))
def TL (H : Hp) (x : V) (L : List Int) : Prop := ∃ l, x = .ref l ∧ H l = some (.tup (L.map V.int))
def IP (K : PySem.W.Frag) (H : Hp) (v : V) (p : Pg) : Prop := ∃ a u, v = .ref a ∧ Seq K H a [u, .int p.2] ∧ IL K H u p.1
theorem ip_tp {K : PySem.W.Frag} {H : Hp} {v : V} {p : Pg} (h : Tp H v (dP p)) : IP K H v p := by
  obtain ⟨a, l, rfl, h1, h2⟩ := pg_inv h
  exact ⟨a, _, rfl, .inr (.inl (.inl h1)), l, rfl, .inl h2⟩
def sp_kept_page (K : PySem.W.Frag) : Sp := fun vs H Q _ => ∃ (v : V) (p : Pg), vs = [v] ∧ IP K H v p ∧ okP p ∧ ∀ y H', Same H H' → Tp H' y (dP p) → Q y H'
def sp_label_word (K : PySem.W.Frag) : Sp := fun vs H Q _ => ∃ (a : Addr) (L : List Int), vs = [.ref a] ∧ SqT K H a (L.map V.int) ∧ okL L ∧ ∀ H', Same H H' → Q (.str (fL L)) H'
def sp_page_word (K : PySem.W.Frag) : Sp := fun vs H Q _ => ∃ (v : V) (p : Pg), vs = [v] ∧ Dp K H v (dP p) ∧ okP p ∧ ∀ H', Same H H' → Q (.str (fP p)) H'
/-- listed corrections -/
def ErAt (C : Addr) (H : Hp) (v : V) (cs : List Co) : Prop := ∃ (x dx a : Addr) (t : V) (us : List V), v = .ref x ∧ H x = some (.ins C dx [("corrections", .ref a), ("_turns", t)]) ∧ H a = some (.tup us) ∧ TpAll H us (cs.map dC)
theorem ErAt.nl {C : Addr} {H H' : Hp} {v : V} {cs : List Co} (m : NL H H') (h : ErAt C H v cs) : ErAt C H' v cs := by
  obtain ⟨x, dx, a, t, us, e, h1, h2, h3⟩ := h
  exact ⟨x, dx, a, t, us, e, m _ _ h1 (fun _ z => nomatch z), m _ _ h2 (fun _ z => nomatch z), h3.nl m⟩
def CsAt (H : Hp) (us : List V) (cs : List Co) : Prop := TpAll H us (cs.map dC) ∧ (∀ c ∈ cs, okC c) ∧ cs.length ≤ 60
def sp_token (K : PySem.W.Frag) : Sp := fun vs H Q _ => ∃ (a : Addr) (m : Int), vs = [.ref a, .int m] ∧ Src H a ∧ 1 ≤ m ∧ m ≤ 20 ∧ ∀ z H', Src H' a → But a H H' → Wd z → Q (.str z) H'
def sp_other (K : PySem.W.Frag) : Sp := fun vs H Q _ => ∃ z : Str, vs = [.str z] ∧ Wd z ∧ ∀ y : Str, Wd y → z ≠ y → Q (.str y) H
def sp_label (K : PySem.W.Frag) : Sp := fun vs H Q _ => ∃ a : Addr, vs = [.ref a] ∧ Src H a ∧ ∀ p (L : List Int) H', Src H' a → But a H H' → H' p = some (.tup (L.map V.int)) → okL L → Q (.ref p) H'
def sp_is_token (K : PySem.W.Frag) : Sp := fun vs H Q _ => ∃ z : Str, vs = [.str z] ∧ z.length ≤ 20000 ∧ Q (.bl (tokB z)) H
/-- kept: a good label, or what was read for one -/
def sp_kept_label (K : PySem.W.Frag) : Sp := fun vs H Q _ => ∃ x : V, vs = [x] ∧ ((∃ L : List Int, IL K H x L ∧ okL L ∧ ∀ y H', Same H H' → TL H' y L → Q y H') ∨
  (∃ (l : Addr) (os : List (Option Int)), x = .ref l ∧ H l = some (.lst (os.map optI)) ∧ (∀ i, some i ∈ os → 0 ≤ i ∧ i ≤ 99) ∧ os.length ≤ 20000 ∧ (keep os = none → ∀ H', Same H H' → Q .non H') ∧ (∀ L, keep os = some L → ∀ y H', Same H H' → TL H' y L → Q y H')))
def sp_read_integer (K : PySem.W.Frag) : Sp := fun vs H Q _ => ∃ (z : Str) (m : Int), vs = [.str z, .int 0, .int m] ∧ (m = 99 ∨ m = 29 ∨ m = 11) ∧ z.length ≤ 20000 ∧ ∀ H', Same H H' → Q (optI (rdM m z)) H'
def sp_read_label (K : PySem.W.Frag) : Sp := fun vs H Q _ => ∃ z : Str, vs = [.str z] ∧ z.length ≤ 19000 ∧ (rdL z = none → ∀ H', Same H H' → Q .non H') ∧ (∀ L, rdL z = some L → ∀ y H', Same H H' → TL H' y L → Q y H')
def sp_read_page (K : PySem.W.Frag) : Sp := fun vs H Q _ => ∃ z : Str, vs = [.str z] ∧ z.length ≤ 18000 ∧ (rdP z = none → ∀ H', Same H H' → Q .non H') ∧ (∀ p, rdP z = some p → ∀ y H', Same H H' → Tp H' y (dP p) → Q y H')
def sp_law_read_label (K : PySem.W.Frag) : Sp := sp_read_label K
def sp_law_read_page (K : PySem.W.Frag) : Sp := sp_read_page K
/-- a cursor: its words, its line, and where it stands -/
def CuL (C : Addr) (H : Hp) (x : Addr) (ws : List Str) (n : Nat) (l : Int) : Prop := ∃ dx a : Addr, H x = some (.ins C dx [("words", .ref a), ("line", .int l), ("at", .int (n : Int))]) ∧ H a = some (.lst (ws.map V.str)) ∧ a ≠ x
theorem CuL.same {C : Addr} {H H' : Hp} {x : Addr} {ws : List Str} {n : Nat} {l : Int} (s : Same H H') (h : CuL C H x ws n l) : CuL C H' x ws n l := by
  obtain ⟨dx, a, h1, h2, h3⟩ := h
  exact ⟨dx, a, s _ _ h1, s _ _ h2, h3⟩
/-- what the error of a line holds -/
def XB (H : Hp) (dd : Addr) (l p : Int) : Prop := H dd = some (.xd [("word", .int p), ("line", .int l)])
def sp_BadLine_init (K : PySem.W.Frag) (C : Addr) : Sp := fun vs H Q _ => ∃ (a : Addr) (v w : V), vs = [.ref a, v, w] ∧ OexC K C ∧ PySem.W.findIn K (.ref C) "line" = some none ∧ PySem.W.findIn K (.ref C) "word" = some none ∧ H a = some (exo a C none) ∧ ∀ dx H', H dx = none → dx ≠ a → H' a = some (exo a C (some dx)) → H' dx = some (exd dx [("word", w), ("line", v)]) → (∀ b, b ≠ a → b ≠ dx → H' b = H b) → Q .non H'
def sp_TooMany_init (K : PySem.W.Frag) (C : Addr) : Sp := fun vs H Q _ => ∃ (a : Addr) (v : V), vs = [.ref a, v] ∧ OexC K C ∧ PySem.W.findIn K (.ref C) "word" = some none ∧ H a = some (exo a C none) ∧ ∀ dx, H dx = none → dx ≠ a → Q .non (upd (upd H dx (exd dx [("word", v)])) a (exo a C (some dx)))
def sp_BadCorrection_init (K : PySem.W.Frag) (C : Addr) : Sp := fun vs H Q _ => ∃ (a : Addr) (v : V), vs = [.ref a, v] ∧ OexC K C ∧ PySem.W.findIn K (.ref C) "place" = some none ∧ H a = some (exo a C none) ∧ ∀ dx, H dx = none → dx ≠ a → Q .non (upd (upd H dx (exd dx [("place", v)])) a (exo a C (some dx)))
def sp_line_words (K : PySem.W.Frag) (CB : Addr) : Sp := fun vs H Q E => ∃ (v : V) (k : Int), vs = [v, .int k] ∧ LnOk v ∧ ((∀ z, v ≠ .str z) → ∀ H' dd, Same H H' → XB H' dd k 0 → E (.ref CB) (some dd) H') ∧ (∀ z, v = .str z → ∀ p H', Same H H' → H p = none → H' p = some (.lst ((Txt.split z " ").map V.str)) → Q (.ref p) H')
def sp_Cursor_init (K : PySem.W.Frag) (C : Addr) : Sp := fun vs H Q _ => ∃ (x dx a : Addr) (k : Int) (ws : List Str), vs = [.ref x, .ref a, .int k, .int 0] ∧ H x = some (.ins C dx []) ∧ H a = some (.lst (ws.map V.str)) ∧ a ≠ x ∧ ∀ H', CuL C H' x ws 0 k → But x H H' → Q .non H'
def sp_Cursor_more (K : PySem.W.Frag) (C : Addr) : Sp := fun vs H Q _ => ∃ (x : Addr) (ws : List Str) (n : Nat) (l : Int), vs = [.ref x] ∧ CuL C H x ws n l ∧ Q (.bl (decide (n < ws.length))) H
def sp_Cursor_look (K : PySem.W.Frag) (C CB : Addr) : Sp := fun vs H Q E => ∃ (x : Addr) (ws : List Str) (n : Nat) (l : Int), vs = [.ref x] ∧ CuL C H x ws n l ∧ (ws[n]? = none → ∀ H' dd, Same H H' → XB H' dd l n → E (.ref CB) (some dd) H') ∧ (∀ z, ws[n]? = some z → Q (.str z) H)
def sp_Cursor_take (K : PySem.W.Frag) (C CB : Addr) : Sp := fun vs H Q E => ∃ (x : Addr) (v : V) (ws : List Str) (n : Nat) (l : Int), vs = [.ref x, v] ∧ CuL C H x ws n l ∧ (v = .non → ∀ H' dd, Same H H' → XB H' dd l n → E (.ref CB) (some dd) H') ∧ (v ≠ .non → ∀ H', CuL C H' x ws (n + 1) l → But x H H' → Q v H')
def sp_Cursor_take_one (K : PySem.W.Frag) (C CB : Addr) : Sp := fun vs H Q E => ∃ (x b : Addr) (ws : List Str) (n : Nat) (l : Int) (z0 : Str), vs = [.ref x, .ref b] ∧ CuL C H x ws n l ∧ SqT K H b [.str z0] ∧ (ws[n]? ≠ some z0 → ∀ H' dd, Same H H' → XB H' dd l n → E (.ref CB) (some dd) H') ∧ (ws[n]? = some z0 → ∀ H', CuL C H' x ws (n + 1) l → But x H H' → Q (.str z0) H')
def sp_Cursor_take_integer (K : PySem.W.Frag) (C CB : Addr) : Sp := fun vs H Q E => ∃ (x : Addr) (m : Int) (ws : List Str) (n : Nat) (l : Int), vs = [.ref x, .int 0, .int m] ∧ (m = 29 ∨ m = 11) ∧ CuL C H x ws n l ∧ (∀ z ∈ ws, z.length ≤ 18000) ∧ ((∀ z, ws[n]? = some z → rdM m z = none) → ∀ H' dd, Same H H' → XB H' dd l n → E (.ref CB) (some dd) H') ∧ (∀ z i, ws[n]? = some z → rdM m z = some i → ∀ H', CuL C H' x ws (n + 1) l → But x H H' → Q (.int i) H')
def sp_Cursor_take_end (K : PySem.W.Frag) (C CB : Addr) : Sp := fun vs H Q E => ∃ (x : Addr) (ws : List Str) (n : Nat) (l : Int), vs = [.ref x] ∧ CuL C H x ws n l ∧ (n < ws.length → ∀ H' dd, Same H H' → XB H' dd l n → E (.ref CB) (some dd) H') ∧ (¬ n < ws.length → Q .non H)
def sp_take_token (K : PySem.W.Frag) (C CB : Addr) : Sp := fun vs H Q E => ∃ (x : Addr) (ws : List Str) (n : Nat) (l : Int), vs = [.ref x] ∧ CuL C H x ws n l ∧ (∀ z ∈ ws, z.length ≤ 18000) ∧ ((∀ z, ws[n]? = some z → tokB z = false) → ∀ H' dd, Same H H' → XB H' dd l n → E (.ref CB) (some dd) H') ∧ (∀ z, ws[n]? = some z → tokB z = true → ∀ H', CuL C H' x ws (n + 1) l → But x H H' → Q (.str z) H')
def sp_read_correction (K : PySem.W.Frag) (C CB : Addr) : Sp := fun vs H Q E => ∃ (x : Addr) (ws : List Str) (l : Int), vs = [.ref x] ∧ CuL C H x ws 0 l ∧ (∀ z ∈ ws, z.length ≤ 18000 ∧ 32 ∉ z.cps.toList) ∧ (∀ p : Nat, badW ws = some p → ∀ H' dd, But x H H' → XB H' dd l p → E (.ref CB) (some dd) H') ∧ (badW ws = none → ∀ y H', But x H H' → Tp H' y (dC (coW ws)) → Q y H')
def CsAt' (H : Hp) (us : List V) (cs : List Co) : Prop := TpAll H us (cs.map dC) ∧ (∀ c ∈ cs, okC' c) ∧ cs.length ≤ 5000
def sp_kept_correction (K : PySem.W.Frag) : Sp := fun vs H Q _ => ∃ (v : V) (c : Co), vs = [v] ∧ Tp H v (dC c) ∧ okC' c ∧ ∀ y H', Same H H' → Tp H' y (kD c) → Q y H'
def sp_judged_corrections (K : PySem.W.Frag) (CT CC : Addr) : Sp := fun vs H Q E => ∃ (a : Addr) (us : List V) (cs : List Co), vs = [.ref a] ∧ H a = some (.lst us) ∧ CsAt' H us cs ∧
  (60 < cs.length → ∀ H' dd, Same H H' → H' dd = some (.xd [("word", .str "correction")]) → E (.ref CT) (some dd) H') ∧
  (cs.length ≤ 60 → (∀ i : Nat, same1 cs = some i → ∀ H' dd, Same H H' → H' dd = some (.xd [("place", .int i)]) → E (.ref CC) (some dd) H') ∧ (same1 cs = none → ∀ p us' H', Same H H' → H' p = some (.tup us') → TpAll H' us' (cs.map dC) → Q (.ref p) H'))
def sp_turns_at_places (K : PySem.W.Frag) : Sp := fun vs H Q _ => ∃ (a : Addr) (us : List V) (cs : List Co), vs = [.ref a] ∧ H a = some (.tup us) ∧ CsAt H us cs ∧ ∀ t H', Same H H' → Q (.ref t) H'
def sp_Errata_init (K : PySem.W.Frag) (C CT CC : Addr) : Sp := fun vs H Q E => ∃ (x dx a : Addr) (us : List V) (cs : List Co), vs = [.ref x, .ref a] ∧ H x = some (.ins C dx []) ∧ H a = some (.lst us) ∧ CsAt' H us cs ∧
  (60 < cs.length → ∀ H' dd, But x H H' → H' dd = some (.xd [("word", .str "correction")]) → E (.ref CT) (some dd) H') ∧
  (cs.length ≤ 60 → (∀ i : Nat, same1 cs = some i → ∀ H' dd, But x H H' → H' dd = some (.xd [("place", .int i)]) → E (.ref CC) (some dd) H') ∧ (same1 cs = none → ∀ H', ErAt C H' (.ref x) cs → But x H H' → Q .non H'))
def sp_read_errata (K : PySem.W.Frag) (C CB CT CC : Addr) : Sp := fun vs H Q E => ∃ (a : Addr) (xs : List V), vs = [.ref a] ∧ Seq K H a xs ∧ (∀ x ∈ xs, LnOk x) ∧ xs.length ≤ 5000 ∧
  (∀ i p : Nat, firstFrom 0 xs = some (i, p) → ∀ H' dd, Same H H' → XB H' dd i p → E (.ref CB) (some dd) H') ∧
  (firstFrom 0 xs = none → (60 < xs.length → ∀ H' dd, Same H H' → H' dd = some (.xd [("word", .str "correction")]) → E (.ref CT) (some dd) H') ∧
    (xs.length ≤ 60 → (∀ i : Nat, same1 (xs.map coV) = some i → ∀ H' dd, Same H H' → H' dd = some (.xd [("place", .int i)]) → E (.ref CC) (some dd) H') ∧ (same1 (xs.map coV) = none → ∀ v H', Same H H' → ErAt C H' v (xs.map coV) → Q v H')))
def sp_line (K : PySem.W.Frag) : Sp := fun vs H Q _ => ∃ a : Addr, vs = [.ref a] ∧ Src H a ∧ ∀ (z : Str) H', Src H' a → But a H H' → z.length ≤ 80 → (∀ c ∈ z.cps.toList, c < 128) → Q (.str z) H'
def sp_odd_word (K : PySem.W.Frag) : Sp := fun vs H Q _ => ∃ a : Addr, vs = [.ref a] ∧ Src H a ∧ ∀ (z : Str) H', Src H' a → But a H H' → z.length ≤ 21 → (∀ c ∈ z.cps.toList, c < 128) → Q (.str z) H'
def sp_spoilt_words (K : PySem.W.Frag) : Sp := fun vs H Q _ => ∃ (a b : Addr) (ws : List Str) (B : Nat), vs = [.ref a, .ref b] ∧ Src H a ∧ b ≠ a ∧ H b = some (.lst (ws.map V.str)) ∧ ws ≠ [] ∧ B ≤ 12000 ∧ WsOk B ws ∧ ∀ (p : Addr) (zs : List Str) H', Src H' a → But a H H' → H' p = some (.lst (zs.map V.str)) → p ≠ a → WsOk (5 * B + 30) zs → Q (.ref p) H'
/-- lines of so many signs at most -/
def LsOk (B : Nat) (xs : List V) : Prop := ∀ x ∈ xs, x = .non ∨ x = .int 7 ∨ x = .bl true ∨ ∃ z : Str, x = .str z ∧ z.length ≤ B ∧ ∀ c ∈ z.cps.toList, c < 128
def sp_spoilt (K : PySem.W.Frag) : Sp := fun vs H Q _ => ∃ (a b : Addr) (xs : List V) (B : Nat), vs = [.ref a, .ref b] ∧ Src H a ∧ b ≠ a ∧ H b = some (.lst xs) ∧ xs ≠ [] ∧ xs.length ≤ 600 ∧ B ≤ 2400 ∧ LsOk B xs ∧ ∀ (p : Addr) (ys : List V) H', Src H' a → But a H H' → H' p = some (.lst ys) → p ≠ a → ys.length ≤ xs.length + 1 → LsOk (5 * B + 40) ys → Q (.ref p) H'
def sp_number (K : PySem.W.Frag) : Sp := fun vs H Q _ => ∃ (z : Str) (m : Int), vs = [.str z, .int m] ∧ z.length ≤ 18000 ∧ Q (optI (rdM m z)) H
def sp_fits (K : PySem.W.Frag) : Sp := fun vs H Q _ => ∃ (k : Nat) (z : Str), vs = [.int k, .str z] ∧ k < 8 ∧ z.length ≤ 18000 ∧ ∀ H', Same H H' → Q (.bl (fit k z)) H'
def sp_due (K : PySem.W.Frag) : Sp := fun vs H Q _ => ∃ (a : Addr) (xs : List V), vs = [.ref a] ∧ H a = some (.lst xs) ∧ (∀ x ∈ xs, LnOk x) ∧ xs.length ≤ 5000 ∧ ∀ p H', Same H H' → H' p = some (.lst ((res xs).map V.str)) → Q (.ref p) H'
def sp_told (K : PySem.W.Frag) : Sp := fun vs H Q _ => ∃ (a : Addr) (xs : List V), vs = [.ref a] ∧ Seq K H a xs ∧ (∀ x ∈ xs, LnOk x) ∧ xs.length ≤ 5000 ∧ ∀ p H', Same H H' → H' p = some (.lst ((res xs).map V.str)) → Q (.ref p) H'
def sp_law (K : PySem.W.Frag) : Sp := fun vs H Q _ => ∃ (a : Addr) (ns : List Int), vs = [.ref a] ∧ SqL K H a (ns.map V.int) ∧ ns.length ≤ 63 ∧ ∀ H', Q (.bl true) H'
theorem bl_made {H1 H' : Hp} {a dx : Addr} {o u : HO} (na : H1 a = none) (n1 : upd H1 a o dx = none) (n2 : dx ≠ a) (ho : ∀ b, b ≠ a → b ≠ dx → H' b = upd H1 a o b) : H1 dx = none ∧ Same H1 (upd (del H' a) dx u) := by
  rw [upd_ne n2] at n1
  refine ⟨n1, fun b v e => ?_⟩
  have c1 : b ≠ a := fun z => by rw [z, na] at e; cases e
  have c2 : b ≠ dx := fun z => by rw [z, n1] at e; cases e
  rw [upd_ne c2, del_ne c1, ho b c1 c2, upd_ne c1]
  exact e
theorem mk_bl {K : PySem.W.Frag} {CB : Addr} {l p : Int} {H1 : Hp} {Q : XK} {E' : XK} (o : OexC K CB) (f1 : PySem.W.findIn K (.ref CB) "line" = some none) (f2 : PySem.W.findIn K (.ref CB) "word" = some none)
    (h : ∀ H' dd, Same H1 H' → XB H' dd l p → Q (.ref CB) (some dd) H') {a : Addr} (na : H1 a = none) :
    sp_BadLine_init K CB [.ref a, .int l, .int p] (upd H1 a (exo a CB none)) (fun v H2 => v = .non ∧ ∃ (d : Addr) (fs : List (Str × V)), H2 a = some (exo a CB (some d)) ∧ H2 d = some (exd d fs) ∧ H1 d = none ∧ Q (.ref CB) (some d) (upd (del H2 a) d (.xd fs))) E' :=
  ⟨a, _, _, rfl, o, f1, f2, upd_same, fun dx H' n1 n2 ha hd ho => by
    obtain ⟨k1, k2⟩ := bl_made (u := .xd [("word", .int p), ("line", .int l)]) na n1 n2 ho
    exact ⟨rfl, dx, _, ha, hd, k1, h _ dx k2 upd_same⟩⟩
theorem same_made {H0 H1 : Hp} {a dx C : Addr} {f : Str} {v : V} (s : Same H0 H1) (na : H1 a = none) (nd : upd H1 a (exo a C none) dx = none) (ne : dx ≠ a) :
    Same H0 (upd (del (upd (upd (upd H1 a (exo a C none)) dx (exd dx [(f, v)])) a (exo a C (some dx))) a) dx (.xd [(f, v)])) := fun b o e => by
  have e1 := s b o e
  have nd1 : H1 dx = none := by rw [upd_ne ne] at nd; exact nd
  have ba : b ≠ a := ne_of_none e1 na
  have bd : b ≠ dx := ne_of_none e1 nd1
  rw [upd_ne bd, del_ne ba, upd_ne ba, upd_ne bd, upd_ne ba]
  exact e1
/-- a list of words -/
def WL (H : Hp) (p : Addr) (B : Nat) : Prop := ∃ zs : List Str, H p = some (.lst (zs.map V.str)) ∧ WsOk B zs
theorem WL.same {H H' : Hp} {p : Addr} {B : Nat} (h : WL H p B) (s : Same H H') : WL H' p B := by
  obtain ⟨zs, e, k⟩ := h
  exact ⟨zs, s _ _ e, k⟩
theorem WL.but {H H' : Hp} {a p : Addr} {B : Nat} (h : WL H p B) (n : p ≠ a) (b : But a H H') : WL H' p B := by
  obtain ⟨zs, e, k⟩ := h
  exact ⟨zs, b _ _ n e, k⟩
theorem cutW {K : PySem.W.Frag} {H : Hp} {b : Addr} {B : Nat} {lo hi : Option Int} {Q : V → Hp → Prop} (h : WL H b B) (k : ∀ p H', Same H H' → H p = none → WL H' p B → Q (.ref p) H') : rSlL K (.ref b) lo hi H Q := by
  obtain ⟨ws, hb, o1, o2⟩ := h
  obtain ⟨ms, em, sub⟩ := cut_sub ws V.str lo hi
  refine ⟨b, _, rfl, .inl (.inl hb), fun p np => ?_⟩
  rw [em]
  exact k p _ (same_upd np) np ⟨ms, upd_same, Nat.le_trans (Wt_sub sub) o1, fun z hz => o2 z (sub.subset hz)⟩
theorem catW {H : Hp} {p q : Addr} {B C : Nat} {Q : V → Hp → Prop} (h : WL H p B) (g : WL H q C) (l : B + C ≤ 100000) (k : ∀ r H', Same H H' → H r = none → WL H' r (B + C) → Q (.ref r) H') : rCat (.ref p) (.ref q) H Q := by
  obtain ⟨xs, hp, x1, x2⟩ := h
  obtain ⟨ys, hq, y1, y2⟩ := g
  have lx := Wt_len xs
  have ly := Wt_len ys
  refine ⟨p, q, _, _, rfl, rfl, hp, hq, by rw [List.length_map, List.length_map, sizeLine_eq]; omega, fun r nr => ?_⟩
  rw [← List.map_append]
  refine k r _ (same_upd nr) nr ⟨xs ++ ys, upd_same, by rw [Wt_app]; omega, fun z hz => ?_⟩
  rcases List.mem_append.mp hz with h | h
  · exact x2 z h
  · exact y2 z h
/-- a list of lines -/
def VL (H : Hp) (p : Addr) (n B : Nat) : Prop := ∃ xs : List V, H p = some (.lst xs) ∧ xs.length ≤ n ∧ LsOk B xs
theorem VL.same {H H' : Hp} {p : Addr} {n B : Nat} (h : VL H p n B) (s : Same H H') : VL H' p n B := by
  obtain ⟨zs, e, k⟩ := h
  exact ⟨zs, s _ _ e, k⟩
theorem VL.but {H H' : Hp} {a p : Addr} {n B : Nat} (h : VL H p n B) (m : p ≠ a) (b : But a H H') : VL H' p n B := by
  obtain ⟨zs, e, k⟩ := h
  exact ⟨zs, b _ _ m e, k⟩
theorem cutL {K : PySem.W.Frag} {H : Hp} {b : Addr} {n B : Nat} {lo hi : Option Int} {Q : V → Hp → Prop} (h : VL H b n B) (k : ∀ p H', Same H H' → H p = none → VL H' p n B → Q (.ref p) H') : rSlL K (.ref b) lo hi H Q := by
  obtain ⟨xs, hb, o1, o2⟩ := h
  obtain ⟨ms, em, sub⟩ := cut_sub xs id lo hi
  rw [List.map_id, List.map_id] at em
  refine ⟨b, _, rfl, .inl (.inl hb), fun p np => ?_⟩
  rw [em]
  exact k p _ (same_upd np) np ⟨ms, upd_same, Nat.le_trans sub.length_le o1, fun z hz => o2 z (sub.subset hz)⟩
theorem catL {H : Hp} {p q : Addr} {m n B C : Nat} {Q : V → Hp → Prop} (h : VL H p m B) (g : VL H q n C) (l : m + n ≤ 100000) (le : C ≤ B) (k : ∀ r H', Same H H' → H r = none → VL H' r (m + n) B → Q (.ref r) H') : rCat (.ref p) (.ref q) H Q := by
  obtain ⟨xs, hp, x1, x2⟩ := h
  obtain ⟨ys, hq, y1, y2⟩ := g
  refine ⟨p, q, _, _, rfl, rfl, hp, hq, by rw [sizeLine_eq]; omega, fun r nr => ?_⟩
  refine k r _ (same_upd nr) nr ⟨xs ++ ys, upd_same, by rw [List.length_append]; omega, fun z hz => ?_⟩
  rcases List.mem_append.mp hz with h | h
  · exact x2 z h
  · rcases y2 z h with h | h | h | ⟨z, h, l, a⟩
    · exact .inl h
    · exact .inr (.inl h)
    · exact .inr (.inr (.inl h))
    · exact .inr (.inr (.inr ⟨z, h, Nat.le_trans l le, a⟩))
theorem noPart {σ : L2.St} {H : Hp} {Q : Option Int → Hp → Prop} (h : Q none H) : tNoPart σ H Q := h
theorem WL.new {H : Hp} {p : Addr} {z : Str} {C : Nat} (_ : H p = none) (k : WsOk C [z]) : WL (upd H p (.lst [.str z])) p C := ⟨[z], upd_same, k⟩
theorem VL.new {H : Hp} {p : Addr} {v : V} {B : Nat} (_ : H p = none) (k : LsOk B [v]) : VL (upd H p (.lst [v])) p 1 B := ⟨[v], upd_same, Nat.le_refl _, k⟩
def OD : List V := [.str "", .str " ", .non, .int 7, .bl true]
theorem OD_ok : LsOk 1 OD := fun x hx => by
  simp only [OD, List.mem_cons, List.not_mem_nil, or_false] at hx
  rcases hx with rfl | rfl | rfl | rfl | rfl
  · exact .inr (.inr (.inr ⟨_, rfl, by decide +kernel, by decide +kernel⟩))
  · exact .inr (.inr (.inr ⟨_, rfl, by decide +kernel, by decide +kernel⟩))
  · exact .inl rfl
  · exact .inr (.inl rfl)
  · exact .inr (.inr (.inl rfl))
theorem cutLany {K : PySem.W.Frag} {H : Hp} {b : Addr} {n m B : Nat} {lo hi : Option Int} {Q : V → Hp → Prop} (h : VL H b n B) (hm : ∀ xs : List V, xs.length ≤ n → (cutV xs lo hi).length ≤ m) (k : ∀ p H', Same H H' → H p = none → VL H' p m B → Q (.ref p) H') : rSlL K (.ref b) lo hi H Q := by
  obtain ⟨xs, hb, o1, o2⟩ := h
  obtain ⟨ms, em, sub⟩ := cut_sub xs id lo hi
  rw [List.map_id, List.map_id] at em
  have := hm xs o1
  rw [em] at this
  refine ⟨b, _, rfl, .inl (.inl hb), fun p np => ?_⟩
  rw [em]
  exact k p _ (same_upd np) np ⟨ms, upd_same, this, fun z hz => o2 z (sub.subset hz)⟩
theorem cutLto {K : PySem.W.Frag} {H : Hp} {b : Addr} {n B : Nat} {i : Int} {Q : V → Hp → Prop} (i0 : 0 ≤ i) (h : VL H b n B) (k : ∀ p H', Same H H' → H p = none → VL H' p i.toNat B → Q (.ref p) H') : rSlL K (.ref b) none (some i) H Q := by
  refine cutLany h (fun xs l => ?_) k
  obtain ⟨j, rfl⟩ := Int.eq_ofNat_of_zero_le i0
  rw [cutV_to, List.length_take]
  omega
theorem cutLfrom {K : PySem.W.Frag} {H : Hp} {b : Addr} {n B : Nat} {i : Int} {Q : V → Hp → Prop} (i0 : 0 ≤ i) (h : VL H b n B) (k : ∀ p H', Same H H' → H p = none → VL H' p (n - i.toNat) B → Q (.ref p) H') : rSlL K (.ref b) (some i) none H Q := by
  refine cutLany h (fun xs l => ?_) k
  obtain ⟨j, rfl⟩ := Int.eq_ofNat_of_zero_le i0
  rw [cutV_from, List.length_drop]
  omega
theorem cutLmid {K : PySem.W.Frag} {H : Hp} {b : Addr} {n B : Nat} {i i2 : Int} {Q : V → Hp → Prop} (i0 : 0 ≤ i) (i1 : 0 ≤ i2) (h : VL H b n B) (k : ∀ p H', Same H H' → H p = none → VL H' p (i2.toNat - i.toNat) B → Q (.ref p) H') : rSlL K (.ref b) (some i) (some i2) H Q := by
  refine cutLany h (fun xs l => ?_) k
  obtain ⟨j, rfl⟩ := Int.eq_ofNat_of_zero_le i0
  obtain ⟨j2, rfl⟩ := Int.eq_ofNat_of_zero_le i1
  unfold cutV
  rw [HT.sIx_nat, HT.sIx_nat, List.length_take, List.length_drop]
  omega
theorem ok_BadLine_init (T : Tab K mg) : FnOk P w K mg base CX0 1 T.f_BadLine_init T.d_BadLine_init ["self", "line", "word"] (sp_BadLine_init K T.C_BadLine) := by
  refine T.F_BadLine_init.ok sc_BadLine_init (fun vs H Q E h => ?_) (fun cdv A outer s H vs Q E hr h => ?_)
  · obtain ⟨a, v, w, rfl, _⟩ := h
    rfl
  · obtain ⟨a, v, w, rfl, hO, hN, hN2, ha, q⟩ := h
    refine ⟨_, (pss_cons (ps_ost (pv 0) (pv 1))
      (pss_one (ps_ost (pv 0) (pv 2)))), ?_⟩
    refine ⟨_, rfl, _, rfl, a, _, rfl, hO, hN, .inl ⟨ha, fun dx h1 h2 => ?_⟩⟩
    refine ⟨_, rfl, _, rfl, a, _, rfl, hO, hN2, .inr ⟨dx, [("line", v)], upd_same, by rw [upd_ne h2]; exact upd_same, by show 1 ≤ 900; decide, ?_⟩⟩
    refine q dx _ h1 h2 (by rw [upd_ne h2.symm]; exact upd_same) upd_same fun b b1 b2 => ?_
    rw [upd_ne b2, upd_ne b1, upd_ne b2]
theorem ok_BadCorrection_init (T : Tab K mg) : FnOk P w K mg base CX0 1 T.f_BadCorrection_init T.d_BadCorrection_init ["self", "place"] (sp_BadCorrection_init K T.C_BadCorrection) := by
  refine T.F_BadCorrection_init.ok sc_BadCorrection_init (fun vs H Q E h => ?_) (fun cdv A outer s H vs Q E hr h => ?_)
  · obtain ⟨a, v, rfl, _⟩ := h
    rfl
  · obtain ⟨a, v, rfl, hO, hN, ha, q⟩ := h
    refine ⟨_, (pss_one (ps_ost (pv 0) (pv 1))), ?_⟩
    exact ⟨_, rfl, _, rfl, a, _, rfl, hO, hN, .inl ⟨ha, fun dx h1 h2 => q dx h1 h2⟩⟩
theorem ok_TooMany_init (T : Tab K mg) : FnOk P w K mg base CX0 1 T.f_TooMany_init T.d_TooMany_init ["self", "word"] (sp_TooMany_init K T.C_TooMany) := by
  refine T.F_TooMany_init.ok sc_TooMany_init (fun vs H Q E h => ?_) (fun cdv A outer s H vs Q E hr h => ?_)
  · obtain ⟨a, v, rfl, _⟩ := h
    rfl
  · obtain ⟨a, v, rfl, hO, hN, ha, q⟩ := h
    refine ⟨_, (pss_one (ps_ost (pv 0) (pv 1))), ?_⟩
    exact ⟨_, rfl, _, rfl, a, _, rfl, hO, hN, .inl ⟨ha, fun dx h1 h2 => q dx h1 h2⟩⟩
theorem ok_is_integer (T : Tab K mg) : FnOk P w K mg base CX0 1 T.f_is_integer T.d_is_integer ["thing"] (sp_is_integer K) := by
  refine T.F_is_integer.ok sc_is_integer (fun vs H Q E h => ?_) (fun cdv A outer s H vs Q E hr h => ?_)
  · obtain ⟨v, d, rfl, _⟩ := h
    rfl
  · obtain ⟨v, d, rfl, hd, q⟩ := h
    refine ⟨_, (pss_one (ps_ret (pe_and (pe_callB call_isi (by rfl) T.m_isinstance (by decide +kernel) (pa_cons (pv 0) (pa_cons (pe_bltn (v := .ty "int") (u := .type "int") (by rfl) T.m_int (by decide +kernel) rfl) pa_nil))) (pe_one (pe_not (pe_callB call_isi (by rfl) T.m_isinstance (by decide +kernel) (pa_cons (pv 0) (pa_cons (pe_bltn (v := .ty "bool") (u := .type "bool") (by rfl) T.m_bool (by decide +kernel) rfl) pa_nil)))))))), ?_⟩
    cases hd with
    | non => exact ⟨_, rfl, _, _, _, _, _, rfl, .ty "int", .base .non, kit_ty (r := false) (by decide +kernel), false, rfl, q⟩
    | bl b =>
      refine ⟨_, rfl, _, _, _, _, _, rfl, .ty "int", .base (.bl b), kit_ty (by decide +kernel), true, rfl, iteT ?_⟩
      exact ⟨_, rfl, _, _, _, _, _, rfl, .ty "bool", .base (.bl b), kit_ty (r := true) (by decide +kernel), true, rfl, q⟩
    | int i =>
      refine ⟨_, rfl, _, _, _, _, _, rfl, .ty "int", .base (.int i), kit_ty (by decide +kernel), true, rfl, iteT ?_⟩
      exact ⟨_, rfl, _, _, _, _, _, rfl, .ty "bool", .base (.int i), kit_ty (r := false) (by decide +kernel), false, rfl, q⟩
    | str z => exact ⟨_, rfl, _, _, _, _, _, rfl, .ty "int", .base (.str z), kit_ty (r := false) (by decide +kernel), false, rfl, q⟩
    | lst h _ => exact ⟨_, rfl, _, _, _, _, _, rfl, .ty "int", ty_L h, kit_ty (r := false) (by decide +kernel), false, rfl, q⟩
    | tup h _ => exact ⟨_, rfl, _, _, _, _, _, rfl, .ty "int", ty_T h, kit_ty (r := false) (by decide +kernel), false, rfl, q⟩
theorem ok_is_tuple (T : Tab K mg) : FnOk P w K mg base CX0 1 T.f_is_tuple T.d_is_tuple ["thing"] (sp_is_tuple K) := by
  refine T.F_is_tuple.ok sc_is_tuple (fun vs H Q E h => ?_) (fun cdv A outer s H vs Q E hr h => ?_)
  · obtain ⟨v, d, rfl, _⟩ := h
    rfl
  · obtain ⟨v, d, rfl, hq⟩ := h
    refine ⟨_, (pss_one (ps_ret (pe_callB call_isiT (by rfl) T.m_isinstance (by decide +kernel) (pa_cons (pv 0) (pa_cons (pe_tup (pa_cons (pe_bltn (v := .ty "tuple") (u := .type "tuple") (by rfl) T.m_tuple (by decide +kernel) rfl) (pa_cons (pe_bltn (v := .ty "list") (u := .type "list") (by rfl) T.m_list (by decide +kernel) rfl) pa_nil))) pa_nil))))), ?_⟩
    refine ⟨_, rfl, (by show 2 ≤ sizeLine; decide), fun tp ntp => ?_⟩
    have s1 := same_upd (o := .tup [.ty "tuple", .ty "list"]) ntp
    rcases hq with ⟨hd, q⟩ | ⟨a, xs, rfl, hs, q⟩
    · have q1 := q _ s1
      cases hd with
      | lst h _ => exact ⟨_, tp, _, _, _, true, rfl, upd_same, .cons (.ty "tuple") (.cons (.ty "list") .nil), ty_L (s1.seq h), kit2_L, q1⟩
      | tup h _ => exact ⟨_, tp, _, _, _, true, rfl, upd_same, .cons (.ty "tuple") (.cons (.ty "list") .nil), ty_T (same_seqT s1 h), kit2_T, q1⟩
      | non => exact ⟨_, tp, _, _, _, false, rfl, upd_same, .cons (.ty "tuple") (.cons (.ty "list") .nil), .base .non, kit2_no (by decide +kernel) (by decide +kernel), q1⟩
      | bl b => exact ⟨_, tp, _, _, _, false, rfl, upd_same, .cons (.ty "tuple") (.cons (.ty "list") .nil), .base (.bl b), kit2_no (by decide +kernel) (by decide +kernel), q1⟩
      | int i => exact ⟨_, tp, _, _, _, false, rfl, upd_same, .cons (.ty "tuple") (.cons (.ty "list") .nil), .base (.int i), kit2_no (by decide +kernel) (by decide +kernel), q1⟩
      | str z => exact ⟨_, tp, _, _, _, false, rfl, upd_same, .cons (.ty "tuple") (.cons (.ty "list") .nil), .base (.str z), kit2_no (by decide +kernel) (by decide +kernel), q1⟩
    · have q1 := q _ s1
      rcases hs with h | h
      · exact ⟨_, tp, _, _, _, true, rfl, upd_same, .cons (.ty "tuple") (.cons (.ty "list") .nil), ty_L (s1.seq h), kit2_L, q1⟩
      · exact ⟨_, tp, _, _, _, true, rfl, upd_same, .cons (.ty "tuple") (.cons (.ty "list") .nil), ty_T (same_seqT s1 h), kit2_T, q1⟩
theorem ok_read_integer (T : Tab K mg) : FnOk P w K mg base CX0 1 T.f_read_integer T.d_read_integer ["word", "least", "most"] (sp_read_integer K) := by
  refine T.F_read_integer.ok sc_read_integer (fun vs H Q E h => ?_) (fun cdv A outer s H vs Q E hr h => ?_)
  · obtain ⟨z, m, rfl, _⟩ := h
    rfl
  · obtain ⟨z, m, rfl, hm, hz, q⟩ := h
    refine ⟨_, (pss_cons (ps_if (pt_not (pt_chain op_le op_le pe_int (pe_callB call_len_str (by rfl) T.m_len PySem.boot_len (pa_cons (pv 0) pa_nil)) (pe_callB call_len_str (by rfl) T.m_len PySem.boot_len (pa_cons (pe_callTy call_str_int (by rfl) T.m_str (by decide +kernel) (pa_cons (pv 2) pa_nil)) pa_nil))))
      (pss_one (ps_ret pe_non))
      pss_nil)
      (pss_cons (ps_if (PW.pt (pw_or (pt_not (pt_val (pe_callB (cr_all rfl) (by rfl) T.m_all (by decide +kernel) (pa_cons (pe_lc (own := [("digit", 4)]) (g := gName 4) (by rfl) sc_read_integer.nd (pi_str (pv 0)) (blkOk_by (own := [("digit", 4)]) (N := N_read_integer) (sc := defScope s_read_integer) (by decide +kernel)) (fun _ _ _ _ _ => pg_name (i := 4) sc_read_integer.nd rfl (.inl rfl)) (fun _ _ _ _ _ => pts_nil) (fun _ _ _ _ _ => (pe_cmpR op_in_sign (pv 4) (pe_glob (v := .str "0123456789") (by rfl) T.c_DIGITS ⟨_, rfl⟩) rfl))) pa_nil)))) (pw_or1 (PW.pt (pw_and (pt_cmpR op_eq (pe_ix ix_str (pv 0) pe_int (fun _ _ => rfl)) pe_str (nomark _)) (pw_and1 (pt_cmpR op_ne (pv 0) pe_str (nomark _))))))))
      (pss_one (ps_ret pe_non))
      pss_nil)
      (pss_cons (ps_set (i := 3) sc_read_integer.nd rfl (.inl rfl) (pe_callTy call_int_str (by rfl) T.m_int (by decide +kernel) (pa_cons (pv 0) pa_nil)))
      (pss_one (ps_ret (pe_ifExp (pt_chain op_le op_le (pv 1) (pv 3) (pv 2)) (pv 3) pe_non)))))), ?_⟩
    have hz2 : z.length ≤ sizeLine := Nat.le_of_lt (smallM (by omega))
    have l99 : ((toString (m : Int) : Str)).length = 2 := by
      rcases hm with rfl | rfl | rfl <;> decide +kernel
    have lg : (m : Int).natAbs.log2 < 1920 := by
      rcases hm with rfl | rfl | rfl <;> decide
    have hl : z.length = z.cps.toList.length := rfl
    have qp : ∀ (i : Int) (H' : Hp), rdI z = some i → i ≤ m → Same H H' → Q (.int i) H' := fun i H' e l s => by
      have := q H' s
      unfold rdM at this
      rw [e] at this
      have this : Q (optI (if i ≤ m then some i else none)) H' := this
      rw [if_pos l] at this
      exact this
    have qn : ∀ (i : Int) (H' : Hp), rdI z = some i → ¬ i ≤ m → Same H H' → Q .non H' := fun i H' e l s => by
      have := q H' s
      unfold rdM at this
      rw [e] at this
      have this : Q (optI (if i ≤ m then some i else none)) H' := this
      rw [if_neg l] at this
      exact this
    have q0 : ∀ H', rdI z = none → Same H H' → Q .non H' := fun H' e s => by
      have := q H' s
      unfold rdM at this
      rw [e] at this
      exact this
    refine ⟨_, rfl, z, rfl, hz2, _, _, rfl, rfl, _, rfl, ite2 (fun e => ?_) (fun e => ?_)⟩
    · have h1 : (1 : Int) ≤ (z.length : Int) := of_decide_eq_true e
      refine ⟨_, rfl, m, rfl, lg, _, rfl, (by rw [l99]; decide), _, _, rfl, rfl, _, rfl, ?_⟩
      rw [l99]
      by_cases h2 : (z.length : Int) ≤ ((2 : Nat) : Int)
      · rw [decide_eq_true h2]
        show if (!true) = true then _ else _
        refine iteF ?_
        refine ⟨_, rfl, z, rfl, fun D nD => ?_⟩
        refine lc_it walk_str (fun i H' => Same H H' ∧ ∃ bs : List Bool, H' D = some (.lst (bs.map V.bl)) ∧ bs = (z.cps.toList.take i).map dg) ⟨same_upd nD, [], upd_same, rfl⟩ (fun _ _ _ _ => trivial) ?_ ?_
        · rintro i x H' H'' hi ⟨sm, bs, eD, eb⟩ ⟨rfl, c, hc, rfl⟩
          have hc2 : z.cps.toList[i]? = some c := by
            rw [Array.getElem?_toList]; exact hc
          have hi2 := (List.getElem?_eq_some_iff.mp hc2).1
          refine ⟨rfl, ?_⟩
          refine ⟨_, rfl, c, _, rfl, rfl, _, eD, ?_, same_put sm nD _, bs ++ [dg c], ?_, ?_⟩
          · rw [List.length_map, eb, List.length_map, List.length_take]
            exact smallM (by omega)
          · rw [upd_same, dig_in, List.map_append]; rfl
          · rw [eb, List.take_add_one, hc2, List.map_append]; rfl
        · rintro H' ⟨sm, bs, eD, eb⟩
          have eb2 : bs = z.cps.toList.map dg := by
            rw [eb]
            congr 1
            exact List.take_of_length_le (by rw [Array.length_toList]; exact Nat.le_refl _)
          refine ⟨D, bs, rfl, .inl (.inl eD), _, rfl, ?_⟩
          subst eb2
          match e : z.cps.toList with
          | [] => rw [e] at hl; rw [hl] at h1; simp at h1
          | a :: b :: c :: r => rw [e] at hl; simp only [List.length_cons] at hl; omega
          | [a] =>
            have ez := str1 e
            by_cases ha : 48 ≤ a ∧ a ≤ 57
            · have hd : ([a].map dg).all id = true := by simp [dg, ha]
              have hn : rdI z = some ((a : Int) - 48) := by
                unfold rdI
                rw [e]
                exact if_pos ha
              have hb := (rd_bound hn).1
              rw [hd]
              have hat : atI z.cps.toList (0 : Int) = some a := by rw [e]; rfl
              refine ⟨_, rfl, _, _, a, rfl, rfl, hz2, hat, rfl, _, rfl, ?_⟩
              by_cases h48 : a = 48
              · rw [decide_eq_true (show V.str ⟨#[a]⟩ = V.str "0" by rw [zero_eq1]; exact h48)]
                refine ⟨_, rfl, rfl, _, rfl, ?_⟩
                rw [decide_eq_true (show V.str z = V.str "0" by rw [ez, zero_eq1]; exact h48)]
                refine ⟨_, rfl, _, _, rfl, (by rw [ez]; exact int1 ha), (by rw [hl, e]; simp), ?_⟩
                refine ⟨_, rfl, _, rfl, _, _, rfl, rfl, _, rfl, ite2 (fun _ => ?_) (fun h => absurd (decide_eq_true hb) h)⟩
                exact ⟨_, rfl, _, _, rfl, rfl, _, rfl, ite2 (fun h => ⟨_, rfl, qp _ _ hn (of_decide_eq_true h) sm⟩) (fun h => qn _ _ hn (fun z => h (decide_eq_true z)) sm)⟩
              · rw [decide_eq_false (show ¬ V.str ⟨#[a]⟩ = V.str "0" by rw [zero_eq1]; exact h48)]
                refine ⟨_, rfl, _, _, rfl, (by rw [ez]; exact int1 ha), (by rw [hl, e]; simp), ?_⟩
                refine ⟨_, rfl, _, rfl, _, _, rfl, rfl, _, rfl, ite2 (fun _ => ?_) (fun h => absurd (decide_eq_true hb) h)⟩
                exact ⟨_, rfl, _, _, rfl, rfl, _, rfl, ite2 (fun h => ⟨_, rfl, qp _ _ hn (of_decide_eq_true h) sm⟩) (fun h => qn _ _ hn (fun z => h (decide_eq_true z)) sm)⟩
            · have hd : ([a].map dg).all id = false := by simp [dg]; omega
              have hn : rdI z = none := by
                unfold rdI
                rw [e]
                exact if_neg ha
              rw [hd]
              exact q0 _ hn sm
          | [a, b] =>
            have ez := str2 e
            by_cases hab : (48 ≤ a ∧ a ≤ 57) ∧ (48 ≤ b ∧ b ≤ 57)
            · have hd : ([a, b].map dg).all id = true := by simp [dg, hab]
              rw [hd]
              have hat : atI z.cps.toList (0 : Int) = some a := by rw [e]; rfl
              refine ⟨_, rfl, _, _, a, rfl, rfl, hz2, hat, rfl, _, rfl, ?_⟩
              by_cases h48 : a = 48
              · have hn : rdI z = none := by
                  unfold rdI
                  rw [e]
                  exact if_neg (by omega)
                rw [decide_eq_true (show V.str ⟨#[a]⟩ = V.str "0" by rw [zero_eq1]; exact h48)]
                refine ⟨_, rfl, rfl, _, rfl, ?_⟩
                rw [decide_eq_false (show ¬ V.str z = V.str "0" by rw [ez, zero_ne2]; exact id)]
                exact q0 _ hn sm
              · have hn : rdI z = some (((a : Int) - 48) * 10 + ((b : Int) - 48)) := by
                  unfold rdI
                  rw [e]
                  exact if_pos (by omega)
                have hb := (rd_bound hn).1
                rw [decide_eq_false (show ¬ V.str ⟨#[a]⟩ = V.str "0" by rw [zero_eq1]; exact h48)]
                refine ⟨_, rfl, _, _, rfl, (by rw [ez]; exact int2 hab.1 hab.2), (by rw [hl, e]; simp), ?_⟩
                refine ⟨_, rfl, _, rfl, _, _, rfl, rfl, _, rfl, ite2 (fun _ => ?_) (fun h => absurd (decide_eq_true hb) h)⟩
                exact ⟨_, rfl, _, _, rfl, rfl, _, rfl, ite2 (fun h => ⟨_, rfl, qp _ _ hn (of_decide_eq_true h) sm⟩) (fun h => qn _ _ hn (fun z => h (decide_eq_true z)) sm)⟩
            · have hd : ([a, b].map dg).all id = false := by
                simp [dg]
                omega
              have hn : rdI z = none := by
                unfold rdI
                rw [e]
                exact if_neg (by omega)
              rw [hd]
              exact q0 _ hn sm
      · rw [decide_eq_false h2]
        show if (!false) = true then _ else _
        refine iteT ?_
        have hn : rdI z = none := by
          unfold rdI
          match e : z.cps.toList with
          | [] => rfl
          | [a] => rw [e] at hl; simp only [List.length_cons, List.length_nil] at hl; omega
          | [a, b] => rw [e] at hl; simp only [List.length_cons, List.length_nil] at hl; omega
          | a :: b :: c :: r => rfl
        exact q0 H hn (Same.refl H)
    · have h1 : ¬ (1 : Int) ≤ (z.length : Int) := fun h => e (decide_eq_true h)
      have hn : rdI z = none := by
        unfold rdI
        match e : z.cps.toList with
        | [] => rfl
        | a :: r => rw [e] at hl; simp only [List.length_cons] at hl; omega
      exact ⟨_, rfl, q0 H hn (Same.refl H)⟩
theorem ok_Cursor_init (T : Tab K mg) : FnOk P w K mg base CX0 1 T.f_Cursor_init T.d_Cursor_init ["self", "words", "line", "at"] (sp_Cursor_init K T.C_Cursor) := by
  refine T.F_Cursor_init.ok sc_Cursor_init (fun vs H Q E h => ?_) (fun cdv A outer s H vs Q E hr h => ?_)
  · obtain ⟨x, dx, a, k, ws, rfl, _⟩ := h
    rfl
  · obtain ⟨x, dx, a, k, ws, rfl, hx, ha, ax, q⟩ := h
    refine ⟨_, (pss_cons (ps_fld (pv 0) (pv 1) rfl)
      (pss_cons (ps_fld (pv 0) (pv 2) rfl)
      (pss_one (ps_fld (pv 0) (pv 3) rfl)))), ?_⟩
    refine ⟨_, rfl, _, rfl, x, _, dx, _, rfl, hx, T.cl_Cursor, T.na_Cursor_words, (show 0 < 1000 by decide), ?_⟩
    refine ⟨_, rfl, _, rfl, x, _, dx, _, rfl, upd_same, T.cl_Cursor, T.na_Cursor_line, (show 1 < 1000 by decide), ?_⟩
    refine ⟨_, rfl, _, rfl, x, _, dx, _, rfl, upd_same, T.cl_Cursor, T.na_Cursor_at, (show 2 < 1000 by decide), ?_⟩
    refine q _ ⟨dx, a, upd_same, ?_, ax⟩ (((But.upd _).trans (But.upd _)).trans (But.upd _))
    rw [upd_ne ax, upd_ne ax, upd_ne ax]
    exact ha
theorem ok_Cursor_more (T : Tab K mg) : FnOk P w K mg base CX0 1 T.f_Cursor_more T.d_Cursor_more ["self"] (sp_Cursor_more K T.C_Cursor) := by
  refine T.F_Cursor_more.ok sc_Cursor_more (fun vs H Q E h => ?_) (fun cdv A outer s H vs Q E hr h => ?_)
  · obtain ⟨x, ws, n, l, rfl, _⟩ := h
    rfl
  · obtain ⟨x, ws, n, l, rfl, ⟨dx, a, hx, ha, ax⟩, q⟩ := h
    refine ⟨_, (pss_one (ps_ret (pe_cmpR op_lt (pe_fld (pv 0) rfl) (pe_callB call_len_seq (by rfl) T.m_len PySem.boot_len (pa_cons (pe_fld (pv 0) rfl) pa_nil)) (nomark _)))), ?_⟩
    refine ⟨_, rfl, x, _, dx, _, _, rfl, hx, T.cl_Cursor, T.na_Cursor_at, rfl, _, rfl, x, _, dx, _, _, rfl, hx, T.cl_Cursor, T.na_Cursor_words, rfl, a, _, rfl, .inl (.inl (.inl ha)), _, _, rfl, rfl, ?_⟩
    have e : decide ((n : Int) < ((ws.map V.str).length : Int)) = decide (n < ws.length) := by
      rw [List.length_map]
      exact decide_eq_decide.mpr (by omega)
    show Q (V.bl (decide ((n : Int) < ((ws.map V.str).length : Int)))) H
    rw [e]
    exact q
theorem ok_is_token (T : Tab K mg) : FnOk P w K mg base CX0 1 T.f_is_token T.d_is_token ["thing"] (sp_is_token K) := by
  refine T.F_is_token.ok sc_is_token (fun vs H Q E h => ?_) (fun cdv A outer s H vs Q E hr h => ?_)
  · obtain ⟨z, rfl, _⟩ := h
    rfl
  · obtain ⟨z, rfl, hz, q⟩ := h
    refine ⟨_, (pss_one (ps_ret (pe_and (pe_callB call_isi (by rfl) T.m_isinstance (by decide +kernel) (pa_cons (pv 0) (pa_cons (pe_bltn (v := .ty "str") (u := .type "str") (by rfl) T.m_str (by decide +kernel) rfl) pa_nil))) (pe_and (pe_chain op_le op_le pe_int (pe_callB call_len_str (by rfl) T.m_len PySem.boot_len (pa_cons (pv 0) pa_nil)) (pe_glob (v := .int 20) (by rfl) T.c_MOST_SIGNS ⟨_, rfl⟩)) (pe_one (pe_cmpR op_notIn_sign pe_str (pv 0) rfl)))))), ?_⟩
    refine ⟨_, rfl, _, _, _, _, _, rfl, .ty "str", .base (.str z), kit_ty (by decide +kernel), true, rfl, iteT ?_⟩
    have no : ∀ (P : Prop) [Decidable P], tokB z = decide P → ¬ P → Q (.bl false) H := fun P _ e n => by rw [e, decide_eq_false n] at q; exact q
    have tk : tokB z = decide (1 ≤ z.length ∧ z.length ≤ 20 ∧ 32 ∉ z.cps.toList) := by
      unfold tokB
      rw [Bool.eq_iff_iff]
      simp only [Bool.and_eq_true, decide_eq_true_eq, and_assoc]
    refine ⟨_, rfl, z, rfl, Nat.le_of_lt (smallM (by omega)), _, _, rfl, rfl, _, rfl, ite2 (fun e => ?_) (fun e => ?_)⟩
    · have e1 : (1 : Int) ≤ z.length := of_decide_eq_true e
      refine ⟨_, _, rfl, rfl, _, rfl, ite2 (fun e2 => ?_) (fun e2 => ?_)⟩
      · have e2' : (z.length : Int) ≤ 20 := of_decide_eq_true e2
        refine ⟨_, rfl, 32, z, (by rfl), rfl, ?_⟩
        rw [tk] at q
        have ee : (!decide (32 ∈ z.cps.toList)) = decide (1 ≤ z.length ∧ z.length ≤ 20 ∧ 32 ∉ z.cps.toList) := by
          rw [← decide_not]
          exact decide_eq_decide.mpr ⟨fun h => ⟨by omega, by omega, h⟩, fun h => h.2.2⟩
        rw [ee]
        exact q
      · exact no _ tk fun h => e2 (decide_eq_true (by have := h.2.1; omega))
    · exact ⟨_, rfl, iteF (no _ tk fun h => e (decide_eq_true (by have := h.1; omega)))⟩
theorem ok_turns_at_places (T : Tab K mg) : FnOk P w K mg base CX0 1 T.f_turns_at_places T.d_turns_at_places ["corrections"] (sp_turns_at_places K) := by
  refine T.F_turns_at_places.ok sc_turns_at_places (fun vs H Q E h => ?_) (fun cdv A outer s H vs Q E hr h => ?_)
  · obtain ⟨a, us, cs, rfl, _⟩ := h
    rfl
  · obtain ⟨a, us, cs, rfl, ha, ⟨tu, ok, l60⟩, q⟩ := h
    refine ⟨_, (pss_cons (ps_set (i := 1) sc_turns_at_places.nd rfl (.inl rfl) pe_dnewN)
      (pss_cons (ps_for PassesOwn.never rfl (pi_tup (pv 0)) (pg_tup (by rfl) (pgs_cons (pg_name (i := 2) sc_turns_at_places.nd rfl (.inl rfl)) (pgs_cons (pg_name (i := 3) sc_turns_at_places.nd rfl (.inl rfl)) (pgs_cons (pg_name (i := 4) sc_turns_at_places.nd rfl (.inl rfl)) (pgs_cons (pg_name (i := 5) sc_turns_at_places.nd rfl (.inl rfl)) (pgs_cons (pg_name (i := 6) sc_turns_at_places.nd rfl (.inl rfl)) pgs_nil))))))
      (pss_one (ps_expr (pe_bm PySem.F.plainAttrs_list PySem.F.slot_list_append PySem.F.type_list_append mt_append (pe_nsetd (by have z := hr.units; exact z) (pv 1) (pe_tup (pa_cons (pv 2) (pa_cons (pv 3) (pa_cons (pv 4) pa_nil)))) (pe_lst pa_nil) ⟨rfl, rfl, rfl, rfl⟩) (pa_cons (pe_tup (pa_cons (pv 5) (pa_cons (pv 6) pa_nil))) pa_nil)))))
      (pss_one (ps_ret (pv 1))))), ?_⟩
    have lu := tu.len
    rw [List.length_map] at lu
    have cw : (cxOf CX0 P w K mg base N_turns_at_places (Str.ofString "_turns_at_places") (defScope s_turns_at_places) T.f_turns_at_places cdv A outer s H E).nox.w = w := rfl
    rw [cw]
    refine fun t nt => ?_
    have s0 := same_upd (o := rawN w t []) nt
    have dn0 : DN w (upd H t (rawN w t [])) t [] := ⟨upd_same, fun _ h => nomatch h⟩
    refine ⟨_, rfl, a, rfl, ⟨_, .inl (.inl (s0 _ _ ha))⟩, for_tup (xs := us) (fun i σ' H' => ∃ (y2 y3 y4 y5 y6 : Option V) (kvs : List NE), σ' = [some (.ref a), some (.ref t), y2, y3, y4, y5, y6] ∧ Same H H' ∧ DN w H' t kvs ∧ kvs.length ≤ i ∧ ∀ p ∈ kvs, ∃ l ys, p.2.2 = .ref l ∧ H l = none ∧ H' l = some (.lst ys) ∧ ys.length ≤ i) ⟨none, none, none, none, none, [], rfl, s0, dn0, Nat.le_refl _, fun _ h => nomatch h⟩ (fun i σ' H' _ hh => by obtain ⟨_, _, _, _, _, _, _, s, _⟩ := hh; exact .inl (.inl (s _ _ ha))) ?_ ?_⟩
    · rintro i x σ' H1 hx ⟨y2, y3, y4, y5, y6, kvs, rfl, s1, dn, lk, hk⟩
      have i60 : i < 60 := by
        have := (List.getElem?_eq_some_iff.mp hx).1
        omega
      obtain ⟨d, ed, tx⟩ := tu.get hx
      obtain ⟨c, ec, rfl⟩ : ∃ c, cs[i]? = some c ∧ d = dC c := by
        rw [List.getElem?_map] at ed
        cases e : cs[i]? with
        | none => rw [e] at ed; cases ed
        | some l => rw [e] at ed; exact ⟨l, rfl, (Option.some.inj ed).symm⟩
      obtain ⟨b, pv, rfl, hb, hp⟩ := tpC_inv (tx.nl (NL.of s1))
      refine ⟨b, _, rfl, .inl (.inl hb), rfl, _, _, rfl, _, _, rfl, _, _, rfl, _, _, rfl, _, _, rfl, rfl, ?_⟩
      refine ⟨_, rfl, t, kvs, rfl, dn, _, rfl, _, rfl, _, rfl, (by show 3 ≤ sizeLine; decide), fun kb nkb => ?_⟩
      have s2 := same_upd (o := .tup [pv, .int c.r, .int c.w]) nkb
      have hkb : Tp (upd H1 kb (.tup [pv, .int c.r, .int c.w])) (.ref kb) (keyC c) := .tup upd_same (.cons (hp.nl (NL.of s2)) (.cons (.int _) (.cons (.int _) .nil)))
      generalize upd H1 kb (.tup [pv, .int c.r, .int c.w]) = H2 at s2 hkb
      refine ⟨Nat.zero_le _, fun z nz => ?_⟩
      have s3 := same_upd (o := .lst []) nz
      have hz : upd H2 z (.lst []) z = some (.lst []) := upd_same
      generalize upd H2 z (.lst []) = H3 at s3 hz
      have s23 := s2.trans s3
      have fz : H z = none := none_of (s1.trans s2) nz
      have nk : NKey H3 kb (nkD (keyC c)) := ⟨keyC c, hkb.nl (NL.of s3), rfl, key_depth c⟩
      have dn3 := dn.nl (NL.of s23)
      have tz : z ≠ t := fun e => by rw [e, s2 _ _ dn.1] at nz; cases nz
      refine ⟨kvs, kb, _, rfl, dn3, nk, small1000 (by omega), fun v hv => ?_, fun hn => ?_⟩
      · obtain ⟨p, hp2, rfl⟩ := atN_mem hv
        obtain ⟨l, ys, el, fl, hl, ly⟩ := hk p hp2
        rw [el]
        have hl3 := s23 _ _ hl
        refine ⟨.inl ⟨rfl, _, .inl (.inl hl3)⟩, _, rfl, _, rfl, (by show 2 ≤ sizeLine; decide), fun e ne => ?_⟩
        have s4 := same_upd (o := .tup [.str c.o, .str c.n]) ne
        generalize upd H3 e (.tup [.str c.o, .str c.n]) = H4 at s4 ⊢
        have hl4 := s4 _ _ hl3
        have s14 := s23.trans s4
        refine ⟨l, ys, _, rfl, rfl, hl4, small1000 (by omega), _, _, _, _, _, kvs, rfl, same_put (s1.trans s14) fl _, (dn3.nl (NL.of s4)).nl ((NL.refl H4).put hl4 _), by omega, fun p' hp' => ?_⟩
        obtain ⟨l', ys', el', fl', hl', ly'⟩ := hk p' hp'
        by_cases c1 : l' = l
        · subst c1
          rw [hl] at hl'
          cases hl'
          exact ⟨l', _, el', fl', upd_same, by rw [List.length_append]; show ys.length + 1 ≤ _; omega⟩
        · exact ⟨l', ys', el', fl', by rw [upd_ne c1]; exact s14 _ _ hl', by omega⟩
      · have ep : putN kvs (nkD (keyC c)) kb (.ref z) = kvs ++ [(nkD (keyC c), kb, .ref z)] := by
          unfold putN
          rw [hn]
          rfl
        have dn4 := DN.put (v := .ref z) dn3 nk
        have s4 : Same H (upd H3 t (rawN w t (putN kvs (nkD (keyC c)) kb (.ref z)))) := same_put (s1.trans s23) nt _
        have hz4 : upd H3 t (rawN w t (putN kvs (nkD (keyC c)) kb (.ref z))) z = some (.lst []) := by rw [upd_ne tz]; exact hz
        have old4 : ∀ l ys, H l = none → l ≠ t → H1 l = some (.lst ys) → upd H3 t (rawN w t (putN kvs (nkD (keyC c)) kb (.ref z))) l = some (.lst ys) := fun l ys _ ne e => by rw [upd_ne ne]; exact s23 _ _ e
        rw [ep] at dn4 s4 hz4 old4 ⊢
        generalize upd H3 t (rawN w t (kvs ++ [(nkD (keyC c), kb, .ref z)])) = H4 at dn4 s4 hz4 old4 ⊢
        refine ⟨.inl ⟨rfl, _, .inl (.inl hz4)⟩, _, rfl, _, rfl, (by show 2 ≤ sizeLine; decide), fun e ne => ?_⟩
        have s5 := same_upd (o := .tup [.str c.o, .str c.n]) ne
        generalize upd H4 e (.tup [.str c.o, .str c.n]) = H5 at s5 ⊢
        have hz5 := s5 _ _ hz4
        refine ⟨z, [], _, rfl, rfl, hz5, (by show 0 < sizeLine; decide), _, _, _, _, _, _, rfl, same_put (s4.trans s5) fz _, (dn4.nl (NL.of s5)).nl ((NL.refl H5).put hz5 _), ?_, fun p' hp' => ?_⟩
        · rw [List.length_append]
          exact Nat.succ_le_succ lk
        · rcases List.mem_append.mp hp' with h | h
          · obtain ⟨l', ys', el', fl', hl', ly'⟩ := hk p' h
            have lt : l' ≠ t := fun z => by rw [z, dn.1] at hl'; exact rawN_ne (Option.some.inj hl')
            have lz : l' ≠ z := fun e => by
              have := s2 _ _ hl'
              rw [e, nz] at this
              cases this
            exact ⟨l', ys', el', fl', by rw [upd_ne lz]; exact s5 _ _ (old4 _ _ fl' lt hl'), by omega⟩
          · rw [List.mem_singleton.mp h]
            exact ⟨z, _, rfl, fz, upd_same, by show 1 ≤ _; omega⟩
    · rintro σ' H1 ⟨y2, y3, y4, y5, y6, kvs, rfl, s1, dn, lk, hk⟩
      exact ⟨_, rfl, q t H1 s1⟩
theorem ok_source (T : Tab K mg) : FnOk P w K mg base CX0 1 T.f_source T.d_source ["_law_script", "_law_k"] (sp_source K) := by
  refine T.F_source.ok sc_source (fun vs H Q E h => ?_) (fun cdv A outer s H vs Q E hr h => ?_)
  · obtain ⟨a, ns, k, rfl, _⟩ := h
    rfl
  · obtain ⟨a, ns, k, rfl, hS, q⟩ := h
    refine ⟨_, (C8.pss_cut (ps_set (i := 2) sc_source.nd rfl (.inl rfl) (pe_ifExp (pt_cmpR op_lt (pv 1) (pe_callB call_len_seq (by rfl) T.m_len PySem.boot_len (pa_cons (pv 0) pa_nil)) (nomark _)) (pe_ix ix_list (pv 0) (pv 1) (fun _ _ => rfl)) (pe_op op_add (pe_op op_mod (pe_callTy call_int1 (by rfl) T.m_int (by decide +kernel) (pa_cons (pe_op op_add (pe_callB (cr_sum rfl) (by rfl) T.m_sum (by decide +kernel) (pa_cons (pe_slice sl_list (pv 0) po_none (po_some pe_int)) pa_nil)) (pe_op op_mul pe_int (pe_callB (cr_sum rfl) (by rfl) T.m_sum (by decide +kernel) (pa_cons (pe_slice sl_list (pv 0) (po_some pe_int) (po_some pe_int)) pa_nil)))) pa_nil)) pe_int) (pe_op op_mul pe_int (pv 1)))))
      (pss_cons (ps_set (i := 3) sc_source.nd rfl (.inl rfl) (pe_callB call_abs (by rfl) T.m_abs (by decide +kernel) (pa_cons (pv 2) pa_nil)))
      (C8.pss_cut (ps_set (i := 4) sc_source.nd rfl (.inl rfl) (pe_ifExp (pt_cmpR op_ge (pv 3) pe_int (nomark _)) (pv 3) pe_int))
      (pss_one (ps_ret (pe_lst (pa_cons (pv 4) (pa_cons (pe_op op_mod (pe_callTy call_int1 (by rfl) T.m_int (by decide +kernel) (pa_cons (pe_op op_add (pe_op op_add (pe_op op_add (pe_op op_mul (pv 3) pe_int) (pe_callTy call_int1 (by rfl) T.m_int (by decide +kernel) (pa_cons (pe_cmpR op_lt (pv 2) pe_int (nomark _)) pa_nil))) (pe_op op_mul pe_int (pv 1))) pe_int) pa_nil)) pe_int) (pa_cons pe_int pa_nil))))))))), ?_⟩
    refine ⟨fun σ' H' => ∃ c : Int, σ' = [some (.ref a), some (.int k), some (.int c), none, none] ∧ Same H H', ?_, ?_⟩
    · refine ⟨_, rfl, _, rfl, _, _, rfl, .inl hS, _, _, rfl, rfl, _, rfl, ite2 (fun e => ?_) (fun e => ?_)⟩
      · have e1 : (k : Int) < ((ns.map V.int).length : Int) := of_decide_eq_true e
        rw [List.length_map] at e1
        have hk : k < ns.length := by omega
        have g : (ns.map V.int)[k]? = some (.int ns[k]) := by
          rw [List.getElem?_map, List.getElem?_eq_getElem hk]
          rfl
        exact ⟨_, rfl, _, rfl, _, _, _, _, rfl, rfl, hS, atI_nat g, _, rfl, Same.refl H⟩
      · refine ⟨_, rfl, 1, rfl, _, _, rfl, hS, fun p1 n1 => ?_⟩
        obtain ⟨m1, c1⟩ := cut_map ns none (some 1)
        rw [c1]
        have s1 : Same H (upd H p1 (.lst (m1.map V.int))) := same_upd n1
        refine ⟨_, m1, rfl, .inl (.inl upd_same), _, rfl, 1, rfl, 2, rfl, _, _, rfl, s1.seq hS, fun p2 n2 => ?_⟩
        obtain ⟨m2, c2⟩ := cut_map ns (some 1) (some 2)
        rw [c2]
        refine ⟨_, m2, rfl, .inl (.inl upd_same), _, _, rfl, rfl, .inl ⟨by decide, by decide⟩, _, _, rfl, rfl, .inl ⟨_, rfl, _, _, rfl, rfl, (by show (0 : Int) < 1000003; decide), _, rfl, _, _, rfl, rfl, .inl ⟨by decide, by decide⟩, _, _, rfl, rfl, _, rfl, s1.trans (same_upd n2)⟩⟩
    · rintro σ' H1 ⟨c, rfl, s1⟩
      refine ⟨_, rfl, _, rfl, ?_⟩
      refine ⟨fun σ' H' => ∃ n g : Int, σ' = [some (.ref a), some (.int k), some (.int c), some (.int n), some (.int g)] ∧ H' = H1, ?_, ?_⟩
      · refine ⟨_, rfl, _, _, rfl, rfl, _, rfl, ite2 (fun e => ?_) (fun e => ?_)⟩
        · exact ⟨_, rfl, _, _, rfl, rfl⟩
        · exact ⟨_, _, rfl, rfl⟩
      · rintro σ' H' ⟨n, g, rfl, rfl⟩
        refine ⟨_, rfl, _, rfl, _, _, rfl, rfl, .inr ⟨by decide, by decide⟩, _, rfl, _, _, rfl, rfl, .inr ⟨_, rfl, _, _, rfl, rfl, _, rfl, _, _, rfl, rfl, .inl ⟨by decide, by decide⟩, _, _, rfl, rfl, _, _, rfl, rfl, .inl ⟨_, rfl, _, _, rfl, rfl, (by show (0 : Int) < 2147483647; decide), ?_⟩⟩⟩
        refine ⟨(by show 3 ≤ sizeLine; decide), fun p np => ?_⟩
        exact q p _ (s1.trans (same_upd np)) (s1.free np) ⟨_, _, _, upd_same⟩
theorem ok_pick (T : Tab K mg) : FnOk P w K mg base CX0 1 T.f_pick T.d_pick ["_law_source_here", "_law_many"] (sp_pick K) := by
  refine T.F_pick.ok sc_pick (fun vs H Q E h => ?_) (fun cdv A outer s H vs Q E hr h => ?_)
  · obtain ⟨a, m, rfl, _⟩ := h
    rfl
  · obtain ⟨a, m, rfl, ⟨g, x, c, hs⟩, h1, h2, q⟩ := h
    refine ⟨_, (pss_cons (ps_if (pt_cmpR op_lt (pv 1) pe_int (nomark _))
      (pss_one (ps_ret pe_int))
      pss_nil)
      (pss_cons (ps_if (pt_cmpR op_gt (pe_ix ix_list (pv 0) pe_int (fun _ _ => rfl)) pe_int (nomark _))
      (pss_cons (ps_set (i := 2) sc_pick.nd rfl (.inl rfl) (pe_op op_mod (pe_callTy call_int1 (by rfl) T.m_int (by decide +kernel) (pa_cons (pe_ix ix_list (pv 0) pe_int (fun _ _ => rfl)) pa_nil)) (pv 1)))
        (pss_cons (ps_asg (pe_op op_fdiv (pe_ix ix_list (pv 0) pe_int (fun _ _ => rfl)) (pv 1)) (pg_sub (pv 0) pe_int set_list))
        (pss_one (ps_ret (pv 2)))))
      pss_nil)
      (pss_cons (ps_asg (pe_op op_add (pe_ix ix_list (pv 0) pe_int (fun _ _ => rfl)) pe_int) (pg_sub (pv 0) pe_int set_list))
      (pss_cons (ps_asg (pe_op op_mod (pe_callTy call_int1 (by rfl) T.m_int (by decide +kernel) (pa_cons (pe_op op_add (pe_op op_add (pe_op op_mul (pe_ix ix_list (pv 0) pe_int (fun _ _ => rfl)) pe_int) (pe_op op_mul (pe_ix ix_list (pv 0) pe_int (fun _ _ => rfl)) pe_int)) pe_int) pa_nil)) pe_int) (pg_sub (pv 0) pe_int set_list))
      (pss_one (ps_ret (pe_op op_mod (pe_callTy call_int1 (by rfl) T.m_int (by decide +kernel) (pa_cons (pe_op op_fdiv (pe_op op_mod (pe_callTy call_int1 (by rfl) T.m_int (by decide +kernel) (pa_cons (pe_op op_add (pe_op op_add (pe_op op_mul (pe_ix ix_list (pv 0) pe_int (fun _ _ => rfl)) pe_int) (pe_op op_mul (pe_ix ix_list (pv 0) pe_int (fun _ _ => rfl)) pe_int)) pe_int) pa_nil)) pe_int) pe_int) pa_nil)) (pv 1)))))))), ?_⟩
    refine ⟨_, rfl, _, _, rfl, rfl, _, rfl, ite2 (fun e => ?_) (fun e => ?_)⟩
    · exact q 0 H ⟨g, x, c, hs⟩ (But.refl a H) (by decide) (by omega)
    · have hm : ¬ m < 2 := fun z => e (decide_eq_true z)
      refine ⟨_, rfl, _, _, _, _, rfl, rfl, .inl (.inl hs), rfl, _, _, rfl, rfl, _, rfl, ite2 (fun e => ?_) (fun e => ?_)⟩
      · refine ⟨_, rfl, _, _, _, _, rfl, rfl, .inl (.inl hs), rfl, .inl ⟨_, rfl, _, rfl, _, _, rfl, rfl, (by omega), ?_⟩⟩
        refine ⟨_, rfl, _, _, _, _, rfl, rfl, .inl (.inl hs), rfl, _, rfl, _, _, rfl, rfl, ⟨by omega, by omega⟩, ?_⟩
        refine ⟨_, rfl, _, _, _, _, rfl, rfl, hs, rfl, ?_⟩
        refine ⟨_, rfl, ?_⟩
        exact q _ _ ⟨_, _, _, upd_same⟩ (But.upd _) (Int.emod_nonneg _ (by omega)) (.inl (Int.emod_lt_of_pos _ (by omega)))
      · refine ⟨_, rfl, _, _, _, _, rfl, rfl, .inl (.inl hs), rfl, _, _, rfl, rfl, _, rfl, _, _, _, _, rfl, rfl, hs, rfl, ?_⟩
        refine ⟨_, rfl, _, _, _, _, rfl, rfl, .inl (.inl upd_same), rfl, _, _, rfl, rfl, .inr ⟨by decide, by decide⟩, _, rfl, _, _, _, _, rfl, rfl, .inl (.inl upd_same), rfl, _, _, rfl, rfl, .inr ⟨by decide, by decide⟩, _, _, rfl, rfl, _, _, rfl, rfl, .inl ⟨_, rfl, _, _, rfl, rfl, (by show (0 : Int) < 2147483647; decide), ?_⟩⟩
        refine ⟨_, rfl, _, _, _, _, rfl, rfl, upd_same, rfl, ?_⟩
        refine ⟨_, rfl, _, _, _, _, rfl, rfl, .inl (.inl upd_same), rfl, _, _, rfl, rfl, .inr ⟨by decide, by decide⟩, _, rfl, _, _, _, _, rfl, rfl, .inl (.inl upd_same), rfl, _, _, rfl, rfl, .inr ⟨by decide, by decide⟩, _, _, rfl, rfl, _, _, rfl, rfl, .inl ⟨_, rfl, _, _, rfl, rfl, (by show (0 : Int) < 2147483629; decide), _, _, rfl, rfl, ⟨by decide, by decide⟩, .inl ⟨_, rfl, _, rfl, _, _, rfl, rfl, (by omega), ?_⟩⟩⟩
        exact q _ _ ⟨_, _, _, upd_same⟩ (((But.upd _).trans (But.upd _))) (Int.emod_nonneg _ (by omega)) (.inl (Int.emod_lt_of_pos _ (by omega)))
theorem ok_label_word (T : Tab K mg) : FnOk P w K mg base CX0 1 T.f_label_word T.d_label_word ["_law_label_here"] (sp_label_word K) := by
  refine T.F_label_word.ok sc_label_word (fun vs H Q E h => ?_) (fun cdv A outer s H vs Q E hr h => ?_)
  · obtain ⟨a, L, rfl, _⟩ := h
    rfl
  · obtain ⟨a, L, rfl, hp, hL, q⟩ := h
    refine ⟨_, (pss_one (ps_ret (pe_join pe_str (pe_lc (own := [("_law_part", 1)]) (g := gName 1) (by rfl) sc_label_word.nd (pi_tup (pv 0)) (blkOk_by (own := [("_law_part", 1)]) (N := N_label_word) (sc := defScope s_label_word) (by decide +kernel)) (fun _ _ _ _ _ => pg_name (i := 1) sc_label_word.nd rfl (.inl rfl)) (fun _ _ _ _ _ => pts_nil) (fun _ _ _ _ _ => (pe_callTy call_str_int (by rfl) T.m_str (by decide +kernel) (pa_cons (pv 1) pa_nil))))))), ?_⟩
    have s1 := Same.refl H
    refine ⟨⟨_, rfl⟩, _, rfl, a, rfl, ⟨_, hp⟩, fun D nD => ?_⟩
    refine lc_tup (xs := L.map V.int) (fun i H' => Same _ H' ∧ H' D = some (.lst (((L.take i).map fun i => (toString i : Str)).map V.str))) ⟨same_upd nD, upd_same⟩ (fun i H' _ hh => same_seqT hh.1 hp) ?_ ?_
    · rintro i x H' hx ⟨sm, eD⟩
      obtain ⟨n, rfl, hn⟩ : ∃ n, x = V.int n ∧ L[i]? = some n := by
        rw [List.getElem?_map] at hx
        cases e : L[i]? with
        | none => rw [e] at hx; cases hx
        | some n => rw [e] at hx; exact ⟨n, (Option.some.inj hx).symm, rfl⟩
      have hb := hL.2.2 n (List.mem_of_getElem? hn)
      have hl := hL.1
      refine ⟨rfl, ?_⟩
      refine ⟨_, rfl, n, rfl, log_small (by omega), _, eD, ?_, same_put sm nD _, ?_⟩
      · rw [List.length_map, List.length_map, List.length_take]; exact small1000 (by omega)
      · rw [upd_same, List.take_add_one, hn, List.map_append, List.map_append]; rfl
    rintro H' ⟨sm, eD⟩
    rw [List.length_map, List.take_length] at eD
    refine ⟨_, D, _, rfl, rfl, .inl (.inl (.inl eD)), ?_, q H' (s1.trans sm)⟩
    exact num_fit hL
theorem ok_law_read_label (T : Tab K mg) : FnOk P w K mg base CX0 1 T.f_law_read_label T.d_law_read_label ["_law_word"] (sp_law_read_label K) := by
  refine T.F_law_read_label.ok sc_law_read_label (fun vs H Q E h => ?_) (fun cdv A outer s H vs Q E hr h => ?_)
  · obtain ⟨z, rfl, _⟩ := h
    rfl
  · obtain ⟨z, rfl, hz, q1, q2⟩ := h
    refine ⟨_, (pss_cons (ps_set (i := 1) sc_law_read_label.nd rfl (.inl rfl) (pe_lst pa_nil))
      (pss_cons (ps_for PassesOwn.never rfl (pi_list (pe_split (pv 0) pe_str)) (pg_name (i := 2) sc_law_read_label.nd rfl (.inl rfl))
      (pss_cons (ps_set (i := 3) sc_law_read_label.nd rfl (.inl rfl) (pe_cmpR op_gt (pe_callB call_len_seq (by rfl) T.m_len PySem.boot_len (pa_cons (pe_lc (own := [("_law_sign", 4)]) (g := gName 4) (by rfl) sc_law_read_label.nd (pi_str (pv 2)) (blkOk_by (own := [("_law_sign", 4)]) (N := N_law_read_label) (sc := defScope s_law_read_label) (by decide +kernel)) (fun _ _ _ _ _ => pg_name (i := 4) sc_law_read_label.nd rfl (.inl rfl)) (fun _ _ _ _ _ => (pts_one (pt_cmpR op_notIn_sign (pv 4) pe_str rfl))) (fun _ _ _ _ _ => (pv 4))) pa_nil)) pe_int (nomark _)))
        (pss_cons (ps_if (PW.pt (pw_or (pt_val (pv 3)) (pw_or (pt_not (pt_chain op_le op_le pe_int (pe_callB call_len_str (by rfl) T.m_len PySem.boot_len (pa_cons (pv 2) pa_nil)) pe_int)) (pw_or1 (PW.pt (pw_and (pt_cmpR op_eq (pe_callB call_len_str (by rfl) T.m_len PySem.boot_len (pa_cons (pv 2) pa_nil)) pe_int (nomark _)) (pw_and1 (pt_cmpR op_eq (pe_ix ix_str (pv 2) pe_int (fun _ _ => rfl)) pe_str (nomark _)))))))))
        (pss_one (ps_ret pe_non))
        pss_nil)
        (pss_one (ps_expr (pe_bm PySem.F.plainAttrs_list PySem.F.slot_list_append PySem.F.type_list_append mt_append (pv 1) (pa_cons (pe_callTy call_int_str (by rfl) T.m_int (by decide +kernel) (pa_cons (pv 2) pa_nil)) pa_nil)))))))
      (pss_one (ps_ret (pe_ifExp (PW.pt (pw_and (pt_cmpR op_le (pe_callB call_len_seq (by rfl) T.m_len PySem.boot_len (pa_cons (pv 1) pa_nil)) pe_int (nomark _)) (pw_and1 (pt_cmpR op_ge (pe_ix ix_list (pv 1) (pe_un un_neg pe_int) (fun _ _ => rfl)) pe_int (nomark _))))) (pe_callTy call_tuple_of (by rfl) T.m_tuple (by decide +kernel) (pa_cons (pv 1) pa_nil)) pe_non))))), ?_⟩
    have hd1 : 1 ≤ ("." : Str).length := by decide +kernel
    have hcnt := split_cnt z "." hd1
    refine ⟨Nat.zero_le _, fun D nD => ?_⟩
    have sD : Same H (upd H D (.lst [])) := same_upd nD
    have eD0 : (upd H D (.lst [])) D = some (.lst []) := upd_same
    generalize upd H D (.lst []) = H0 at sD eD0
    refine ⟨_, rfl, ⟨_, rfl⟩, z, _, rfl, rfl, (by decide +kernel), ?_, fun p np => ?_⟩
    · have e2 : sizeLine = 16777216 := by decide
      omega
    have npD : p ≠ D := (ne_of_none eD0 np).symm
    have ep : (upd H0 p (.lst ((Txt.split z ".").map V.str))) p = some (.lst ((Txt.split z ".").map V.str)) := upd_same
    have s1 := sD.trans (same_upd (o := .lst ((Txt.split z ".").map V.str)) np)
    have eD1 : (upd H0 p (.lst ((Txt.split z ".").map V.str))) D = some (.lst []) := same_upd np _ _ eD0
    generalize upd H0 p (.lst ((Txt.split z ".").map V.str)) = H1 at ep s1 eD1
    refine ⟨p, rfl, ⟨_, .inl (.inl ep)⟩, for_list (xs := (Txt.split z ".").map V.str) (fun i σ' H' => ∃ (L : List Int) (y2 y3 : Option V), σ' = [some (.str z), some (.ref D), y2, y3, none] ∧ Same H H' ∧ H' p = some (.lst ((Txt.split z ".").map V.str)) ∧ H' D = some (.lst (L.map V.int)) ∧ ((Txt.split z ".").take i).map rdI = L.map some) ⟨[], none, none, rfl, s1, ep, eD1, rfl⟩ (fun i σ' H' _ hh => ?_) ?_ ?_⟩
    · obtain ⟨_, _, _, _, _, e, _⟩ := hh
      exact .inl (.inl e)
    · rintro i x σ' Hx hx ⟨L, y2, y3, rfl, sm, eP, eD, eL⟩
      obtain ⟨y, rfl, hy⟩ := get_map hx
      have hmem := List.mem_of_getElem? hy
      have hy1 := split_part z "." hd1 hmem
      have hy2 : y.length ≤ sizeLine := Nat.le_of_lt (smallM (by omega))
      have hi := (List.getElem?_eq_some_iff.mp hy).1
      have hL : L.length = i := by
        have := congrArg List.length eL
        rw [List.length_map, List.length_map, List.length_take] at this
        omega
      have hlen : y.length = y.cps.toList.length := rfl
      have non : rdI y = none → ∀ H', Same H H' → Q .non H' := fun e H' s => q1 (keep_none (List.mem_map.mpr ⟨y, hmem, e⟩)) H' s
      refine ⟨_, rfl, y, rfl, fun D2 nD2 => ?_⟩
      refine lc_it walk_str (fun i H' => Same Hx H' ∧ ∃ xs : List V, H' D2 = some (.lst xs) ∧ xs.length = (y.cps.toList.take i).countP (fun c => !dg c)) ⟨same_upd nD2, [], upd_same, rfl⟩ (fun _ _ _ _ => trivial) ?_ ?_
      · rintro j x H' H'' hj ⟨sm2, xs, eD2, eb⟩ ⟨rfl, c, hc, rfl⟩
        have hc2 : y.cps.toList[j]? = some c := by
          rw [Array.getElem?_toList]; exact hc
        have hj2 := (List.getElem?_eq_some_iff.mp hc2).1
        refine ⟨rfl, ?_⟩
        have hk : (y.cps.toList.take (j + 1)).countP (fun c => !dg c) = (y.cps.toList.take j).countP (fun c => !dg c) + (if (!dg c) = true then 1 else 0) := by
          rw [List.take_add_one, hc2, List.countP_append]
          congr 1
          show List.countP (fun c => !dg c) [c] = _
          cases h : dg c <;> simp [List.countP_cons, h]
        refine ⟨_, rfl, c, _, rfl, rfl, _, rfl, ite2 (fun e => ?_) (fun e => ?_)⟩
        · rw [dig_in] at e
          refine ⟨_, rfl, _, eD2, ?_, same_put sm2 nD2 _, _, upd_same, ?_⟩
          · rw [eb]
            have := List.countP_le_length (p := fun c => !dg c) (l := y.cps.toList.take j)
            rw [List.length_take] at this
            exact smallM (by omega)
          · rw [hk, if_pos e, List.length_append, eb]
            rfl
        · rw [dig_in] at e
          refine ⟨sm2, xs, eD2, ?_⟩
          rw [hk, if_neg e, eb]
          rfl
      · rintro H2 ⟨sm2, xs, eD2, eb⟩
        have eb2 : xs.length = y.cps.toList.countP (fun c => !dg c) := by
          rw [eb]
          congr 1
          exact List.take_of_length_le (by rw [Array.length_toList]; exact Nat.le_refl _)
        have s2 := sm.trans sm2
        have eD3 := sm2 _ _ eD
        have eP3 := sm2 _ _ eP
        refine ⟨D2, xs, rfl, .inl (.inl (.inl eD2)), _, _, rfl, rfl, ?_⟩
        have bad : ∀ b : Bool, b = decide ((0 : Int) < (xs.length : Int)) → ((∀ c ∈ y.cps.toList, dg c = true) ∧ b = false) ∨ ((∃ c ∈ y.cps.toList, dg c = false) ∧ b = true) := fun b hb => by
          subst hb
          by_cases h0 : y.cps.toList.countP (fun c => !dg c) = 0
          · refine .inl ⟨fun c hc => ?_, decide_eq_false (by rw [eb2, h0]; decide)⟩
            have := List.countP_eq_zero.mp h0 c hc
            simpa using this
          · refine .inr ⟨?_, decide_eq_true (by rw [eb2]; omega)⟩
            obtain ⟨c, hc, h1⟩ := List.countP_pos_iff.mp (Nat.pos_of_ne_zero h0)
            exact ⟨c, hc, by simpa using h1⟩
        refine ⟨_, rfl, _, rfl, ?_⟩
        rcases bad _ rfl with ⟨hall, hb⟩ | ⟨⟨c, hc, hdc⟩, hb⟩
        · rw [hb]
          refine iteF ?_
          refine ⟨_, rfl, y, rfl, hy2, _, _, rfl, rfl, _, rfl, ite2 (fun e => ?_) (fun e => ?_)⟩
          · have h1 : (1 : Int) ≤ (y.length : Int) := of_decide_eq_true e
            refine ⟨_, _, rfl, rfl, _, rfl, ?_⟩
            by_cases h2 : (y.length : Int) ≤ 2
            · rw [decide_eq_true h2]
              show if (!true) = true then _ else _
              refine iteF ?_
              have tk : ∀ k : Int, rdI y = some k → ((Txt.split z ".").take (i + 1)).map rdI = (L ++ [k]).map some := fun k hk => by
                rw [List.take_add_one, hy, List.map_append, List.map_append, eL]
                congr 1
                show [rdI y] = [some k]
                rw [hk]
              have sN : ∀ o, Same H (upd H2 D o) := same_put s2 nD
              have pP : ∀ o, (upd H2 D o) p = some (.lst ((Txt.split z ".").map V.str)) := fun o => by
                rw [upd_ne npD]
                exact eP3
              have pD : ∀ k : Int, (upd H2 D (.lst (L.map V.int ++ [.int k]))) D = some (.lst ((L ++ [k]).map V.int)) := fun k => by
                rw [upd_same, List.map_append]
                rfl
              have small : (L.map V.int).length < sizeLine := by rw [List.length_map]; exact smallM (by omega)
              refine ⟨_, rfl, y, rfl, hy2, rfl, _, rfl, ?_⟩
              match e : y.cps.toList with
              | [] => rw [e] at hlen; rw [hlen] at h1; simp at h1
              | a :: b :: c :: r => rw [e] at hlen; simp only [List.length_cons] at hlen; omega
              | [a] =>
                have ha : 48 ≤ a ∧ a ≤ 57 := of_decide_eq_true (hall a (by rw [e]; exact List.mem_singleton.mpr rfl))
                have hn : rdI y = some ((a : Int) - 48) := by
                  unfold rdI
                  rw [e]
                  exact if_pos ha
                rw [decide_eq_false (fun h => by have := V.int.inj h; rw [hlen, e] at this; simp at this)]
                refine ⟨_, rfl, .inl ⟨rfl, _, .inl (.inl eD3)⟩, _, rfl, _, _, rfl, (by rw [str1 e]; exact int1 ha), (by rw [hlen, e]; simp), ?_⟩
                refine ⟨D, _, _, rfl, rfl, eD3, small, L ++ [(a : Int) - 48], _, _, rfl, sN _, pP _, pD _, tk _ hn⟩
              | [a, b] =>
                have ha : 48 ≤ a ∧ a ≤ 57 := of_decide_eq_true (hall a (by rw [e]; simp))
                have hb : 48 ≤ b ∧ b ≤ 57 := of_decide_eq_true (hall b (by rw [e]; simp))
                have hat : atI y.cps.toList (0 : Int) = some a := by rw [e]; rfl
                rw [decide_eq_true (by rw [hlen, e]; rfl)]
                refine ⟨_, rfl, _, _, a, rfl, rfl, hy2, hat, rfl, _, rfl, ?_⟩
                by_cases h48 : a = 48
                · rw [decide_eq_true (show V.str ⟨#[a]⟩ = V.str "0" by rw [zero_eq1]; exact h48)]
                  have hn : rdI y = none := by
                    unfold rdI
                    rw [e]
                    exact if_neg (by omega)
                  exact non hn H2 s2
                · rw [decide_eq_false (show ¬ V.str ⟨#[a]⟩ = V.str "0" by rw [zero_eq1]; exact h48)]
                  have hn : rdI y = some (((a : Int) - 48) * 10 + ((b : Int) - 48)) := by
                    unfold rdI
                    rw [e]
                    exact if_pos (by omega)
                  refine ⟨_, rfl, .inl ⟨rfl, _, .inl (.inl eD3)⟩, _, rfl, _, _, rfl, (by rw [str2 e]; exact int2 ha hb), (by rw [hlen, e]; simp), ?_⟩
                  refine ⟨D, _, _, rfl, rfl, eD3, small, L ++ [((a : Int) - 48) * 10 + ((b : Int) - 48)], _, _, rfl, sN _, pP _, pD _, tk _ hn⟩
            · rw [decide_eq_false h2]
              show if (!false) = true then _ else _
              refine iteT ?_
              have hn : rdI y = none := by
                unfold rdI
                match e : y.cps.toList with
                | [] => rfl
                | [a] => rw [e] at hlen; simp only [List.length_cons, List.length_nil] at hlen; omega
                | [a, b] => rw [e] at hlen; simp only [List.length_cons, List.length_nil] at hlen; omega
                | a :: b :: c :: r => rfl
              exact non hn H2 s2
          · have h1 : ¬ (1 : Int) ≤ (y.length : Int) := fun h => e (decide_eq_true h)
            have hn : rdI y = none := by
              unfold rdI
              match e : y.cps.toList with
              | [] => rfl
              | a :: r => rw [e] at hlen; simp only [List.length_cons] at hlen; omega
            exact ⟨_, rfl, non hn H2 s2⟩
        · rw [hb]
          refine iteT ?_
          have hn : rdI y = none := by
            unfold rdI
            match e : y.cps.toList with
            | [] => rfl
            | [a] =>
              rw [e] at hc
              rw [List.mem_singleton.mp hc] at hdc
              exact if_neg (of_decide_eq_false hdc)
            | [a, b] =>
              refine if_neg (fun h => ?_)
              rw [e] at hc
              have := of_decide_eq_false hdc
              rcases List.mem_cons.mp hc with h1 | h1
              · rw [h1] at this; omega
              · rw [List.mem_singleton.mp h1] at this; omega
            | a :: b :: c :: r => rfl
          exact non hn H2 s2
    · rintro σ' H' ⟨L, y2, y3, rfl, sm, eP, eD, eL⟩
      rw [List.length_map, List.take_length] at eL
      have hLn : L ≠ [] := fun e => split_ne z "." (by rw [e] at eL; exact List.map_eq_nil_iff.mp eL)
      have hk : rdL z = if L.length ≤ 3 ∧ L.getLastD 0 ≠ 0 then some L else none := by
        unfold rdL
        rw [eL, keep_map]
      have hgl : L.getLastD 0 = L.getLast hLn := by
        rw [List.getLastD_eq_getLast?, List.getLast?_eq_getLast hLn]
        rfl
      have hat : atI (L.map V.int) (-1) = some (.int (L.getLast hLn)) := by
        have : L.map V.int = (L.dropLast.map V.int) ++ [V.int (L.getLast hLn)] := by
          rw [← List.map_singleton, ← List.map_append, List.dropLast_concat_getLast]
        rw [this]
        exact atI_last _ _
      have hpos : 0 ≤ L.getLast hLn := by
        have : some (L.getLast hLn) ∈ L.map some := List.mem_map.mpr ⟨_, List.getLast_mem hLn, rfl⟩
        rw [← eL] at this
        exact (rdI_some this).1
      have hl : ((L.map V.int).length : Int) = (L.length : Int) := by rw [List.length_map]
      refine ⟨_, rfl, _, _, rfl, .inl (.inl (.inl eD)), _, _, rfl, rfl, _, rfl, ite2 (fun e => ?_) (fun e => ?_)⟩
      · have h3 : ((L.map V.int).length : Int) ≤ 3 := of_decide_eq_true e
        refine ⟨_, rfl, 1, rfl, _, _, -1, _, rfl, rfl, .inl (.inl eD), hat, _, _, rfl, rfl, _, rfl, ite2 (fun e => ?_) (fun e => ?_)⟩
        · have h1 : (1 : Int) ≤ L.getLast hLn := of_decide_eq_true e
          rw [if_pos ⟨by omega, by omega⟩] at hk
          refine ⟨_, rfl, D, _, rfl, .inl ⟨.inl (.inl eD), fun l nl => ?_⟩⟩
          exact q2 _ hk _ _ (sm.trans (same_upd nl)) ⟨l, rfl, upd_same⟩
        · have h1 : ¬ (1 : Int) ≤ L.getLast hLn := fun h => e (decide_eq_true h)
          rw [if_neg (fun h => by omega)] at hk
          exact q1 hk H' sm
      · have h3 : ¬ ((L.map V.int).length : Int) ≤ 3 := fun h => e (decide_eq_true h)
        rw [if_neg (fun h => by omega)] at hk
        exact q1 hk H' sm
theorem ok_other (T : Tab K mg) : FnOk P w K mg base CX0 1 T.f_other T.d_other ["_law_token_here"] (sp_other K) := by
  refine T.F_other.ok sc_other (fun vs H Q E h => ?_) (fun cdv A outer s H vs Q E hr h => ?_)
  · obtain ⟨z, rfl, _⟩ := h
    rfl
  · obtain ⟨z, rfl, tz, q⟩ := h
    refine ⟨_, (pss_cons (ps_if (pt_cmpR op_lt (pe_callB call_len_str (by rfl) T.m_len PySem.boot_len (pa_cons (pv 0) pa_nil)) pe_int (nomark _))
      (pss_one (ps_ret (pe_op op_add_str (pv 0) pe_str)))
      pss_nil)
      (pss_cons (ps_if (pt_cmpR op_eq (pe_ix ix_str (pv 0) pe_int (fun _ _ => rfl)) pe_str (nomark _))
      (pss_one (ps_ret (pe_op op_add_str pe_str (pe_slice sl_str (pv 0) (po_some pe_int) po_none))))
      pss_nil)
      (pss_one (ps_ret (pe_op op_add_str pe_str (pe_slice sl_str (pv 0) (po_some pe_int) po_none)))))), ?_⟩
    have l := tz.len
    have hz2 : z.length ≤ sizeLine := Nat.le_of_lt (small1000 (by omega))
    obtain ⟨c, r, ec⟩ : ∃ c r, z.cps.toList = c :: r := by
      cases e : z.cps.toList with
      | nil => have := str_len z; rw [e] at this; simp at this; omega
      | cons c r => exact ⟨c, r, rfl⟩
    refine ⟨_, rfl, z, rfl, hz2, _, _, rfl, rfl, _, rfl, ite2 (fun e => ?_) (fun e => ?_)⟩
    · have e20 : (z.length : Int) < 20 := of_decide_eq_true e
      have lx : ("x" : Str).length = 1 := by decide +kernel
      refine ⟨_, rfl, _, _, rfl, rfl, by rw [lx]; exact Nat.le_of_lt (small1000 (by omega)), ?_⟩
      refine q _ (tok_of (by rw [app_len]; omega) (by rw [app_len]; omega) (app_sgn tz.sgn (all_sgn (by decide +kernel)))) fun e => ?_
      have := congrArg Str.length e
      rw [app_len, lx] at this
      omega
    have hne : ∀ (d : Nat) (y : Str), y = ⟨#[d]⟩ → c ≠ d → z ≠ y ++ cutS z (some 1) none := fun d y ey n e => by
      have this : z.cps.toList = (y ++ cutS z (some 1) none).cps.toList := congrArg (fun s : Str => s.cps.toList) e
      rw [cps_toList_append, ec, ey] at this
      injection this with h1 _
      exact n h1
    have hat : atI z.cps.toList (0 : Int) = some c := at_of' (j := 0) rfl (by rw [ec]; rfl)
    refine ⟨_, rfl, _, _, c, rfl, rfl, hz2, hat, rfl, _, rfl, ite2 (fun e => ?_) (fun e => ?_)⟩
    · have hc : c = 121 := one_inj (V.str.inj (of_decide_eq_true e))
      refine ⟨_, rfl, 1, rfl, z, rfl, hz2, _, _, rfl, rfl, ?_, ?_⟩
      · exact Nat.le_of_lt (small1000 (by rw [cut1_len l.1, show ("z" : Str).length = 1 by decide +kernel]; omega))
      · exact q _ (tok_new tz (by decide +kernel) (all_sgn (by decide +kernel))) (hne 122 "z" rfl (by omega))
    · have hc : c ≠ 121 := fun z => e (decide_eq_true (by rw [z]; rfl))
      refine ⟨_, rfl, 1, rfl, z, rfl, hz2, _, _, rfl, rfl, ?_, ?_⟩
      · exact Nat.le_of_lt (small1000 (by rw [cut1_len l.1, show ("y" : Str).length = 1 by decide +kernel]; omega))
      · exact q _ (tok_new tz (by decide +kernel) (all_sgn (by decide +kernel))) (hne 121 "y" rfl hc)
theorem ok_number (T : Tab K mg) : FnOk P w K mg base CX0 1 T.f_number T.d_number ["_law_word", "_law_most"] (sp_number K) := by
  refine T.F_number.ok sc_number (fun vs H Q E h => ?_) (fun cdv A outer s H vs Q E hr h => ?_)
  · obtain ⟨z, m, rfl, _⟩ := h
    rfl
  · obtain ⟨z, m, rfl, hz, q⟩ := h
    refine ⟨_, (pss_cons (ps_if (PW.pt (pw_or (pt_not (pt_chain op_le op_le pe_int (pe_callB call_len_str (by rfl) T.m_len PySem.boot_len (pa_cons (pv 0) pa_nil)) pe_int)) (pw_or1 (PW.pt (pw_and (pt_cmpR op_eq (pe_callB call_len_str (by rfl) T.m_len PySem.boot_len (pa_cons (pv 0) pa_nil)) pe_int (nomark _)) (pw_and1 (pt_cmpR op_eq (pe_ix ix_str (pv 0) pe_int (fun _ _ => rfl)) pe_str (nomark _))))))))
      (pss_one (ps_ret pe_non))
      pss_nil)
      (pss_cons (ps_for PassesOwn.never rfl (pi_str (pv 0)) (pg_name (i := 2) sc_number.nd rfl (.inl rfl))
      (pss_one (ps_if (pt_cmpR op_notIn_sign (pv 2) pe_str rfl)
        (pss_one (ps_ret pe_non))
        pss_nil)))
      (pss_cons (ps_if (pt_cmpR op_gt (pe_callTy call_int_str (by rfl) T.m_int (by decide +kernel) (pa_cons (pv 0) pa_nil)) (pv 1) (nomark _))
      (pss_one (ps_ret pe_non))
      pss_nil)
      (pss_one (ps_ret (pe_callTy call_int_str (by rfl) T.m_int (by decide +kernel) (pa_cons (pv 0) pa_nil))))))), ?_⟩
    have hz2 : z.length ≤ sizeLine := Nat.le_of_lt (smallM (by omega))
    have hl : z.length = z.cps.toList.length := rfl
    have no : rdI z = none → Q .non H := fun e => by rw [rdM_non e] at q; exact q
    refine ⟨_, rfl, z, rfl, hz2, _, _, rfl, rfl, _, rfl, ite2 (fun e => ?_) (fun e => ?_)⟩
    · have e1 : (1 : Int) ≤ z.length := of_decide_eq_true e
      refine ⟨_, _, rfl, rfl, _, rfl, ?_⟩
      by_cases h2 : (z.length : Int) ≤ 2
      · rw [decide_eq_true h2]
        refine iteF ?_
        refine ⟨_, rfl, z, rfl, hz2, rfl, _, rfl, ?_⟩
        by_cases l2 : z.length = 2
        · rw [decide_eq_true (show V.int (z.length : Int) = V.int 2 by rw [l2]; rfl)]
          obtain ⟨a, ha⟩ : ∃ a, z.cps.toList[0]? = some a := ⟨_, List.getElem?_eq_getElem (by omega)⟩
          refine iteT ⟨_, rfl, _, _, a, rfl, rfl, hz2, at_of' (j := 0) rfl ha, rfl, _, rfl, ite2 (fun e => ?_) (fun e => ?_)⟩
          · have e : a = 48 := by have := of_decide_eq_true e; rw [zero_eq1] at this; exact this
            exact no (rdI_zero l2 (by rw [ha, e]))
          have hbad : z.length = 2 → z.cps.toList[0]? ≠ some 48 := fun _ h => e (decide_eq_true (by rw [zero_eq1]; rw [ha] at h; exact Option.some.inj h))
          clear e
          refine ⟨_, rfl, z, rfl, for_it walk_str (fun i σ' H' => ∃ y2 : Option V, σ' = [some (.str z), some (.int m), y2] ∧ H' = H ∧ ∀ c ∈ z.cps.toList.take i, dg c = true) ⟨none, rfl, rfl, fun _ h => by simp at h⟩ (fun _ _ _ _ _ => trivial) ?_ ?_⟩
          · rintro i x σ' H1 H2 hi ⟨y2, rfl, rfl, hd⟩ ⟨rfl, c, hc, rfl⟩
            have hc2 : z.cps.toList[i]? = some c := by rw [Array.getElem?_toList]; exact hc
            refine ⟨_, rfl, c, _, rfl, rfl, _, rfl, ite2 (fun e => ?_) (fun e => ?_)⟩
            · rw [dig_in] at e
              exact no (rdI_bad (List.mem_of_getElem? hc2) (by simpa using e))
            · rw [dig_in] at e
              refine ⟨_, rfl, rfl, fun d hd2 => ?_⟩
              rw [List.take_add_one, hc2] at hd2
              rcases List.mem_append.mp hd2 with h | h
              · exact hd d h
              · rw [List.mem_singleton.mp h]; simpa using e
          rintro σ' H1 ⟨y2, rfl, rfl, hd⟩
          rw [List.take_of_length_le (by rw [Array.length_toList]; exact Nat.le_refl _)] at hd
          obtain ⟨i, ei, et⟩ := rdI_int ⟨by omega, by omega⟩ hbad hd
          refine ⟨_, rfl, _, _, rfl, et, by omega, _, rfl, _, _, rfl, rfl, _, rfl, ite2 (fun e => ?_) (fun e => ?_)⟩
          · have : m < i := of_decide_eq_true e
            rw [show rdM m z = none by unfold rdM; rw [ei]; exact if_neg (by omega)] at q
            exact q
          · have : ¬ m < i := fun h => e (decide_eq_true h)
            rw [show rdM m z = some i by unfold rdM; rw [ei]; exact if_pos (by omega)] at q
            exact ⟨_, rfl, _, _, rfl, et, by omega, q⟩
        · rw [decide_eq_false (show ¬ V.int (z.length : Int) = V.int 2 from fun h => l2 (by have := V.int.inj h; omega))]
          refine iteF ?_
          have hbad : z.length = 2 → z.cps.toList[0]? ≠ some 48 := fun h => absurd h l2
          refine ⟨_, rfl, z, rfl, for_it walk_str (fun i σ' H' => ∃ y2 : Option V, σ' = [some (.str z), some (.int m), y2] ∧ H' = H ∧ ∀ c ∈ z.cps.toList.take i, dg c = true) ⟨none, rfl, rfl, fun _ h => by simp at h⟩ (fun _ _ _ _ _ => trivial) ?_ ?_⟩
          · rintro i x σ' H1 H2 hi ⟨y2, rfl, rfl, hd⟩ ⟨rfl, c, hc, rfl⟩
            have hc2 : z.cps.toList[i]? = some c := by rw [Array.getElem?_toList]; exact hc
            refine ⟨_, rfl, c, _, rfl, rfl, _, rfl, ite2 (fun e => ?_) (fun e => ?_)⟩
            · rw [dig_in] at e
              exact no (rdI_bad (List.mem_of_getElem? hc2) (by simpa using e))
            · rw [dig_in] at e
              refine ⟨_, rfl, rfl, fun d hd2 => ?_⟩
              rw [List.take_add_one, hc2] at hd2
              rcases List.mem_append.mp hd2 with h | h
              · exact hd d h
              · rw [List.mem_singleton.mp h]; simpa using e
          rintro σ' H1 ⟨y2, rfl, rfl, hd⟩
          rw [List.take_of_length_le (by rw [Array.length_toList]; exact Nat.le_refl _)] at hd
          obtain ⟨i, ei, et⟩ := rdI_int ⟨by omega, by omega⟩ hbad hd
          refine ⟨_, rfl, _, _, rfl, et, by omega, _, rfl, _, _, rfl, rfl, _, rfl, ite2 (fun e => ?_) (fun e => ?_)⟩
          · have : m < i := of_decide_eq_true e
            rw [show rdM m z = none by unfold rdM; rw [ei]; exact if_neg (by omega)] at q
            exact q
          · have : ¬ m < i := fun h => e (decide_eq_true h)
            rw [show rdM m z = some i by unfold rdM; rw [ei]; exact if_pos (by omega)] at q
            exact ⟨_, rfl, _, _, rfl, et, by omega, q⟩
      · rw [decide_eq_false h2]
        exact iteT (no (rdI_len (by omega)))
    · exact ⟨_, rfl, no (rdI_len (fun h => e (decide_eq_true (by omega))))⟩
theorem ok_is_within (T : Tab K mg) : FnOk P w K mg base CX0 2 T.f_is_within T.d_is_within ["thing", "least", "most"] (sp_is_within K) := by
  refine T.F_is_within.ok sc_is_within (fun vs H Q E h => ?_) (fun cdv A outer s H vs Q E hr h => ?_)
  · obtain ⟨v, d, l, m, rfl, _⟩ := h
    rfl
  · obtain ⟨v, d, l, m, rfl, hd, q⟩ := h
    refine ⟨_, (pss_one (ps_ret (pe_and (pe_call (ok_is_integer T) (hr.mono (by decide)) (by rfl) T.g_is_integer T.F_is_integer.kp T.b_is_integer .nil pass0 (pa_cons (pv 0) pa_nil)) (pe_one (pe_chain op_le op_le (pv 1) (pv 0) (pv 2)))))), ?_⟩
    refine ⟨_, rfl, _, d, rfl, hd, ?_⟩
    cases hd with
    | int i =>
      refine ⟨true, rfl, iteT ?_⟩
      refine ⟨_, rfl, _, rfl, _, _, rfl, rfl, _, rfl, ite2 (fun e => ?_) (fun e => ?_)⟩
      · have h1 : l ≤ i := of_decide_eq_true e
        refine ⟨_, rfl, _, _, rfl, rfl, ?_⟩
        have : wI l m (.int i) = decide (i ≤ m) := by
          show decide (l ≤ i ∧ i ≤ m) = _
          simp [h1]
        rw [this] at q
        exact q
      · have h1 : ¬ l ≤ i := fun h => e (decide_eq_true h)
        have : wI l m (.int i) = false := by
          show decide (l ≤ i ∧ i ≤ m) = _
          simp [h1]
        rw [this] at q
        exact q
    | non => exact ⟨false, rfl, q⟩
    | bl b => exact ⟨false, rfl, q⟩
    | str z => exact ⟨false, rfl, q⟩
    | lst h _ => exact ⟨false, rfl, q⟩
    | tup h _ => exact ⟨false, rfl, q⟩
theorem ok_is_sized (T : Tab K mg) : FnOk P w K mg base CX0 2 T.f_is_sized T.d_is_sized ["thing", "least", "most"] (sp_is_sized K) := by
  refine T.F_is_sized.ok sc_is_sized (fun vs H Q E h => ?_) (fun cdv A outer s H vs Q E hr h => ?_)
  · obtain ⟨v, d, l, m, rfl, _⟩ := h
    rfl
  · obtain ⟨v, d, l, m, rfl, hd, q⟩ := h
    refine ⟨_, (pss_one (ps_ret (pe_and (pe_call (ok_is_tuple T) (hr.mono (by decide)) (by rfl) T.g_is_tuple T.F_is_tuple.kp T.b_is_tuple .nil pass0 (pa_cons (pv 0) pa_nil)) (pe_one (pe_chain op_le op_le (pv 1) (pe_callB call_len_seq (by rfl) T.m_len PySem.boot_len (pa_cons (pv 0) pa_nil)) (pv 2)))))), ?_⟩
    refine ⟨_, rfl, _, d, rfl, .inl ⟨hd, fun H1 s1 => ?_⟩⟩
    have q1 := q H1 s1
    have cut : ∀ ds : List PyData, items d = some ds → ∀ e : Bool, (l ≤ (ds.length : Int)) → (decide ((ds.length : Int) ≤ m) = e) → sz l m d = e := fun ds hi e h1 h2 => by
      unfold sz
      rw [hi]
      simp only
      rw [← h2]
      simp [h1]
    have cut0 : ∀ ds : List PyData, items d = some ds → ¬ (l ≤ (ds.length : Int)) → sz l m d = false := fun ds hi h1 => by
      unfold sz
      rw [hi]
      simp [h1]
    cases hd with
    | lst h k =>
      rename_i a xs ds
      have el := dpAll_len k
      refine ⟨true, rfl, iteT ?_⟩
      refine ⟨_, rfl, _, rfl, _, _, rfl, .inl (s1.seq h), _, _, rfl, rfl, _, rfl, ite2 (fun e => ?_) (fun e => ?_)⟩
      · have h1 := of_decide_eq_true e
        rw [el] at h1 ⊢
        refine ⟨_, rfl, _, _, rfl, rfl, ?_⟩
        rw [cut ds rfl _ h1 rfl] at q1
        exact q1
      · have h1 : ¬ (l ≤ (ds.length : Int)) := fun z => e (by rw [el]; exact decide_eq_true z)
        rw [cut0 ds rfl h1] at q1
        exact q1
    | tup h k =>
      rename_i a xs ds
      have el := dpAll_len k
      refine ⟨true, rfl, iteT ?_⟩
      refine ⟨_, rfl, _, rfl, _, _, rfl, .inr (same_seqT s1 h), _, _, rfl, rfl, _, rfl, ite2 (fun e => ?_) (fun e => ?_)⟩
      · have h1 := of_decide_eq_true e
        rw [el] at h1 ⊢
        refine ⟨_, rfl, _, _, rfl, rfl, ?_⟩
        rw [cut ds rfl _ h1 rfl] at q1
        exact q1
      · have h1 : ¬ (l ≤ (ds.length : Int)) := fun z => e (by rw [el]; exact decide_eq_true z)
        rw [cut0 ds rfl h1] at q1
        exact q1
    | non => exact ⟨false, rfl, q1⟩
    | bl b => exact ⟨false, rfl, q1⟩
    | int i => exact ⟨false, rfl, q1⟩
    | str z => exact ⟨false, rfl, q1⟩
theorem ok_page_word (T : Tab K mg) : FnOk P w K mg base CX0 2 T.f_page_word T.d_page_word ["_law_page"] (sp_page_word K) := by
  refine T.F_page_word.ok sc_page_word (fun vs H Q E h => ?_) (fun cdv A outer s H vs Q E hr h => ?_)
  · obtain ⟨v, p, rfl, _⟩ := h
    rfl
  · obtain ⟨v, p, rfl, hv, hp, q⟩ := h
    refine ⟨_, (pss_one (ps_ret (pe_op op_add_str (pe_call (ok_label_word T) (hr.mono (by decide)) (by rfl) T.g_label_word T.F_label_word.kp T.b_label_word .nil pass0 (pa_cons (pe_ix ix_tup (pv 0) pe_int (fun _ _ => rfl)) pa_nil)) (pe_ifExp (pt_cmpR op_eq (pe_ix ix_tup (pv 0) pe_int (fun _ _ => rfl)) pe_int (nomark _)) pe_str pe_str)))), ?_⟩
    obtain ⟨a, l, rfl, h1, h2⟩ := dP_inv hv
    have l1 := fL_len hp.1
    refine ⟨_, rfl, a, _, 0, .ref l, rfl, rfl, h1, rfl, l, p.1, rfl, h2, hp.1, fun H1 s1 => ?_⟩
    have qq := q H1 s1
    unfold fP at qq
    refine ⟨_, rfl, a, _, 1, .int p.2, rfl, rfl, same_seqT s1 h1, rfl, rfl, _, rfl, ite2 (fun e => ?_) (fun e => ?_)⟩
    · have e1 : p.2 = 0 := V.int.inj (of_decide_eq_true e)
      rw [if_pos e1] at qq
      refine ⟨_, _, rfl, rfl, ?_, qq⟩
      exact Nat.le_of_lt (small1000 (by show _ + 1 ≤ 1000; omega))
    · have e1 : ¬ p.2 = 0 := fun h => e (decide_eq_true (congrArg V.int h))
      rw [if_neg e1] at qq
      refine ⟨_, _, rfl, rfl, ?_, qq⟩
      exact Nat.le_of_lt (small1000 (by show _ + 1 ≤ 1000; omega))
theorem ok_law_read_page (T : Tab K mg) : FnOk P w K mg base CX0 2 T.f_law_read_page T.d_law_read_page ["_law_word"] (sp_law_read_page K) := by
  refine T.F_law_read_page.ok sc_law_read_page (fun vs H Q E h => ?_) (fun cdv A outer s H vs Q E hr h => ?_)
  · obtain ⟨z, rfl, _⟩ := h
    rfl
  · obtain ⟨z, rfl, hz, q1, q2⟩ := h
    refine ⟨_, (C8.pss_cut (ps_set (i := 1) sc_law_read_page.nd rfl (.inl rfl) (pe_ifExp (pt_cmpR op_in_seq (pe_slice sl_str (pv 0) (po_some (pe_un un_neg pe_int)) po_none) (pe_tup (pa_cons pe_str (pa_cons pe_str pa_nil))) (by rfl)) (pe_call (ok_law_read_label T) (hr.mono (by decide)) (by rfl) T.g_law_read_label T.F_law_read_label.kp T.b_law_read_label .nil pass0 (pa_cons (pe_slice sl_str (pv 0) po_none (po_some (pe_un un_neg pe_int))) pa_nil)) pe_non))
      (pss_one (ps_ret (pe_ifExp (pt_cmpR op_isN (pv 1) pe_non (nomark _)) pe_non (pe_tup (pa_cons (pv 1) (pa_cons (pe_callTy call_int1 (by rfl) T.m_int (by decide +kernel) (pa_cons (pe_cmpR op_eq (pe_ix ix_str (pv 0) (pe_un un_neg pe_int) (fun _ _ => rfl)) pe_str (nomark _)) pa_nil)) pa_nil))))))), ?_⟩
    have hz2 : z.length ≤ sizeLine := Nat.le_of_lt (smallM (by omega))
    have lc := cutS_length z none (some (-1))
    refine ⟨fun σ' H' => ∃ v, σ' = [some (.str z), some v] ∧ Same H H' ∧ ((v = .non ∧ rdP z = none) ∨ ∃ c L, z.cps.toList.getLast? = some c ∧ (c = 97 ∨ c = 98) ∧ rdP z = some (L, (c : Int) - 97) ∧ ∃ l, v = .ref l ∧ H' l = some (.tup (L.map V.int))), ?_, ?_⟩
    · refine ⟨_, rfl, 1, rfl, -1, rfl, z, rfl, hz2, (by show 2 ≤ sizeLine; decide), fun t nt => ?_⟩
      have s1 := same_upd (o := .tup [.str "a", .str "b"]) nt
      refine ⟨t, _, rfl, .inr (.inl (.inl upd_same)), rfl, rfl, _, rfl, ?_⟩
      show if inV (.str (cutS z (some (-1)) none)) [.str "a", .str "b"] = true then _ else _
      rw [ab_in]
      generalize upd H t (.tup [.str "a", .str "b"]) = H1 at s1
      rcases cut_end z with ⟨e0, ec⟩ | ⟨c, e0, ec⟩
      · have hn : rdP z = none := by
          unfold rdP
          rw [e0]
          rfl
        rw [ec, decide_eq_false (by decide +kernel)]
        exact ⟨_, rfl, s1, .inl ⟨rfl, hn⟩⟩
      · by_cases hc : c = 97 ∨ c = 98
        · have hin : cutS z (some (-1)) none = ⟨#[97]⟩ ∨ cutS z (some (-1)) none = ⟨#[98]⟩ := by
            rw [ec]
            rcases hc with rfl | rfl
            · exact .inl rfl
            · exact .inr rfl
          rw [decide_eq_true hin]
          refine iteT ?_
          have hr : rdP z = match rdL (cutS z none (some (-1))) with | some L => some (L, (c : Int) - 97) | none => none := by
            unfold rdP
            rw [e0]
            exact if_pos hc
          refine ⟨_, rfl, 1, rfl, -1, rfl, z, rfl, hz2, _, rfl, by omega, fun eL H2 s2 => ?_, fun L eL y H2 s2 ⟨l, ey, hl⟩ => ?_⟩
          · rw [eL] at hr
            exact ⟨_, rfl, s1.trans s2, .inl ⟨rfl, hr⟩⟩
          · rw [eL] at hr
            exact ⟨_, rfl, s1.trans s2, .inr ⟨c, L, e0, hc, hr, l, ey, hl⟩⟩
        · have hin : ¬ (cutS z (some (-1)) none = ⟨#[97]⟩ ∨ cutS z (some (-1)) none = ⟨#[98]⟩) := by
            rw [ec]
            rintro (h | h)
            · exact hc (.inl (one_inj h))
            · exact hc (.inr (one_inj h))
          have hn : rdP z = none := by
            unfold rdP
            rw [e0]
            exact if_neg hc
          rw [decide_eq_false hin]
          exact ⟨_, rfl, s1, .inl ⟨rfl, hn⟩⟩
    · rintro σ' H1 ⟨v, rfl, s1, ⟨rfl, hn⟩ | ⟨c, L, e0, hc, hr, l, rfl, hl⟩⟩
      · refine ⟨_, rfl, rfl, _, rfl, ite2 (fun _ => ?_) (fun h => absurd (decide_eq_true rfl) h)⟩
        exact q1 hn H1 s1
      · refine ⟨_, rfl, rfl, _, rfl, ite2 (fun e => absurd (of_decide_eq_true e) (by intro z; cases z)) (fun _ => ?_)⟩
        have hat : atI z.cps.toList (-1) = some c := by
          obtain ⟨r, hr⟩ := List.getLast?_eq_some_iff.mp e0
          rw [hr]
          exact atI_last _ _
        refine ⟨_, rfl, _, rfl, 1, rfl, _, _, c, rfl, rfl, hz2, hat, rfl, .inr ⟨_, rfl, (by show 2 ≤ sizeLine; decide), fun t2 nt2 => ?_⟩⟩
        have s3 := same_upd (o := .tup [.ref l, .int (if decide (V.str ⟨#[c]⟩ = V.str "b") = true then 1 else 0)]) nt2
        refine q2 _ hr (.ref t2) _ (s1.trans s3) ?_
        have hk2 : (if decide (V.str ⟨#[c]⟩ = V.str "b") = true then 1 else 0) = (c : Int) - 97 := by
          rcases hc with rfl | rfl
          · rw [if_neg (by decide +kernel)]
            rfl
          · rw [if_pos (by decide +kernel)]
            rfl
        rw [← hk2]
        exact tpP (p := (L, _)) upd_same (s3 _ _ hl)
theorem ok_token (T : Tab K mg) : FnOk P w K mg base CX0 2 T.f_token T.d_token ["_law_source_here", "_law_most"] (sp_token K) := by
  refine T.F_token.ok sc_token (fun vs H Q E h => ?_) (fun cdv A outer s H vs Q E hr h => ?_)
  · obtain ⟨a, m, rfl, _⟩ := h
    rfl
  · obtain ⟨a, m, rfl, src, m1, m20, q⟩ := h
    refine ⟨_, (pss_cons (ps_set (i := 2) sc_token.nd rfl (.inl rfl) pe_str)
      (pss_cons (ps_set (i := 3) sc_token.nd rfl (.inl rfl) (pe_op op_add pe_int (pe_call (ok_pick T) (hr.mono (by decide)) (by rfl) T.g_pick T.F_pick.kp T.b_pick .nil pass0 (pa_cons (pv 0) (pa_cons (pv 1) pa_nil)))))
      (pss_cons (ps_set (i := 4) sc_token.nd rfl (.inl rfl) pe_str)
      (pss_cons (ps_for PassesOwn.never rfl (pi_range1 (by rfl) T.m_range (pa_cons (pv 3) pa_nil)) (pg_name (i := 5) sc_token.nd rfl (.inl rfl))
      (pss_cons (ps_set (i := 6) sc_token.nd rfl (.inl rfl) (pe_call (ok_pick T) (hr.mono (by decide)) (by rfl) T.g_pick T.F_pick.kp T.b_pick .nil pass0 (pa_cons (pv 0) (pa_cons (pe_callB call_len_str (by rfl) T.m_len PySem.boot_len (pa_cons (pv 2) pa_nil)) pa_nil))))
        (pss_one (ps_set (i := 4) sc_token.nd rfl (.inl rfl) (pe_op op_add_str (pv 4) (pe_ix ix_str (pv 2) (pv 6) (fun _ _ => rfl)))))))
      (pss_one (ps_ret (pv 4))))))), ?_⟩
    refine ⟨_, rfl, _, rfl, a, m, rfl, src, by omega, by omega, fun r H1 s1 b1 r0 r1 => ⟨_, _, rfl, rfl, ?_⟩⟩
    have e0 : ∀ x ∈ ("" : Str).cps.toList, x ≠ 32 ∧ x < 128 := fun x hx => by cases (show x ∈ ([] : List Nat) from hx)
    refine ⟨_, rfl, _, rfl, by omega, by omega, for_range (lo := 0) (n := (1 + r).toNat) (fun j σ' H' => ∃ (y5 y6 : Option V) (z : Str), σ' = [some (.ref a), some (.int m), some (.str SG), some (.int (1 + r)), some (.str z), y5, y6] ∧ Src H' a ∧ But a H H' ∧ z.length = j ∧ ∀ x ∈ z.cps.toList, x ≠ 32 ∧ x < 128) ⟨none, none, "", rfl, s1, b1, rfl, e0⟩ ?_ ?_⟩
    · rintro j σ' H2 hj ⟨y5, y6, z, rfl, s2, b2, lz, hz⟩
      refine ⟨_, rfl, _, rfl, SG, rfl, by rw [str_len, SG_len, sizeLine_eq]; decide, a, _, rfl, s2, by rw [str_len, SG_len]; decide, by rw [str_len, SG_len]; decide, fun i H3 s3 b3 i0 i1 => ?_⟩
      rw [str_len, SG_len] at i1
      obtain ⟨c, hc⟩ := at_some SG.cps.toList i i0 (by rw [SG_len]; omega)
      have cm : c ∈ SG.cps.toList := by
        obtain ⟨k, rfl⟩ := Int.eq_ofNat_of_zero_le i0
        have := List.getElem?_eq_getElem (show k < SG.cps.toList.length by rw [SG_len]; omega)
        rw [atI_nat this] at hc
        cases hc
        exact List.mem_of_getElem? this
      refine ⟨_, rfl, _, rfl, _, rfl, SG, i, c, rfl, rfl, by rw [str_len, SG_len, sizeLine_eq]; decide, hc, _, _, rfl, rfl, Nat.le_of_lt (small1000 (by have : (⟨#[c]⟩ : Str).length = 1 := rfl; omega)), _, _, _, rfl, s3, b2.trans b3, ?_, app_sgn hz (one_sgn (SG_sgn c cm))⟩
      rw [app_len, lz]
      rfl
    · rintro σ' H2 ⟨y5, y6, z, rfl, s2, b2, lz, hz⟩
      exact ⟨_, rfl, q z H2 s2 b2 (tok_of (by omega) (by omega) hz)⟩
theorem ok_label (T : Tab K mg) : FnOk P w K mg base CX0 2 T.f_label T.d_label ["_law_source_here"] (sp_label K) := by
  refine T.F_label.ok sc_label (fun vs H Q E h => ?_) (fun cdv A outer s H vs Q E hr h => ?_)
  · obtain ⟨a, rfl, _⟩ := h
    rfl
  · obtain ⟨a, rfl, src, q⟩ := h
    refine ⟨_, (pss_cons (ps_set (i := 1) sc_label.nd rfl (.inl rfl) (pe_ix ix_list (pe_lst (pa_cons pe_int (pa_cons pe_int (pa_cons pe_int pa_nil)))) (pe_call (ok_pick T) (hr.mono (by decide)) (by rfl) T.g_pick T.F_pick.kp T.b_pick .nil pass0 (pa_cons (pv 0) (pa_cons pe_int pa_nil))) (fun _ _ => rfl)))
      (pss_cons (ps_set (i := 2) sc_label.nd rfl (.inl rfl) (pe_op op_add pe_int (pe_call (ok_pick T) (hr.mono (by decide)) (by rfl) T.g_pick T.F_pick.kp T.b_pick .nil pass0 (pa_cons (pv 0) (pa_cons pe_int pa_nil)))))
      (pss_cons (ps_set (i := 3) sc_label.nd rfl (.inl rfl) (pe_lst pa_nil))
      (pss_cons (ps_for PassesOwn.never rfl (pi_range1 (by rfl) T.m_range (pa_cons (pv 2) pa_nil)) (pg_name (i := 4) sc_label.nd rfl (.inl rfl))
      (pss_one (ps_expr (pe_bm PySem.F.plainAttrs_list PySem.F.slot_list_append PySem.F.type_list_append mt_append (pv 3) (pa_cons (pe_call (ok_pick T) (hr.mono (by decide)) (by rfl) T.g_pick T.F_pick.kp T.b_pick .nil pass0 (pa_cons (pv 0) (pa_cons (pv 1) pa_nil))) pa_nil)))))
      (C8.pss_cut (ps_if (pt_cmpR op_eq (pe_ix ix_list (pv 3) (pe_un un_neg pe_int) (fun _ _ => rfl)) pe_int (nomark _))
      (pss_one (ps_asg pe_int (pg_sub (pv 3) (pe_un un_neg pe_int) set_list)))
      pss_nil)
      (pss_one (ps_ret (pe_callTy call_tuple_of (by rfl) T.m_tuple (by decide +kernel) (pa_cons (pv 3) pa_nil))))))))), ?_⟩
    refine ⟨(by show 3 ≤ sizeLine; decide), fun u nu => ?_⟩
    have su := same_upd (o := .lst [.int 3, .int 12, .int 100]) nu
    have hu : upd H u (.lst [.int 3, .int 12, .int 100]) u = some (.lst [.int 3, .int 12, .int 100]) := upd_same
    have un : u ≠ a := (src.ne nu).symm
    generalize upd H u (.lst [.int 3, .int 12, .int 100]) = H0 at su hu
    refine ⟨_, rfl, a, 3, rfl, srcS su src, by decide, by decide, fun i H1 s1 b1 i0 i1 => ?_⟩
    obtain ⟨m, em, m1, m9⟩ : ∃ m : Int, ([.int 3, .int 12, .int 100] : List V)[i.toNat]? = some (.int m) ∧ 1 ≤ m ∧ m ≤ 100 := by
      obtain h | h | h : i.toNat = 0 ∨ i.toNat = 1 ∨ i.toNat = 2 := by omega
      · rw [h]; exact ⟨3, rfl, by decide, by decide⟩
      · rw [h]; exact ⟨12, rfl, by decide, by decide⟩
      · rw [h]; exact ⟨100, rfl, by decide, by decide⟩
    refine ⟨u, _, i, .int m, rfl, rfl, .inl (.inl (b1 _ _ un hu)), at_of' (Int.toNat_of_nonneg i0).symm em, ?_⟩
    have b01 := (But.of (a := a) su).trans b1
    refine ⟨_, rfl, a, 3, rfl, s1, by decide, by decide, fun n1 H2 s2 b2 p1 p2 => ⟨_, _, rfl, rfl, ?_⟩⟩
    have b02 := b01.trans b2
    refine ⟨Nat.zero_le _, fun D nD => ?_⟩
    have nDa : D ≠ a := (s2.ne nD).symm
    have fD : H D = none := b02.none nD nDa
    refine ⟨_, rfl, _, rfl, by omega, by omega, for_range (lo := 0) (n := (1 + n1).toNat) (fun j σ' H' => ∃ (y4 : Option V), σ' = [some (.ref a), some (.int m), some (.int (1 + n1)), some (.ref D), y4] ∧ Src H' a ∧ But a H H' ∧ ∃ L : List Int, H' D = some (.lst (L.map V.int)) ∧ L.length = j ∧ ∀ i ∈ L, 0 ≤ i ∧ i ≤ 99) ⟨none, rfl, s2.put nDa.symm _, b02.put fD _, [], upd_same, rfl, fun _ h => nomatch h⟩ ?_ ?_⟩
    · rintro j σ' H3 hj ⟨y4, rfl, s3, b3, L, eD, lL, bL⟩
      refine ⟨_, rfl, .inl ⟨rfl, _, .inl (.inl eD)⟩, _, rfl, _, rfl, a, m, rfl, s3, by omega, by omega, fun v H4 s4 b4 p3 p4 => ?_⟩
      refine ⟨D, _, _, rfl, rfl, b4 _ _ nDa eD, by rw [List.length_map]; exact small1000 (by omega), _, rfl, s4.put nDa.symm _, (b3.trans b4).put fD _, L ++ [v], ?_, ?_, ?_⟩
      · rw [upd_same, List.map_append]; rfl
      · rw [List.length_append, lL]; rfl
      · intro i hi
        rcases List.mem_append.mp hi with h | h
        · exact bL _ h
        · rw [List.mem_singleton.mp h]; omega
    · rintro σ' H3 ⟨y4, rfl, s2, b2, L, eD2, lL, bL⟩
      have hne : L ≠ [] := fun e => by rw [e] at lL; simp at lL; omega
      obtain ⟨R, x, rfl⟩ : ∃ R x, L = R ++ [x] := ⟨_, _, (List.dropLast_concat_getLast hne).symm⟩
      have hx := bL x (by simp)
      have lR : (R ++ [x]).length ≤ 3 := by omega
      refine ⟨fun σ' H' => ∃ (L : List Int), σ' = [some (.ref a), some (.int m), some (.int (1 + n1)), some (.ref D), y4] ∧ Src H' a ∧ But a H H' ∧ H' D = some (.lst (L.map V.int)) ∧ okL L, ?_, ?_⟩
      · refine ⟨_, rfl, 1, rfl, D, _, -1, .int x, rfl, rfl, .inl (.inl eD2), at_end R x, rfl, _, rfl, ite2 (fun e => ?_) (fun e => ?_)⟩
        · refine ⟨_, rfl, 1, rfl, D, _, -1, _, rfl, rfl, eD2, ixN_end R x, ?_⟩
          refine ⟨R ++ [1], rfl, s2.put nDa.symm _, b2.put fD _, ?_, ?_, ?_, ?_⟩
          · rw [upd_same, set_end]
          · rw [List.length_append] at lR ⊢; exact lR
          · rw [List.getLastD_eq_getLast?, List.getLast?_append]
            show (1 : Int) ≠ 0
            omega
          · intro i hi
            rcases List.mem_append.mp hi with h | h
            · exact bL _ (List.mem_append_left _ h)
            · rw [List.mem_singleton.mp h]; omega
        · have hx0 : x ≠ 0 := fun h => e (decide_eq_true (congrArg V.int h))
          refine ⟨_, rfl, s2, b2, eD2, lR, ?_, bL⟩
          rw [List.getLastD_eq_getLast?, List.getLast?_append]
          exact hx0
      · rintro σ' H4 ⟨L, rfl, s3, b3, eD3, hL⟩
        refine ⟨_, rfl, D, _, rfl, .inl ⟨.inl (.inl eD3), fun l nl => ?_⟩⟩
        have nla : l ≠ a := (s3.ne nl).symm
        exact q l L _ (s3.put nla.symm _) (b3.trans (But.of (same_upd nl))) upd_same hL
theorem ok_odd_word (T : Tab K mg) : FnOk P w K mg base CX0 2 T.f_odd_word T.d_odd_word ["_law_source_here"] (sp_odd_word K) := by
  refine T.F_odd_word.ok sc_odd_word (fun vs H Q E h => ?_) (fun cdv A outer s H vs Q E hr h => ?_)
  · obtain ⟨a, rfl, _⟩ := h
    rfl
  · obtain ⟨a, rfl, src, q⟩ := h
    refine ⟨_, (pss_cons (ps_set (i := 1) sc_odd_word.nd rfl (.inl rfl) (pe_lst (pa_cons pe_str (pa_cons pe_str (pa_cons pe_str (pa_cons pe_str (pa_cons pe_str (pa_cons pe_str (pa_cons pe_str (pa_cons pe_str (pa_cons pe_str (pa_cons pe_str (pa_cons pe_str (pa_cons pe_str (pa_cons pe_str (pa_cons pe_str (pa_cons pe_str (pa_cons pe_str (pa_cons pe_str (pa_cons pe_str pa_nil))))))))))))))))))))
      (pss_cons (ps_set (i := 1) sc_odd_word.nd rfl (.inl rfl) (pe_op op_cat (pv 1) (pe_lst (pa_cons pe_str (pa_cons pe_str (pa_cons pe_str (pa_cons pe_str (pa_cons pe_str (pa_cons pe_str (pa_cons pe_str (pa_cons pe_str (pa_cons pe_str (pa_cons pe_str (pa_cons pe_str (pa_cons pe_str pa_nil)))))))))))))))
      (pss_cons (ps_set (i := 1) sc_odd_word.nd rfl (.inl rfl) (pe_op op_cat (pv 1) (pe_lst (pa_cons pe_str (pa_cons pe_str (pa_cons pe_str (pa_cons pe_str pa_nil)))))))
      (pss_one (ps_ret (pe_ix ix_list (pv 1) (pe_call (ok_pick T) (hr.mono (by decide)) (by rfl) T.g_pick T.F_pick.kp T.b_pick .nil pass0 (pa_cons (pv 0) (pa_cons (pe_callB call_len_seq (by rfl) T.m_len PySem.boot_len (pa_cons (pv 1) pa_nil)) pa_nil))) (fun _ _ => rfl))))))), ?_⟩
    refine ⟨(by show 18 ≤ sizeLine; decide), fun w1 nw1 => ?_⟩
    have s1 := same_upd (o := .lst (OW1.map V.str)) nw1
    have h1 : upd H w1 (.lst (OW1.map V.str)) w1 = some (.lst (OW1.map V.str)) := upd_same
    have src1 := srcS s1 src
    refine ⟨_, rfl, (by show 12 ≤ sizeLine; decide), fun w2 nw2 => ?_⟩
    have s2 := same_upd (H := upd H w1 (.lst (OW1.map V.str))) (o := .lst (OW2.map V.str)) nw2
    have h2 : upd (upd H w1 (.lst (OW1.map V.str))) w2 (.lst (OW2.map V.str)) w2 = some (.lst (OW2.map V.str)) := upd_same
    have h1' := s2 _ _ h1
    refine ⟨w1, w2, _, _, rfl, rfl, h1', h2, by show 18 + 12 ≤ sizeLine; decide, fun w3 nw3 => ?_⟩
    have s3 := same_upd (H := upd (upd H w1 (.lst (OW1.map V.str))) w2 (.lst (OW2.map V.str))) (o := .lst (OW1.map V.str ++ OW2.map V.str)) nw3
    have h3 : upd (upd (upd H w1 (.lst (OW1.map V.str))) w2 (.lst (OW2.map V.str))) w3 (.lst (OW1.map V.str ++ OW2.map V.str)) w3 = some (.lst (OW1.map V.str ++ OW2.map V.str)) := upd_same
    refine ⟨_, rfl, (by show 4 ≤ sizeLine; decide), fun w4 nw4 => ?_⟩
    have s4 := same_upd (H := upd (upd (upd H w1 (.lst (OW1.map V.str))) w2 (.lst (OW2.map V.str))) w3 (.lst (OW1.map V.str ++ OW2.map V.str))) (o := .lst (OW3.map V.str)) nw4
    have h3' := s4 _ _ h3
    refine ⟨w3, w4, _, _, rfl, rfl, h3', upd_same, by show 30 + 4 ≤ sizeLine; decide, fun w5 nw5 => ?_⟩
    have s5 := same_upd (H := upd (upd (upd (upd H w1 (.lst (OW1.map V.str))) w2 (.lst (OW2.map V.str))) w3 (.lst (OW1.map V.str ++ OW2.map V.str))) w4 (.lst (OW3.map V.str))) (o := .lst (OW.map V.str)) nw5
    have h5 : upd (upd (upd (upd (upd H w1 (.lst (OW1.map V.str))) w2 (.lst (OW2.map V.str))) w3 (.lst (OW1.map V.str ++ OW2.map V.str))) w4 (.lst (OW3.map V.str))) w5 (.lst (OW.map V.str)) w5 = some (.lst (OW.map V.str)) := upd_same
    have sA := (((s1.trans s2).trans s3).trans s4).trans s5
    have src5 := srcS sA src
    have wn : w5 ≠ a := fun z => ((srcS (((s1.trans s2).trans s3).trans s4) src).ne nw5) z.symm
    refine ⟨_, rfl, _, rfl, _, rfl, w5, _, rfl, .inl (.inl (.inl h5)), a, 34, rfl, src5, by decide, by decide, fun i H3 s3 b3 i0 i1 => ?_⟩
    obtain ⟨z, ez⟩ : ∃ z, OW[i.toNat]? = some z := ⟨_, List.getElem?_eq_getElem (by show i.toNat < 34; omega)⟩
    have zm := List.mem_of_getElem? ez
    exact ⟨w5, _, i, .str z, rfl, rfl, .inl (.inl (b3 _ _ wn h5)), at_of' (Int.toNat_of_nonneg i0).symm (by rw [List.getElem?_map, ez]; rfl), q z H3 s3 ((But.of sA).trans b3) (OW_ok z zm).1 (OW_ok z zm).2⟩
theorem ok_kept_label (T : Tab K mg) : FnOk P w K mg base CX0 3 T.f_kept_label T.d_kept_label ["thing"] (sp_kept_label K) := by
  refine T.F_kept_label.ok sc_kept_label (fun vs H Q E h => ?_) (fun cdv A outer s H vs Q E hr h => ?_)
  · obtain ⟨x, rfl, _⟩ := h
    rfl
  · obtain ⟨x, rfl, hh⟩ := h
    refine ⟨_, (pss_cons (ps_if (pt_not (pt_val (pe_call (ok_is_sized T) (hr.mono (by decide)) (by rfl) T.g_is_sized T.F_is_sized.kp T.b_is_sized .nil pass0 (pa_cons (pv 0) (pa_cons pe_int (pa_cons (pe_glob (v := .int 3) (by rfl) T.c_MOST_PARTS ⟨_, rfl⟩) pa_nil))))))
      (pss_one (ps_ret pe_non))
      pss_nil)
      (pss_cons (ps_if (PW.pt (pw_or (pt_not (pt_val (pe_callB (cr_all rfl) (by rfl) T.m_all (by decide +kernel) (pa_cons (pe_lc (own := [("part", 1)]) (g := gName 1) (by rfl) sc_kept_label.nd (pi_or (pi_list (pv 0)) (pi_tup (pv 0))) (blkOk_by (own := [("part", 1)]) (N := N_kept_label) (sc := defScope s_kept_label) (by decide +kernel)) (fun _ _ _ _ _ => pg_name (i := 1) sc_kept_label.nd rfl (.inl rfl)) (fun _ _ _ _ _ => pts_nil) (fun _ _ _ _ _ => (pe_call (ok_is_within T) (hr.mono (by decide)) (by rfl) T.g_is_within T.F_is_within.kp T.b_is_within .nil pass0 (pa_cons (pv 1) (pa_cons pe_int (pa_cons pe_int pa_nil)))))) pa_nil)))) (pw_or1 (pt_cmpR op_eq (pe_ix (IxR.or ix_list ix_tup) (pv 0) (pe_un un_neg pe_int) (fun _ _ => rfl)) pe_int (nomark _)))))
      (pss_one (ps_ret pe_non))
      pss_nil)
      (pss_one (ps_ret (pe_callTy call_tuple_of (by rfl) T.m_tuple (by decide +kernel) (pa_cons (pv 0) pa_nil)))))), ?_⟩
    rcases hh with ⟨L, ⟨l, rfl, hl⟩, hL, q⟩ | ⟨l, os, rfl, ho, hb, h2, q1, q2⟩
    · have dx : ∃ d, Dp K H (.ref l) d ∧ items d = some (L.map PyData.int) := by
        rcases hl with hl | hl
        · exact ⟨_, dpL (.inl (.inl hl)), rfl⟩
        · exact ⟨_, .lst hl (dp_ints L), rfl⟩
      obtain ⟨d, hd, hi⟩ := dx
      obtain ⟨R, z, rfl, l3, z0⟩ : ∃ R z, L = R ++ [z] ∧ (R ++ [z]).length ≤ 3 ∧ z ≠ 0 := by
        obtain ⟨R, z, rfl, _, h2, h3, _⟩ := okL_split hL
        exact ⟨R, z, rfl, hL.1, by omega⟩
      have hsz : sz 1 3 d = true := by
        unfold sz
        rw [hi]
        simp only [List.length_map, List.length_append, List.length_singleton]
        rw [List.length_append, List.length_singleton] at l3
        exact decide_eq_true (by omega)
      refine ⟨_, rfl, _, d, 1, 3, rfl, hd, fun H1 s1 => ⟨_, rfl, ?_⟩⟩
      rw [hsz]
      have all : ∀ i ∈ R ++ [z], wI 0 99 (.int i) = true := fun i h => decide_eq_true (hL.2.2 i h)
      rcases hl with hl | hl
      · have hl1 := s1 _ _ hl
        refine .inr ⟨_, rfl, l, rfl, ⟨_, .inl (.inl hl1)⟩, fun D nD => ?_⟩
        refine lc_fm (R ++ [z]) (fun i => some (V.bl (wI 0 99 (.int i)))) (walkT (xs := (R ++ [z]).map V.int) (List.length_map ..)) nD (fun H h => .inl (.inl (h _ _ hl1))) (by omega) ?_ ?_
        · rintro i0 i y H4x H4 er sm ⟨rfl, hy⟩ Rr N hR hN
          rw [List.getElem?_map, er] at hy
          cases hy
          exact ⟨rfl, _, rfl, _, .int _, 0, 99, rfl, .int _, hR _ rfl _ (Same.refl _)⟩
        rintro H2 s2 eD
        rw [map_fm, show (fun i => V.bl (wI 0 99 (.int i))) = V.bl ∘ (fun i => wI 0 99 (.int i)) from rfl, ← List.map_map] at eD
        refine ⟨D, _, rfl, .inl (.inl eD), _, rfl, ?_⟩
        rw [all_map, List.all_eq_true.mpr all]
        have hl2 := s2 _ _ hl1
        refine ⟨_, rfl, 1, rfl, .inr ⟨_, _, _, _, rfl, rfl, .inl (.inl hl2), at_end R z, rfl, _, rfl, ?_⟩⟩
        rw [decide_eq_false (fun h => z0 (V.int.inj h))]
        exact ⟨_, rfl, _, _, rfl, .inr ⟨.inl (.inl hl2), q (.ref l) _ (s1.trans s2) ⟨l, rfl, hl2⟩⟩⟩
      · have hl1 := s1.seq hl
        refine .inl ⟨_, rfl, l, rfl, ⟨_, hl1⟩, fun D nD => ?_⟩
        refine lc_fm (R ++ [z]) (fun i => some (V.bl (wI 0 99 (.int i)))) (walkL (xs := (R ++ [z]).map V.int) (List.length_map ..)) nD (fun H h => h.seq hl1) (by omega) ?_ ?_
        · rintro i0 i y H4x H4 er sm ⟨rfl, hy⟩ Rr N hR hN
          rw [List.getElem?_map, er] at hy
          cases hy
          exact ⟨rfl, _, rfl, _, .int _, 0, 99, rfl, .int _, hR _ rfl _ (Same.refl _)⟩
        rintro H2 s2 eD
        rw [map_fm, show (fun i => V.bl (wI 0 99 (.int i))) = V.bl ∘ (fun i => wI 0 99 (.int i)) from rfl, ← List.map_map] at eD
        refine ⟨D, _, rfl, .inl (.inl eD), _, rfl, ?_⟩
        rw [all_map, List.all_eq_true.mpr all]
        have hl2 := s2.seq hl1
        refine ⟨_, rfl, 1, rfl, .inl ⟨_, _, _, _, rfl, rfl, hl2, at_end R z, rfl, _, rfl, ?_⟩⟩
        rw [decide_eq_false (fun h => z0 (V.int.inj h))]
        refine ⟨_, rfl, _, _, rfl, .inl ⟨hl2, fun t nt => ?_⟩⟩
        exact q (.ref t) _ ((s1.trans s2).trans (same_upd nt)) ⟨t, rfl, upd_same⟩
    · have ek : keptD (.list (os.map oI)) = keep os := by
        show keep ((os.map oI).map toO) = keep os
        rw [toO_oI hb]
      have Qn : ∀ H', Same H H' → keptD (.list (os.map oI)) = none → Q .non H' := fun H' s e => q1 (by rw [← ek]; exact e) H' s
      have Qs : ∀ (y : V) (L : List Int) H', Same H H' → keptD (.list (os.map oI)) = some L → TL H' y L → Q y H' := fun y L H' s e t => q2 L (by rw [← ek]; exact e) y H' s t
      have hd : DpAll K H (os.map optI) (os.map oI) := dp_optI os
      obtain ⟨ds, eds⟩ : ∃ ds, ds = os.map oI := ⟨_, rfl⟩
      obtain ⟨xs, exs⟩ : ∃ xs, xs = os.map optI := ⟨_, rfl⟩
      rw [← eds] at ek Qn Qs hd
      rw [← exs] at hd ho
      clear eds exs hb q1 q2
      obtain ⟨d, ed⟩ : ∃ d, d = PyData.list ds := ⟨_, rfl⟩
      have hi : items d = some ds := by rw [ed]; rfl
      rw [← ed] at Qn Qs ek
      have h : SqL K H l xs := .inl (.inl ho)
      have k := hd
      refine ⟨_, rfl, .ref l, d, 1, 3, rfl, by rw [ed]; exact .lst h k, fun H1 s1 => ⟨_, rfl, ?_⟩⟩
      -- of a row: all of it is looked at
      have row : ∀ (ds : List PyData), items d = some ds → sz 1 3 d = decide ((1 : Int) ≤ (ds.length : Int) ∧ (ds.length : Int) ≤ 3) := fun ds hi => by unfold sz; rw [hi]
      have kd : ∀ (ds : List PyData), items d = some ds → keptD d = keep (ds.map toO) := fun ds hi => by unfold keptD; rw [hi]
      have kb : ∀ (ds : List PyData), items d = some ds → ¬ ((1 : Int) ≤ (ds.length : Int) ∧ (ds.length : Int) ≤ 3) → keptD d = none := fun ds hi h => by
        rw [kd ds hi]
        unfold keep
        cases e : allSome (ds.map toO) with
        | none => rfl
        | some L =>
          have eo := allSome_all e
          have el : ds.length = L.length := by have := congrArg List.length eo; rw [List.length_map, List.length_map] at this; exact this
          simp only
          rw [if_neg ?_]
          rintro ⟨h1, h2⟩
          apply h
          rw [el]
          refine ⟨?_, by omega⟩
          cases L with
          | nil => exact absurd rfl h2
          | cons x r => simp only [List.length_cons]; omega
      have hl := dpAll_len k
      by_cases hsz : (1 : Int) ≤ (ds.length : Int) ∧ (ds.length : Int) ≤ 3
      · rw [row ds hi, decide_eq_true hsz]
        have hS := s1.seq h
        have k1 := dpAll_same s1 k
        refine .inl ⟨_, rfl, l, rfl, ⟨_, hS⟩, fun D nD => ?_⟩
        refine lc_list (xs := xs) (fun i H' => Same H1 H' ∧ H' D = some (.lst ((ds.take i).map fun d => V.bl (wI 0 99 d)))) ⟨same_upd nD, upd_same⟩ (fun i H' _ hh => Same.seq hh.1 hS) ?_ ?_
        · rintro i x H' hx ⟨sm, eD⟩
          obtain ⟨e, he, hde⟩ := dpAll_get k1 hx
          refine ⟨rfl, ?_⟩
          refine ⟨_, rfl, _, e, 0, 99, rfl, dp_same sm hde, _, eD, ?_, same_put sm nD _, ?_⟩
          · rw [List.length_map, List.length_take]; exact small1000 (by omega)
          · rw [upd_same, List.take_add_one, he, List.map_append]; rfl
        · rintro H' ⟨sm, eD⟩
          rw [hl, List.take_length, map_bl] at eD
          have s2 := s1.trans sm
          refine ⟨D, _, rfl, .inl (.inl eD), _, rfl, ?_⟩
          rw [all_bl]
          by_cases hA : ds.all (wI 0 99) = true
          · obtain ⟨L, rfl, hL9⟩ := all_ints hA
            obtain ⟨R, z, rfl⟩ : ∃ R z, L = R ++ [z] := by
              have hne : L ≠ [] := fun e => by rw [e] at hsz; simp at hsz
              exact ⟨_, _, (List.dropLast_concat_getLast hne).symm⟩
            rw [hA]
            have ex : xs = (R ++ [z]).map V.int := dp_ints_inv k
            rw [ex] at h hS
            have ekd := kd _ hi
            rw [toO_ints hL9, keep_map] at ekd
            have egl : (R ++ [z]).getLastD 0 = z := by rw [List.getLastD_eq_getLast?, List.getLast?_append]; rfl
            rw [egl] at ekd
            have l3 : (R ++ [z]).length ≤ 3 := by rw [List.length_map] at hsz; omega
            refine ⟨_, rfl, 1, rfl, .inl ⟨_, _, _, _, rfl, rfl, Same.seq sm hS, at_end R z, rfl, _, rfl, ?_⟩⟩
            by_cases h0 : z = 0
            · rw [decide_eq_true (congrArg V.int h0)]
              exact Qn H' s2 (by rw [ekd, if_neg (fun h => h.2 h0)])
            · rw [decide_eq_false (fun h => h0 (V.int.inj h))]
              refine ⟨_, rfl, _, _, rfl, .inl ⟨Same.seq sm hS, fun l2 nl => ?_⟩⟩
              exact Qs (.ref l2) _ _ (s2.trans (same_upd nl)) (by rw [ekd, if_pos ⟨l3, h0⟩]) ⟨l2, rfl, upd_same⟩
          · rw [Bool.not_eq_true] at hA
            rw [hA]
            exact Qn H' s2 (by rw [kd ds hi, keep_none (not_all hA)])
      · rw [row ds hi, decide_eq_false hsz]
        exact Qn H1 s1 (kb ds hi hsz)
theorem ok_line_words (T : Tab K mg) : FnOk P w K mg base (L2.CX P w) 3 T.f_line_words T.d_line_words ["line", "number"] (sp_line_words K T.C_BadLine) := by
  refine T.F_line_words.okX sc_line_words (fun vs H Q E h => ?_) (fun cdv A outer s H vs Q E hr h => ?_)
  · obtain ⟨v, k, rfl, _⟩ := h
    rfl
  · obtain ⟨v, k, rfl, hv, kE, kQ⟩ := h
    refine ⟨_, (pss_cons (ps_if (pt_not (pt_val (pe_callB call_isi (by rfl) T.m_isinstance (by decide +kernel) (pa_cons (pv 0) (pa_cons (pe_bltn (v := .ty "str") (u := .type "str") (by rfl) T.m_str (by decide +kernel) rfl) pa_nil)))))
      (pss_one (ps_raise rfl (takes_of rfl rfl rfl rfl) (pmk_oex T.o_BadLine T.g_BadLine_init T.i_BadLine (ok_BadLine_init T) (hr.mono (by decide)) T.b_BadLine_init .nil (fun _ _ _ _ _ _ _ h => h.elim) (by rfl) T.cg_BadLine (pa_cons (pv 1) (pa_cons pe_int pa_nil)))))
      pss_nil)
      (pss_one (ps_ret (pe_split (pv 0) pe_str)))), ?_⟩
    rcases hv with rfl | rfl | rfl | ⟨z, rfl, hz, hc⟩
    · refine ⟨_, rfl, _, _, _, _, _, rfl, .ty "str", .base .non, kit_ty (r := false) (by decide +kernel), false, rfl, iteT ?_⟩
      exact ⟨_, rfl, (by show 2 ≤ 1000; decide), fun a na => mk_bl T.o_BadLine T.n_BadLine_line T.n_BadLine_word (kE fun z => nofun) na⟩
    · refine ⟨_, rfl, _, _, _, _, _, rfl, .ty "str", .base (.int 7), kit_ty (r := false) (by decide +kernel), false, rfl, iteT ?_⟩
      exact ⟨_, rfl, (by show 2 ≤ 1000; decide), fun a na => mk_bl T.o_BadLine T.n_BadLine_line T.n_BadLine_word (kE fun z => nofun) na⟩
    · refine ⟨_, rfl, _, _, _, _, _, rfl, .ty "str", .base (.bl true), kit_ty (r := false) (by decide +kernel), false, rfl, iteT ?_⟩
      exact ⟨_, rfl, (by show 2 ≤ 1000; decide), fun a na => mk_bl T.o_BadLine T.n_BadLine_line T.n_BadLine_word (kE fun z => nofun) na⟩
    · refine ⟨_, rfl, _, _, _, _, _, rfl, .ty "str", .base (.str z), kit_ty (by decide +kernel), true, rfl, iteF ?_⟩
      refine ⟨_, rfl, ⟨_, rfl⟩, z, _, rfl, rfl, (by decide +kernel), ?_, fun p np => ?_⟩
      · rw [sizeLine_eq]; omega
      exact kQ z rfl p _ (same_upd np) np upd_same
theorem ok_Cursor_look (T : Tab K mg) : FnOk P w K mg base (L2.CX P w) 3 T.f_Cursor_look T.d_Cursor_look ["self"] (sp_Cursor_look K T.C_Cursor T.C_BadLine) := by
  refine T.F_Cursor_look.okX sc_Cursor_look (fun vs H Q E h => ?_) (fun cdv A outer s H vs Q E hr h => ?_)
  · obtain ⟨x, ws, n, l, rfl, _⟩ := h
    rfl
  · obtain ⟨x, ws, n, l, rfl, hc, kE, kQ⟩ := h
    refine ⟨_, (pss_cons (ps_if (pt_not (pt_val (pe_meth0 (pv 0) T.cl_Cursor ⟨T.g_Cursor_more, T.fn_Cursor_more, T.F_Cursor_more.kp⟩ (ok_Cursor_more T) (hr.mono (by decide)) T.b_Cursor_more .nil pass0)))
      (pss_one (ps_raise rfl (takes_of rfl rfl rfl rfl) (pmk_oex T.o_BadLine T.g_BadLine_init T.i_BadLine (ok_BadLine_init T) (hr.mono (by decide)) T.b_BadLine_init .nil (fun _ _ _ _ _ _ _ h => h.elim) (by rfl) T.cg_BadLine (pa_cons (pe_fld (pv 0) rfl) (pa_cons (pe_fld (pv 0) rfl) pa_nil)))))
      pss_nil)
      (pss_one (ps_ret (pe_ix ix_list (pe_fld (pv 0) rfl) (pe_fld (pv 0) rfl) (fun _ _ => rfl))))), ?_⟩
    obtain ⟨dx, a, hx, ha, ax⟩ := id hc
    refine ⟨_, rfl, x, dx, _, rfl, hx, rfl, x, ws, n, l, rfl, hc, _, rfl, ?_⟩
    cases hz : ws[n]? with
    | none =>
      rw [decide_eq_false (by have := List.getElem?_eq_none_iff.mp hz; omega)]
      refine iteT ⟨_, rfl, x, _, dx, _, _, rfl, hx, T.cl_Cursor, T.na_Cursor_line, rfl, _, rfl, x, _, dx, _, _, rfl, hx, T.cl_Cursor, T.na_Cursor_at, rfl, (by show 2 ≤ 1000; decide), fun b nb => ?_⟩
      exact mk_bl T.o_BadLine T.n_BadLine_line T.n_BadLine_word (kE hz) nb
    | some z =>
      have hn := (List.getElem?_eq_some_iff.mp hz).1
      rw [decide_eq_true hn]
      exact iteF ⟨_, rfl, x, _, dx, _, _, rfl, hx, T.cl_Cursor, T.na_Cursor_words, rfl, _, rfl, x, _, dx, _, _, rfl, hx, T.cl_Cursor, T.na_Cursor_at, rfl, a, _, _, .str z, rfl, rfl, .inl (.inl ha), at_of' rfl (by rw [List.getElem?_map, hz]; rfl), kQ z hz⟩
theorem ok_Cursor_take (T : Tab K mg) : FnOk P w K mg base (L2.CX P w) 3 T.f_Cursor_take T.d_Cursor_take ["self", "worth"] (sp_Cursor_take K T.C_Cursor T.C_BadLine) := by
  refine T.F_Cursor_take.okX sc_Cursor_take (fun vs H Q E h => ?_) (fun cdv A outer s H vs Q E hr h => ?_)
  · obtain ⟨x, v, ws, n, l, rfl, _⟩ := h
    rfl
  · obtain ⟨x, v, ws, n, l, rfl, ⟨dx, a, hx, ha, ax⟩, kE, kQ⟩ := h
    refine ⟨_, (pss_cons (ps_if (pt_cmpR op_isN (pv 1) pe_non (nomark _))
      (pss_one (ps_raise rfl (takes_of rfl rfl rfl rfl) (pmk_oex T.o_BadLine T.g_BadLine_init T.i_BadLine (ok_BadLine_init T) (hr.mono (by decide)) T.b_BadLine_init .nil (fun _ _ _ _ _ _ _ h => h.elim) (by rfl) T.cg_BadLine (pa_cons (pe_fld (pv 0) rfl) (pa_cons (pe_fld (pv 0) rfl) pa_nil)))))
      pss_nil)
      (pss_cons (ps_fld (pv 0) (pe_op op_add (pe_fld (pv 0) rfl) pe_int) rfl)
      (pss_one (ps_ret (pv 1))))), ?_⟩
    refine ⟨_, rfl, rfl, _, rfl, ite2 (fun e => ?_) (fun e => ?_)⟩
    · refine ⟨_, rfl, x, _, dx, _, _, rfl, hx, T.cl_Cursor, T.na_Cursor_line, rfl, _, rfl, x, _, dx, _, _, rfl, hx, T.cl_Cursor, T.na_Cursor_at, rfl, (by show 2 ≤ 1000; decide), fun b nb => ?_⟩
      exact mk_bl T.o_BadLine T.n_BadLine_line T.n_BadLine_word (kE (of_decide_eq_true e)) nb
    · refine ⟨_, rfl, x, _, dx, _, _, rfl, hx, T.cl_Cursor, T.na_Cursor_at, rfl, _, _, rfl, rfl, _, rfl, x, _, dx, _, rfl, hx, T.cl_Cursor, T.na_Cursor_at, (show 3 < 1000 by decide), ?_⟩
      exact ⟨_, rfl, kQ (fun z => e (decide_eq_true z)) _ ⟨dx, a, upd_same, by rw [upd_ne ax]; exact ha, ax⟩ (But.upd _)⟩
theorem ok_Cursor_take_end (T : Tab K mg) : FnOk P w K mg base (L2.CX P w) 3 T.f_Cursor_take_end T.d_Cursor_take_end ["self"] (sp_Cursor_take_end K T.C_Cursor T.C_BadLine) := by
  refine T.F_Cursor_take_end.okX sc_Cursor_take_end (fun vs H Q E h => ?_) (fun cdv A outer s H vs Q E hr h => ?_)
  · obtain ⟨x, ws, n, l, rfl, _⟩ := h
    rfl
  · obtain ⟨x, ws, n, l, rfl, hc, kE, kQ⟩ := h
    refine ⟨_, (pss_one (ps_if (pt_val (pe_meth0 (pv 0) T.cl_Cursor ⟨T.g_Cursor_more, T.fn_Cursor_more, T.F_Cursor_more.kp⟩ (ok_Cursor_more T) (hr.mono (by decide)) T.b_Cursor_more .nil pass0))
      (pss_one (ps_raise rfl (takes_of rfl rfl rfl rfl) (pmk_oex T.o_BadLine T.g_BadLine_init T.i_BadLine (ok_BadLine_init T) (hr.mono (by decide)) T.b_BadLine_init .nil (fun _ _ _ _ _ _ _ h => h.elim) (by rfl) T.cg_BadLine (pa_cons (pe_fld (pv 0) rfl) (pa_cons (pe_fld (pv 0) rfl) pa_nil)))))
      pss_nil)), ?_⟩
    obtain ⟨dx, a, hx, ha, ax⟩ := id hc
    refine ⟨_, rfl, x, dx, _, rfl, hx, rfl, x, ws, n, l, rfl, hc, _, rfl, ite2 (fun e => ?_) (fun e => ?_)⟩
    · refine ⟨_, rfl, x, _, dx, _, _, rfl, hx, T.cl_Cursor, T.na_Cursor_line, rfl, _, rfl, x, _, dx, _, _, rfl, hx, T.cl_Cursor, T.na_Cursor_at, rfl, (by show 2 ≤ 1000; decide), fun b nb => ?_⟩
      exact mk_bl T.o_BadLine T.n_BadLine_line T.n_BadLine_word (kE (of_decide_eq_true e)) nb
    · exact kQ fun z => e (decide_eq_true z)
theorem ok_line (T : Tab K mg) : FnOk P w K mg base CX0 3 T.f_line T.d_line ["_law_source_here"] (sp_line K) := by
  refine T.F_line.ok sc_line (fun vs H Q E h => ?_) (fun cdv A outer s H vs Q E hr h => ?_)
  · obtain ⟨a, rfl, _⟩ := h
    rfl
  · obtain ⟨a, rfl, src, q⟩ := h
    refine ⟨_, (pss_cons (ps_set (i := 1) sc_line.nd rfl (.inl rfl) (pe_tup (pa_cons (pe_call (ok_label T) (hr.mono (by decide)) (by rfl) T.g_label T.F_label.kp T.b_label .nil pass0 (pa_cons (pv 0) pa_nil)) (pa_cons (pe_call (ok_pick T) (hr.mono (by decide)) (by rfl) T.g_pick T.F_pick.kp T.b_pick .nil pass0 (pa_cons (pv 0) (pa_cons pe_int pa_nil))) pa_nil))))
      (pss_cons (ps_set (i := 2) sc_line.nd rfl (.inl rfl) (pe_call (ok_pick T) (hr.mono (by decide)) (by rfl) T.g_pick T.F_pick.kp T.b_pick .nil pass0 (pa_cons (pv 0) (pa_cons pe_int pa_nil))))
      (pss_cons (ps_set (i := 3) sc_line.nd rfl (.inl rfl) (pe_call (ok_pick T) (hr.mono (by decide)) (by rfl) T.g_pick T.F_pick.kp T.b_pick .nil pass0 (pa_cons (pv 0) (pa_cons pe_int pa_nil))))
      (pss_cons (ps_set (i := 4) sc_line.nd rfl (.inl rfl) (pe_ix ix_list (pe_lst (pa_cons pe_int (pa_cons pe_int (pa_cons pe_int pa_nil)))) (pe_call (ok_pick T) (hr.mono (by decide)) (by rfl) T.g_pick T.F_pick.kp T.b_pick .nil pass0 (pa_cons (pv 0) (pa_cons pe_int pa_nil))) (fun _ _ => rfl)))
      (pss_cons (ps_set (i := 5) sc_line.nd rfl (.inl rfl) (pe_call (ok_token T) (hr.mono (by decide)) (by rfl) T.g_token T.F_token.kp T.b_token .nil pass0 (pa_cons (pv 0) (pa_cons (pv 4) pa_nil))))
      (pss_cons (ps_set (i := 6) sc_line.nd rfl (.inl rfl) (pe_call (ok_token T) (hr.mono (by decide)) (by rfl) T.g_token T.F_token.kp T.b_token .nil pass0 (pa_cons (pv 0) (pa_cons (pv 4) pa_nil))))
      (C8.pss_cut (ps_if (pt_cmpR op_eq (pv 6) (pv 5) (nomark _))
      (pss_one (ps_set (i := 6) sc_line.nd rfl (.inl rfl) (pe_call (ok_other T) (hr.mono (by decide)) (by rfl) T.g_other T.F_other.kp T.b_other .nil pass0 (pa_cons (pv 5) pa_nil))))
      pss_nil)
      (pss_one (ps_ret (pe_op op_add_str (pe_op op_add_str (pe_op op_add_str (pe_op op_add_str (pe_op op_add_str (pe_op op_add_str (pe_op op_add_str (pe_op op_add_str (pe_op op_add_str pe_str (pe_call (ok_page_word T) (hr.mono (by decide)) (by rfl) T.g_page_word T.F_page_word.kp T.b_page_word .nil pass0 (pa_cons (pv 1) pa_nil))) pe_str) (pe_callTy call_str_int (by rfl) T.m_str (by decide +kernel) (pa_cons (pv 2) pa_nil))) pe_str) (pe_callTy call_str_int (by rfl) T.m_str (by decide +kernel) (pa_cons (pv 3) pa_nil))) pe_str) (pv 5)) pe_str) (pv 6))))))))))), ?_⟩
    refine ⟨_, rfl, a, rfl, src, fun l L H1 s1 b1 hl okl => ?_⟩
    refine ⟨_, rfl, a, 2, rfl, s1, by decide, by decide, fun sd H2 s2 b2 d0 d1 => ?_⟩
    have hl2 := s1.nl b2 _ _ hl (fun _ z => nomatch z)
    refine ⟨(by show 2 ≤ sizeLine; decide), fun p np => ?_⟩
    have s3 := same_upd (o := .tup [.ref l, .int sd]) np
    have hp : Tp (upd H2 p (.tup [.ref l, .int sd])) (.ref p) (dP (L, sd)) := tpP (p := (L, sd)) upd_same (s3 _ _ hl2)
    generalize upd H2 p (.tup [.ref l, .int sd]) = H3 at s3 hp ⊢
    have b03 := (b1.trans b2).trans (But.of s3)
    have src3 := srcS s3 s2
    refine ⟨_, rfl, a, 12, rfl, src3, by decide, by decide, fun r H4 s4 b4 r0 r1 => ?_⟩
    refine ⟨_, rfl, a, 30, rfl, s4, by decide, by decide, fun w H5 s5 b5 w0 w1 => ?_⟩
    refine ⟨(by show 3 ≤ sizeLine; decide), fun u nu => ?_⟩
    have su := same_upd (o := .lst [.int 3, .int 8, .int 20]) nu
    have hu : upd H5 u (.lst [.int 3, .int 8, .int 20]) u = some (.lst [.int 3, .int 8, .int 20]) := upd_same
    have un : u ≠ a := (s5.ne nu).symm
    generalize upd H5 u (.lst [.int 3, .int 8, .int 20]) = H5' at su hu ⊢
    refine ⟨_, rfl, a, 3, rfl, srcS su s5, by decide, by decide, fun i H6 s6 b6 i0 i1 => ?_⟩
    obtain ⟨m, em, m1, m20⟩ : ∃ m : Int, ([.int 3, .int 8, .int 20] : List V)[i.toNat]? = some (.int m) ∧ 1 ≤ m ∧ m ≤ 20 := by
      obtain h | h | h : i.toNat = 0 ∨ i.toNat = 1 ∨ i.toNat = 2 := by omega
      · rw [h]; exact ⟨3, rfl, by decide, by decide⟩
      · rw [h]; exact ⟨8, rfl, by decide, by decide⟩
      · rw [h]; exact ⟨20, rfl, by decide, by decide⟩
    refine ⟨u, _, i, .int m, rfl, rfl, .inl (.inl (b6 _ _ un hu)), at_of' (Int.toNat_of_nonneg i0).symm em, ?_⟩
    refine ⟨_, rfl, _, rfl, a, m, rfl, s6, m1, m20, fun o H7 s7 b7 to => ?_⟩
    refine ⟨_, rfl, _, rfl, a, m, rfl, s7, m1, m20, fun n H8 s8 b8 tn => ?_⟩
    have b38 := ((((b4.trans b5).trans (But.of su)).trans b6).trans b7).trans b8
    have hp8 := hp.nl (src3.nl b38)
    refine ⟨fun σ' H' => ∃ n : Str, σ' = [some (.ref a), some (.ref p), some (.int r), some (.int w), some (.int m), some (.str o), some (.str n)] ∧ H8 = H' ∧ Wd n ∧ o ≠ n, ?_, ?_⟩
    · refine ⟨_, rfl, _, rfl, rfl, _, rfl, ite2 (fun e => ?_) (fun e => ?_)⟩
      · exact ⟨_, rfl, o, rfl, to, fun y ty hy => ⟨y, rfl, rfl, ty, hy⟩⟩
      · exact ⟨n, rfl, rfl, tn, fun z => e (decide_eq_true (by rw [z]))⟩
    · rintro σ' H9 ⟨n, rfl, rfl, tn, hne⟩
      have ok : okC ⟨(L, sd), r, w, o, n⟩ := ⟨⟨okl, by show sd = 0 ∨ sd = 1; omega⟩, by show 0 ≤ r ∧ r ≤ 11; omega, by show 0 ≤ w ∧ w ≤ 29; omega, to, tn, hne⟩
      have hL := fC_len ok
      have qq : ∀ H', Same H8 H' → Q (.str (fC ⟨(L, sd), r, w, o, n⟩)) H' := fun H' s' => q _ H' (srcS s' s8) ((b03.trans b38).trans (But.of s')) hL (fC_sgn ok)
      rw [← fC_law] at hL
      have z : ∀ {n : Nat}, n ≤ 80 → n ≤ sizeLine := fun h => Nat.le_trans h (by rw [sizeLine_eq]; decide)
      refine ⟨_, rfl, .ref p, (L, sd), rfl, hp8.dp, ok.1, fun H1 s1 => ⟨_, _, rfl, rfl, z (by simp only [app_len] at hL ⊢; omega), ?_⟩⟩
      refine ⟨_, _, rfl, rfl, z (by simp only [app_len] at hL ⊢; omega), _, rfl, r, rfl, log_small (by omega), _, _, rfl, rfl, z (by simp only [app_len] at hL ⊢; omega), _, _, rfl, rfl, z (by simp only [app_len] at hL ⊢; omega), _, rfl, w, rfl, log_small (by omega), _, _, rfl, rfl, z (by simp only [app_len] at hL ⊢; omega), _, _, rfl, rfl, z (by simp only [app_len] at hL ⊢; omega), _, rfl, _, _, rfl, rfl, z (by simp only [app_len] at hL ⊢; omega), _, _, rfl, rfl, z (by simp only [app_len] at hL ⊢; omega), _, rfl, _, _, rfl, rfl, z (by simp only [app_len] at hL ⊢; omega), ?_⟩
      have q3 := qq H1 s1
      rw [← fC_law] at q3
      exact q3
theorem ok_spoilt_words (T : Tab K mg) : FnOk P w K mg base CX0 3 T.f_spoilt_words T.d_spoilt_words ["_law_source_here", "_law_words"] (sp_spoilt_words K) := by
  refine T.F_spoilt_words.ok sc_spoilt_words (fun vs H Q E h => ?_) (fun cdv A outer s H vs Q E hr h => ?_)
  · obtain ⟨a, b, ws, B, rfl, _⟩ := h
    rfl
  · obtain ⟨a, b, ws, B, rfl, src, bn, hb, ne, lB, ok, q⟩ := h
    refine ⟨_, (pss_cons (ps_set (i := 2) sc_spoilt_words.nd rfl (.inl rfl) (pe_call (ok_pick T) (hr.mono (by decide)) (by rfl) T.g_pick T.F_pick.kp T.b_pick .nil pass0 (pa_cons (pv 0) (pa_cons pe_int pa_nil))))
      (pss_cons (ps_set (i := 3) sc_spoilt_words.nd rfl (.inl rfl) (pe_call (ok_pick T) (hr.mono (by decide)) (by rfl) T.g_pick T.F_pick.kp T.b_pick .nil pass0 (pa_cons (pv 0) (pa_cons (pe_callB call_len_seq (by rfl) T.m_len PySem.boot_len (pa_cons (pv 1) pa_nil)) pa_nil))))
      (pss_cons (ps_set (i := 4) sc_spoilt_words.nd rfl (.inl rfl) (pe_call (ok_pick T) (hr.mono (by decide)) (by rfl) T.g_pick T.F_pick.kp T.b_pick .nil pass0 (pa_cons (pv 0) (pa_cons (pe_callB call_len_seq (by rfl) T.m_len PySem.boot_len (pa_cons (pv 1) pa_nil)) pa_nil))))
      (pss_cons (ps_if (pt_cmpR op_eq (pv 2) pe_int (nomark _))
      (pss_one (ps_ret (pe_op op_cat (pe_op op_cat (pe_slice sl_list (pv 1) po_none (po_some (pv 3))) (pe_lst (pa_cons (pe_call (ok_odd_word T) (hr.mono (by decide)) (by rfl) T.g_odd_word T.F_odd_word.kp T.b_odd_word .nil pass0 (pa_cons (pv 0) pa_nil)) pa_nil))) (pe_slice sl_list (pv 1) (po_some (pe_op op_add (pv 3) pe_int)) po_none))))
      pss_nil)
      (C8.pss_cut (ps_if (PW.pt (pw_and (pt_cmpR op_eq (pv 2) pe_int (nomark _)) (pw_and1 (pt_cmpR op_lt (pv 3) (pv 4) (nomark _)))))
      (pss_one (ps_ret (pe_op op_cat (pe_op op_cat (pe_op op_cat (pe_op op_cat (pe_slice sl_list (pv 1) po_none (po_some (pv 3))) (pe_lst (pa_cons (pe_ix ix_list (pv 1) (pv 4) (fun _ _ => rfl)) pa_nil))) (pe_slice sl_list (pv 1) (po_some (pe_op op_add (pv 3) pe_int)) (po_some (pv 4)))) (pe_lst (pa_cons (pe_ix ix_list (pv 1) (pv 3) (fun _ _ => rfl)) pa_nil))) (pe_slice sl_list (pv 1) (po_some (pe_op op_add (pv 4) pe_int)) po_none))))
      pss_nil)
      (pss_cons (ps_if (pt_cmpR op_eq (pv 2) pe_int (nomark _))
      (pss_one (ps_ret (pe_op op_cat (pe_slice sl_list (pv 1) po_none (po_some (pv 3))) (pe_slice sl_list (pv 1) (po_some (pe_op op_add (pv 3) pe_int)) po_none))))
      pss_nil)
      (pss_cons (ps_if (pt_cmpR op_eq (pv 2) pe_int (nomark _))
      (pss_one (ps_ret (pe_op op_cat (pe_op op_cat (pe_slice sl_list (pv 1) po_none (po_some (pv 3))) (pe_lst (pa_cons (pe_call (ok_odd_word T) (hr.mono (by decide)) (by rfl) T.g_odd_word T.F_odd_word.kp T.b_odd_word .nil pass0 (pa_cons (pv 0) pa_nil)) pa_nil))) (pe_slice sl_list (pv 1) (po_some (pv 3)) po_none))))
      pss_nil)
      (pss_cons (ps_if (pt_cmpR op_eq (pv 2) pe_int (nomark _))
      (pss_one (ps_ret (pe_op op_cat (pv 1) (pe_lst (pa_cons (pe_call (ok_odd_word T) (hr.mono (by decide)) (by rfl) T.g_odd_word T.F_odd_word.kp T.b_odd_word .nil pass0 (pa_cons (pv 0) pa_nil)) pa_nil)))))
      pss_nil)
      (pss_cons (ps_if (pt_cmpR op_eq (pv 2) pe_int (nomark _))
      (pss_one (ps_ret (pe_slice sl_list (pv 1) po_none (po_some (pv 3)))))
      pss_nil)
      (pss_cons (ps_if (pt_cmpR op_eq (pv 2) pe_int (nomark _))
      (pss_one (ps_ret (pe_op op_cat (pe_op op_cat (pe_slice sl_list (pv 1) po_none (po_some (pv 3))) (pe_lst (pa_cons (pe_op op_add_str (pe_ix ix_list (pv 1) (pv 3) (fun _ _ => rfl)) (pe_ix ix_str pe_str (pe_call (ok_pick T) (hr.mono (by decide)) (by rfl) T.g_pick T.F_pick.kp T.b_pick .nil pass0 (pa_cons (pv 0) (pa_cons pe_int pa_nil))) (fun _ _ => rfl))) pa_nil))) (pe_slice sl_list (pv 1) (po_some (pe_op op_add (pv 3) pe_int)) po_none))))
      pss_nil)
      (pss_cons (ps_if (pt_cmpR op_eq (pv 2) pe_int (nomark _))
      (pss_one (ps_ret (pe_op op_cat (pe_op op_cat (pe_slice sl_list (pv 1) po_none (po_some (pv 3))) (pe_lst (pa_cons (pe_slice sl_str (pe_ix ix_list (pv 1) (pv 3) (fun _ _ => rfl)) (po_some pe_int) po_none) pa_nil))) (pe_slice sl_list (pv 1) (po_some (pe_op op_add (pv 3) pe_int)) po_none))))
      pss_nil)
      (pss_one (ps_ret (pe_op op_cat (pe_slice sl_list (pv 1) po_none (po_some (pe_un un_neg pe_int))) (pe_slice sl_list (pv 1) (po_some pe_int) (po_some pe_int)))))))))))))))), ?_⟩
    have l1 : 1 ≤ ws.length := List.length_pos_iff.mpr ne
    have lw := Wt_len ws
    have o1 := ok.1
    have lm : (ws.map V.str).length = ws.length := List.length_map ..
    refine ⟨_, rfl, a, 9, rfl, src, by decide, by decide, fun way H1 s1 b1 y0 y1 => ?_⟩
    have hb1 := b1 _ _ bn hb
    refine ⟨_, rfl, _, rfl, _, _, rfl, .inl (.inl (.inl hb1)), a, _, rfl, s1, by omega, by rw [lm]; omega, fun at_ H2 s2 b2 t0 t1 => ?_⟩
    have hb2 := b2 _ _ bn hb1
    refine ⟨_, rfl, _, rfl, _, _, rfl, .inl (.inl (.inl hb2)), a, _, rfl, s2, by omega, by rw [lm]; omega, fun ot H3 s3 b3 u0 u1 => ?_⟩
    rw [lm] at t1 u1
    have hb3 := b3 _ _ bn hb2
    have b03 := (b1.trans b2).trans b3
    have w3 : WL H3 b B := ⟨ws, hb3, ok⟩
    clear hb hb1 hb2 s1 s2 b1 b2 b3 src
    obtain ⟨z1, ez1⟩ : ∃ z, ws[at_.toNat]? = some z := ⟨_, List.getElem?_eq_getElem (by omega)⟩
    obtain ⟨z2, ez2⟩ : ∃ z, ws[ot.toNat]? = some z := ⟨_, List.getElem?_eq_getElem (by omega)⟩
    have ix : ∀ {H' : Hp} {i : Int} {z : Str}, 0 ≤ i → ws[i.toNat]? = some z → H' b = some (.lst (ws.map V.str)) → ∀ {R : V → Hp → Prop}, R (.str z) H' → rIxL K (.ref b) (.int i) H' R := fun i0 e h R r => ⟨b, _, _, .str _, rfl, rfl, .inl (.inl h), at_of' (Int.toNat_of_nonneg i0).symm (by rw [List.getElem?_map, e]; rfl), r⟩
    have m1 := List.mem_of_getElem? ez1
    have m2 := List.mem_of_getElem? ez2
    have k1 : WsOk B [z1] := ⟨Nat.le_trans (Wt_mem m1) o1, fun z hz => by rw [List.mem_singleton.mp hz]; exact ok.2 z1 m1⟩
    have k2 : WsOk B [z2] := ⟨Nat.le_trans (Wt_mem m2) o1, fun z hz => by rw [List.mem_singleton.mp hz]; exact ok.2 z2 m2⟩
    have fin : ∀ {Hs Hf : Hp} {r : Addr} {C : Nat}, Same H3 Hs → Hs r = none → Same Hs Hf → WL Hf r C → C ≤ 5 * B + 30 → Q (.ref r) Hf := fun sa nr sb hw le => by
      obtain ⟨zs, e, k⟩ := hw
      have sp := srcS sa s3
      exact q _ zs _ (srcS sb sp) (b03.trans (But.of (sa.trans sb))) e (sp.ne nr).symm ⟨Nat.le_trans k.1 le, k.2⟩
    -- with odd words, the source moves
    have fin2 : ∀ {Ho Hs Hf : Hp} {r : Addr} {C : Nat}, Src Ho a → But a H3 Ho → Same Ho Hs → Hs r = none → Same Hs Hf → WL Hf r C → C ≤ 5 * B + 30 → Q (.ref r) Hf := fun so bo sa nr sb hw le => by
      obtain ⟨zs, e, k⟩ := hw
      have sp := srcS sa so
      exact q _ zs _ (srcS sb sp) ((b03.trans bo).trans (But.of (sa.trans sb))) e (sp.ne nr).symm ⟨Nat.le_trans k.1 le, k.2⟩
    refine ⟨_, rfl, rfl, _, rfl, ite2 (fun _ => ?_) (fun _ => ?_)⟩
    · refine ⟨_, rfl, _, rfl, _, rfl, cutW w3 fun p Hp sp np wp => ?_⟩
      have pn : p ≠ a := (s3.ne np).symm
      refine ⟨_, rfl, a, rfl, srcS sp s3, fun z Ho so bo lz az => ?_⟩
      refine ⟨(by show 1 ≤ sizeLine; decide), fun l nl => ?_⟩
      have sl := same_upd (o := .lst [.str (z)]) nl
      have wl := WL.new (z := z) (C := 22) nl (⟨by rw [Wt_one]; omega, fun y hy => by rw [List.mem_singleton.mp hy]; exact az⟩)
      generalize upd _ l (.lst [.str (z)]) = Hl at sl wl ⊢
      refine catW ((wp.but pn bo).same sl) wl (by omega) fun c Hc sc nc wc => ?_
      have wb : WL Hc b B := ((w3.same sp).but bn bo).same (sl.trans sc)
      refine ⟨_, rfl, _, rfl, _, _, rfl, rfl, _, rfl, noPart (cutW wb fun d Hd sd nd wd => ?_)⟩
      refine catW (wc.same sd) wd (by omega) fun r Hr sr nr wr => ?_
      exact fin2 so ((But.of sp).trans bo) ((sl.trans sc).trans sd) nr sr wr (by omega)
    refine ⟨fun σ' H' => σ' = [some (.ref a), some (.ref b), some (.int way), some (.int at_), some (.int ot)] ∧ H' = H3, ?_, ?_⟩
    · refine ⟨_, rfl, rfl, _, rfl, ite2 (fun _ => ?_) (fun _ => ⟨rfl, rfl⟩)⟩
      refine ⟨_, rfl, _, rfl, _, _, rfl, rfl, _, rfl, ite2 (fun _ => ?_) (fun _ => ⟨rfl, rfl⟩)⟩
      refine ⟨_, rfl, _, rfl, _, rfl, cutW w3 fun p Hp sp np wp => ?_⟩
      refine ⟨_, rfl, _, rfl, ix u0 ez2 (sp _ _ hb3) ?_⟩
      refine ⟨(by show 1 ≤ sizeLine; decide), fun l nl => ?_⟩
      have sl := same_upd (o := .lst [.str (z2)]) nl
      have wl := WL.new (z := z2) (C := B) nl (k2)
      generalize upd _ l (.lst [.str (z2)]) = Hl at sl wl ⊢
      refine catW (wp.same sl) wl (by omega) fun c Hc sc nc wc => ?_
      have sbc := (sp.trans sl).trans sc
      refine ⟨_, rfl, _, rfl, _, _, rfl, rfl, _, rfl, _, rfl, _, rfl, cutW (w3.same sbc) fun d Hd sd nd wd => ?_⟩
      refine catW (wc.same sd) wd (by omega) fun e He se nee we => ?_
      have sbe := (sbc.trans sd).trans se
      refine ⟨_, rfl, _, rfl, ix t0 ez1 (sbe _ _ hb3) ?_⟩
      refine ⟨(by show 1 ≤ sizeLine; decide), fun l2 nl2 => ?_⟩
      have sl2 := same_upd (o := .lst [.str (z1)]) nl2
      have wl2 := WL.new (z := z1) (C := B) nl2 (k1)
      generalize upd _ l2 (.lst [.str (z1)]) = Hl2 at sl2 wl2 ⊢
      refine catW (we.same sl2) wl2 (by omega) fun g Hg sg ng wg => ?_
      have sbg := (sbe.trans sl2).trans sg
      refine ⟨_, rfl, _, rfl, _, _, rfl, rfl, _, rfl, noPart (cutW (w3.same sbg) fun m Hm sm nm wm => ?_)⟩
      refine catW (wg.same sm) wm (by omega) fun r Hr sr nr wr => ?_
      exact fin (sbg.trans sm) nr sr wr (by omega)
    rintro σ' H3' ⟨rfl, rfl⟩
    refine ⟨_, rfl, rfl, _, rfl, ite2 (fun _ => ?_) (fun _ => ?_)⟩
    · refine ⟨_, rfl, _, rfl, _, rfl, cutW w3 fun p Hp sp np wp => ?_⟩
      refine ⟨_, rfl, _, rfl, _, _, rfl, rfl, _, rfl, noPart (cutW (w3.same sp) fun d Hd sd nd wd => ?_)⟩
      refine catW (wp.same sd) wd (by omega) fun r Hr sr nr wr => ?_
      exact fin (sp.trans sd) nr sr wr (by omega)
    refine ⟨_, rfl, rfl, _, rfl, ite2 (fun _ => ?_) (fun _ => ?_)⟩
    · refine ⟨_, rfl, _, rfl, _, rfl, cutW w3 fun p Hp sp np wp => ?_⟩
      have pn : p ≠ a := (s3.ne np).symm
      refine ⟨_, rfl, a, rfl, srcS sp s3, fun z Ho so bo lz az => ?_⟩
      refine ⟨(by show 1 ≤ sizeLine; decide), fun l nl => ?_⟩
      have sl := same_upd (o := .lst [.str (z)]) nl
      have wl := WL.new (z := z) (C := 22) nl (⟨by rw [Wt_one]; omega, fun y hy => by rw [List.mem_singleton.mp hy]; exact az⟩)
      generalize upd _ l (.lst [.str (z)]) = Hl at sl wl ⊢
      refine catW ((wp.but pn bo).same sl) wl (by omega) fun c Hc sc nc wc => ?_
      have wb : WL Hc b B := ((w3.same sp).but bn bo).same (sl.trans sc)
      refine ⟨_, rfl, _, rfl, _, rfl, noPart (cutW wb fun d Hd sd nd wd => ?_)⟩
      refine catW (wc.same sd) wd (by omega) fun r Hr sr nr wr => ?_
      exact fin2 so ((But.of sp).trans bo) ((sl.trans sc).trans sd) nr sr wr (by omega)
    refine ⟨_, rfl, rfl, _, rfl, ite2 (fun _ => ?_) (fun _ => ?_)⟩
    · refine ⟨_, rfl, _, rfl, a, rfl, s3, fun z Ho so bo lz az => ?_⟩
      refine ⟨(by show 1 ≤ sizeLine; decide), fun l nl => ?_⟩
      have sl := same_upd (o := .lst [.str (z)]) nl
      have wl := WL.new (z := z) (C := 22) nl (⟨by rw [Wt_one]; omega, fun y hy => by rw [List.mem_singleton.mp hy]; exact az⟩)
      generalize upd _ l (.lst [.str (z)]) = Hl at sl wl ⊢
      refine catW ((w3.but bn bo).same sl) wl (by omega) fun r Hr sr nr wr => ?_
      exact fin2 so bo sl nr sr wr (by omega)
    refine ⟨_, rfl, rfl, _, rfl, ite2 (fun _ => ?_) (fun _ => ?_)⟩
    · refine ⟨_, rfl, _, rfl, _, rfl, cutW w3 fun p Hp sp np wp => ?_⟩
      exact fin (Same.refl _) np sp wp (by omega)
    refine ⟨_, rfl, rfl, _, rfl, ite2 (fun _ => ?_) (fun _ => ?_)⟩
    · refine ⟨_, rfl, _, rfl, _, rfl, cutW w3 fun p Hp sp np wp => ?_⟩
      have pn : p ≠ a := (s3.ne np).symm
      refine ⟨_, rfl, _, rfl, ix t0 ez1 (sp _ _ hb3) ?_⟩
      refine ⟨_, rfl, a, 10, rfl, srcS sp s3, by decide, by decide, fun i Ho so bo i0 i1 => ?_⟩
      obtain ⟨y, ey⟩ : ∃ y, ("0123456789" : Str).cps.toList[i.toNat]? = some y := ⟨_, List.getElem?_eq_getElem (by show i.toNat < 10; omega)⟩
      have ym := List.mem_of_getElem? ey
      have y128 : y < 128 := of_decide_eq_true (List.all_eq_true.mp (show ("0123456789" : Str).cps.toList.all (fun c => decide (c < 128)) = true by decide +kernel) y ym)
      refine ⟨_, _, y, rfl, rfl, by show 10 ≤ sizeLine; decide, at_of' (Int.toNat_of_nonneg i0).symm ey, ?_⟩
      have l1' : (⟨#[y]⟩ : Str).length = 1 := rfl
      have z1l : z1.length ≤ B := by have := Wt_mem m1; omega
      refine ⟨_, _, rfl, rfl, Nat.le_of_lt (smallM (by rw [l1']; omega)), ?_⟩
      refine ⟨(by show 1 ≤ sizeLine; decide), fun l nl => ?_⟩
      have sl := same_upd (o := .lst [.str (z1 ++ ⟨#[y]⟩)]) nl
      have wl := WL.new (z := z1 ++ ⟨#[y]⟩) (C := B + 1) nl (⟨by rw [Wt_one, app_len, l1']; have := Wt_mem m1; omega, fun x hx => by rw [List.mem_singleton.mp hx]; exact app_sgn (ok.2 z1 m1) (one_sgn y128)⟩)
      generalize upd _ l (.lst [.str (z1 ++ ⟨#[y]⟩)]) = Hl at sl wl ⊢
      refine catW ((wp.but pn bo).same sl) wl (by omega) fun c Hc sc nc wc => ?_
      have wb : WL Hc b B := ((w3.same sp).but bn bo).same (sl.trans sc)
      refine ⟨_, rfl, _, rfl, _, _, rfl, rfl, _, rfl, noPart (cutW wb fun d Hd sd nd wd => ?_)⟩
      refine catW (wc.same sd) wd (by omega) fun r Hr sr nr wr => ?_
      exact fin2 so ((But.of sp).trans bo) ((sl.trans sc).trans sd) nr sr wr (by omega)
    refine ⟨_, rfl, rfl, _, rfl, ite2 (fun _ => ?_) (fun _ => ?_)⟩
    · refine ⟨_, rfl, _, rfl, _, rfl, cutW w3 fun p Hp sp np wp => ?_⟩
      refine ⟨_, rfl, _, rfl, ix t0 ez1 (sp _ _ hb3) ?_⟩
      have z1l : z1.length ≤ B := by have := Wt_mem m1; omega
      have lc := cutS_length z1 (some 1) none
      refine ⟨1, rfl, z1, rfl, Nat.le_of_lt (smallM (by omega)), ?_⟩
      refine ⟨(by show 1 ≤ sizeLine; decide), fun l nl => ?_⟩
      have sl := same_upd (o := .lst [.str (cutS z1 (some 1) none)]) nl
      have wl := WL.new (z := cutS z1 (some 1) none) (C := B + 1) nl (⟨by rw [Wt_one]; omega, fun x hx => by rw [List.mem_singleton.mp hx]; exact cutS_sgn (ok.2 z1 m1) _ _⟩)
      generalize upd _ l (.lst [.str (cutS z1 (some 1) none)]) = Hl at sl wl ⊢
      refine catW (wp.same sl) wl (by omega) fun c Hc sc nc wc => ?_
      refine ⟨_, rfl, _, rfl, _, _, rfl, rfl, _, rfl, noPart (cutW (w3.same ((sp.trans sl).trans sc)) fun d Hd sd nd wd => ?_)⟩
      refine catW (wc.same sd) wd (by omega) fun r Hr sr nr wr => ?_
      exact fin (((sp.trans sl).trans sc).trans sd) nr sr wr (by omega)
    refine ⟨_, rfl, 1, rfl, _, rfl, cutW w3 fun p Hp sp np wp => ?_⟩
    refine ⟨_, rfl, 5, rfl, 6, rfl, cutW (w3.same sp) fun d Hd sd nd wd => ?_⟩
    refine catW (wp.same sd) wd (by omega) fun r Hr sr nr wr => ?_
    exact fin (sp.trans sd) nr sr wr (by omega)
theorem ok_fits (T : Tab K mg) : FnOk P w K mg base CX0 3 T.f_fits T.d_fits ["_law_place", "_law_word"] (sp_fits K) := by
  refine T.F_fits.ok sc_fits (fun vs H Q E h => ?_) (fun cdv A outer s H vs Q E hr h => ?_)
  · obtain ⟨k, z, rfl, _⟩ := h
    rfl
  · obtain ⟨k, z, rfl, hk, hz, q⟩ := h
    refine ⟨_, (pss_cons (ps_if (pt_cmpR op_eq (pv 0) pe_int (nomark _))
      (pss_one (ps_ret (pe_cmpR op_notN (pe_call (ok_law_read_page T) (hr.mono (by decide)) (by rfl) T.g_law_read_page T.F_law_read_page.kp T.b_law_read_page .nil pass0 (pa_cons (pv 1) pa_nil)) pe_non (nomark _))))
      pss_nil)
      (pss_cons (ps_if (pt_cmpR op_eq (pv 0) pe_int (nomark _))
      (pss_one (ps_ret (pe_cmpR op_notN (pe_call (ok_number T) (hr.mono (by decide)) (by rfl) T.g_number T.F_number.kp T.b_number .nil pass0 (pa_cons (pv 1) (pa_cons pe_int pa_nil))) pe_non (nomark _))))
      pss_nil)
      (pss_cons (ps_if (pt_cmpR op_eq (pv 0) pe_int (nomark _))
      (pss_one (ps_ret (pe_cmpR op_notN (pe_call (ok_number T) (hr.mono (by decide)) (by rfl) T.g_number T.F_number.kp T.b_number .nil pass0 (pa_cons (pv 1) (pa_cons pe_int pa_nil))) pe_non (nomark _))))
      pss_nil)
      (pss_cons (ps_if (PW.pt (pw_or (pt_cmpR op_eq (pv 0) pe_int (nomark _)) (pw_or1 (pt_cmpR op_eq (pv 0) pe_int (nomark _)))))
      (pss_one (ps_ret (pe_chain op_le op_le pe_int (pe_callB call_len_str (by rfl) T.m_len PySem.boot_len (pa_cons (pv 1) pa_nil)) pe_int)))
      pss_nil)
      (pss_one (ps_ret (pe_cmpR op_eq (pv 1) (pe_ix ix_list (pe_lst (pa_cons pe_str (pa_cons pe_str (pa_cons pe_str (pa_cons pe_str (pa_cons pe_str (pa_cons pe_str (pa_cons pe_str (pa_cons pe_str pa_nil))))))))) (pv 0) (fun _ _ => rfl)) (nomark _)))))))), ?_⟩
    have no : ∀ {j : Nat}, k ≠ j → ¬ (decide (V.int (k : Int) = V.int (j : Int))) = true := fun h e => h (by have := V.int.inj (of_decide_eq_true e); omega)
    have hz2 : z.length ≤ sizeLine := Nat.le_of_lt (smallM (by omega))
    have q0 := q H (Same.refl H)
    refine ⟨_, rfl, rfl, _, rfl, ite2 (fun e => ?_) (fun e1 => ?_)⟩
    · have e : k = 1 := by have := V.int.inj (of_decide_eq_true e); omega
      subst e
      refine ⟨_, rfl, z, rfl, hz, fun er H1 s1 => ⟨rfl, ?_⟩, fun p er y H1 s1 ty => ⟨rfl, ?_⟩⟩
      · have := q H1 s1
        rw [show fit 1 z = false by show (rdP z).isSome = false; rw [er]; rfl] at this
        exact this
      · obtain ⟨pa, pl, rfl, _, _⟩ := tpP_inv ty
        have := q H1 s1
        rw [show fit 1 z = true by show (rdP z).isSome = true; rw [er]; rfl] at this
        exact this
    refine ⟨_, rfl, rfl, _, rfl, ite2 (fun e => ?_) (fun e2 => ?_)⟩
    · have e : k = 2 := by have := V.int.inj (of_decide_eq_true e); omega
      subst e
      have hf : fit 2 z = (rdM 11 z).isSome := rfl
      rw [hf] at q0
      refine ⟨_, rfl, z, 11, rfl, hz, rfl, ?_⟩
      cases er : rdM 11 z with
      | none => rw [er] at q0; exact q0
      | some i => rw [er] at q0; exact q0
    refine ⟨_, rfl, rfl, _, rfl, ite2 (fun e => ?_) (fun e3 => ?_)⟩
    · have e : k = 3 := by have := V.int.inj (of_decide_eq_true e); omega
      subst e
      have hf : fit 3 z = (rdM 29 z).isSome := rfl
      rw [hf] at q0
      refine ⟨_, rfl, z, 29, rfl, hz, rfl, ?_⟩
      cases er : rdM 29 z with
      | none => rw [er] at q0; exact q0
      | some i => rw [er] at q0; exact q0
    have ln : (k = 5 ∨ k = 7) → Q (.bl (decide (1 ≤ z.length ∧ z.length ≤ 20))) H := fun e => by
      have hf : fit k z = decide (1 ≤ z.length ∧ z.length ≤ 20) := by rcases e with rfl | rfl <;> rfl
      rw [hf] at q0
      exact q0
    have n1 : k ≠ 1 := fun z => e1 (decide_eq_true (by rw [z]; rfl))
    have n2 : k ≠ 2 := fun z => e2 (decide_eq_true (by rw [z]; rfl))
    have n3 : k ≠ 3 := fun z => e3 (decide_eq_true (by rw [z]; rfl))
    refine ⟨_, rfl, rfl, _, rfl, ?_⟩
    have chain : k = 5 ∨ k = 7 → ∀ (d : Bool), d = decide ((z.length : Int) ≤ 20) → (1 ≤ z.length → Q (.bl d) H) ∧ (¬ 1 ≤ z.length → Q (.bl false) H) := fun h d hd => by
      have := ln h
      refine ⟨fun h1 => ?_, fun h1 => ?_⟩
      · rw [show decide (1 ≤ z.length ∧ z.length ≤ 20) = d by rw [hd]; exact decide_eq_decide.mpr ⟨fun h => by omega, fun h => ⟨h1, by omega⟩⟩] at this
        exact this
      · rw [decide_eq_false (fun h => h1 h.1)] at this
        exact this
    by_cases h5 : k = 5
    · have ch := chain (.inl h5)
      rw [decide_eq_true (show V.int (k : Int) = V.int 5 by rw [h5]; rfl)]
      refine iteT ?_
      refine ⟨_, rfl, z, rfl, hz2, _, _, rfl, rfl, _, rfl, ite2 (fun e => ?_) (fun e => ?_)⟩
      · exact ⟨_, _, rfl, rfl, (ch _ rfl).1 (by have : (1 : Int) ≤ z.length := of_decide_eq_true e; omega)⟩
      · exact (ch _ rfl).2 (fun h => e (decide_eq_true (by omega)))
    · rw [decide_eq_false (show ¬ V.int (k : Int) = V.int 5 from fun h => h5 (by have := V.int.inj h; omega))]
      refine iteF ⟨_, rfl, rfl, _, rfl, ite2 (fun e => ?_) (fun e7 => ?_)⟩
      · have h7 : k = 7 := by have := V.int.inj (of_decide_eq_true e); omega
        have ch := chain (.inr h7)
        refine ⟨_, rfl, z, rfl, hz2, _, _, rfl, rfl, _, rfl, ite2 (fun e => ?_) (fun e => ?_)⟩
        · exact ⟨_, _, rfl, rfl, (ch _ rfl).1 (by have : (1 : Int) ≤ z.length := of_decide_eq_true e; omega)⟩
        · exact (ch _ rfl).2 (fun h => e (decide_eq_true (by omega)))
      have h7 : k ≠ 7 := fun z => e7 (decide_eq_true (by rw [z]; rfl))
      have hf : fit k z = decide (z = (["on", "", "", "", "for", "", "read", ""] : List Str).getD k "") := by
        unfold fit
        rw [if_neg n1, if_neg n2, if_neg n3, if_neg (by omega)]
      refine ⟨_, rfl, (by show 8 ≤ sizeLine; decide), fun L nL => ?_⟩
      have sL := same_upd (o := .lst ((["on", "", "", "", "for", "", "read", ""] : List Str).map V.str)) nL
      have := q _ sL
      rw [hf] at this
      refine ⟨_, rfl, L, _, _, .str ((["on", "", "", "", "for", "", "read", ""] : List Str).getD k ""), rfl, rfl, .inl (.inl upd_same), at_of' rfl ?_, rfl, ?_⟩
      · show ((["on", "", "", "", "for", "", "read", ""] : List Str).map V.str)[k]? = _
        have lk : k < (["on", "", "", "", "for", "", "read", ""] : List Str).length := hk
        rw [List.getElem?_map, List.getElem?_eq_getElem lk, List.getD_eq_getElem?_getD, List.getElem?_eq_getElem lk]
        rfl
      · rw [show decide (V.str z = V.str ((["on", "", "", "", "for", "", "read", ""] : List Str).getD k "")) = decide (z = (["on", "", "", "", "for", "", "read", ""] : List Str).getD k "") from decide_eq_decide.mpr ⟨fun h => V.str.inj h, fun h => congrArg V.str h⟩]
        exact this
theorem ok_kept_page (T : Tab K mg) : FnOk P w K mg base CX0 4 T.f_kept_page T.d_kept_page ["thing"] (sp_kept_page K) := by
  refine T.F_kept_page.ok sc_kept_page (fun vs H Q E h => ?_) (fun cdv A outer s H vs Q E hr h => ?_)
  · obtain ⟨v, p, rfl, _⟩ := h
    rfl
  · obtain ⟨v, p, rfl, ⟨a, u, rfl, hS, hu⟩, ok, q⟩ := h
    refine ⟨_, (pss_cons (ps_if (PW.pt (pw_or (pt_not (pt_val (pe_call (ok_is_sized T) (hr.mono (by decide)) (by rfl) T.g_is_sized T.F_is_sized.kp T.b_is_sized .nil pass0 (pa_cons (pv 0) (pa_cons pe_int (pa_cons pe_int pa_nil)))))) (pw_or1 (pt_not (pt_val (pe_call (ok_is_within T) (hr.mono (by decide)) (by rfl) T.g_is_within T.F_is_within.kp T.b_is_within .nil pass0 (pa_cons (pe_ix (IxR.or ix_list ix_tup) (pv 0) pe_int (fun _ _ => rfl)) (pa_cons pe_int (pa_cons pe_int pa_nil)))))))))
      (pss_one (ps_ret pe_non))
      pss_nil)
      (pss_cons (ps_set (i := 1) sc_kept_page.nd rfl (.inl rfl) (pe_call (ok_kept_label T) (hr.mono (by decide)) (by rfl) T.g_kept_label T.F_kept_label.kp T.b_kept_label .nil pass0 (pa_cons (pe_ix (IxR.or ix_list ix_tup) (pv 0) pe_int (fun _ _ => rfl)) pa_nil)))
      (pss_one (ps_ret (pe_ifExp (pt_cmpR op_isN (pv 1) pe_non (nomark _)) pe_non (pe_tup (pa_cons (pv 1) (pa_cons (pe_ix (IxR.or ix_list ix_tup) (pv 0) pe_int (fun _ _ => rfl)) pa_nil)))))))), ?_⟩
    have du : ∃ d, Dp K H u d := by
      obtain ⟨l, rfl, hl | hl⟩ := hu
      · exact ⟨_, dpL (L := p.1) (.inl (.inl hl))⟩
      · exact ⟨_, .lst hl (dp_ints p.1)⟩
    obtain ⟨d, hd⟩ := du
    have dd : ∃ d', Dp K H (.ref a) d' ∧ items d' = some [d, .int p.2] := by
      rcases hS with hS | hS
      · exact ⟨_, .lst hS (.cons hd (.cons (.int _) .nil)), rfl⟩
      · exact ⟨_, .tup hS (.cons hd (.cons (.int _) .nil)), rfl⟩
    obtain ⟨d', hd', hi⟩ := dd
    have hsz : sz 2 2 d' = true := by
      unfold sz
      rw [hi]
      rfl
    refine ⟨_, rfl, _, d', 2, 2, rfl, hd', fun H1 s1 => ⟨_, rfl, ?_⟩⟩
    rw [hsz]
    have ix : ∀ {Q1 : V → Hp → Prop} {H2 : Hp} {i : Int} {z : V}, Same H H2 → atI [u, .int p.2] i = some z → Q1 z H2 → (rIxL K (.ref a) (.int i) H2 Q1 ∨ rIxT K (.ref a) (.int i) H2 Q1) := fun {Q1 H2 i z} s e q => by
      rcases hS with hS | hS
      · exact .inl ⟨a, _, _, _, rfl, rfl, s.seq hS, e, q⟩
      · exact .inr ⟨a, _, _, _, rfl, rfl, same_seqT s hS, e, q⟩
    refine ⟨_, rfl, ix s1 rfl ?_⟩
    refine ⟨.int p.2, .int p.2, 0, 1, rfl, .int _, ?_⟩
    have e1 : wI 0 1 (.int p.2) = true := decide_eq_true (by have := ok.2; omega)
    rw [e1]
    refine ⟨_, rfl, ?_⟩
    refine ⟨_, rfl, ix s1 rfl ?_⟩
    have hu1 : IL K H1 u p.1 := by
      obtain ⟨l, rfl, hl | hl⟩ := hu
      · exact ⟨l, rfl, .inl (s1 _ _ hl)⟩
      · exact ⟨l, rfl, .inr (s1.seq hl)⟩
    refine ⟨u, rfl, .inl ⟨p.1, hu1, ok.1, fun y H2 s2 hy => ?_⟩⟩
    obtain ⟨b, rfl, hb⟩ := hy
    refine ⟨_, rfl, rfl, _, rfl, ite2 (fun e => absurd (of_decide_eq_true e) (by intro z; cases z)) (fun _ => ?_)⟩
    refine ⟨_, rfl, _, rfl, ix (s1.trans s2) rfl ?_⟩
    refine ⟨(by show 2 ≤ sizeLine; decide), fun t nt => ?_⟩
    have s3 := same_upd (o := .tup [.ref b, .int p.2]) nt
    exact q (.ref t) _ ((s1.trans s2).trans s3) (tpP (p := p) upd_same (s3 _ _ hb))
theorem ok_read_label (T : Tab K mg) : FnOk P w K mg base CX0 4 T.f_read_label T.d_read_label ["word"] (sp_read_label K) := by
  refine T.F_read_label.ok sc_read_label (fun vs H Q E h => ?_) (fun cdv A outer s H vs Q E hr h => ?_)
  · obtain ⟨z, rfl, _⟩ := h
    rfl
  · obtain ⟨z, rfl, hz, q1, q2⟩ := h
    refine ⟨_, (pss_one (ps_ret (pe_call (ok_kept_label T) (hr.mono (by decide)) (by rfl) T.g_kept_label T.F_kept_label.kp T.b_kept_label .nil pass0 (pa_cons (pe_lc (own := [("part", 1)]) (g := gName 1) (by rfl) sc_read_label.nd (pi_list (pe_split (pv 0) pe_str)) (blkOk_by (own := [("part", 1)]) (N := N_read_label) (sc := defScope s_read_label) (by decide +kernel)) (fun _ _ _ _ _ => pg_name (i := 1) sc_read_label.nd rfl (.inl rfl)) (fun _ _ _ _ _ => pts_nil) (fun _ _ _ _ _ => (pe_call (ok_read_integer T) (hr.mono (by decide)) (by rfl) T.g_read_integer T.F_read_integer.kp T.b_read_integer .nil pass0 (pa_cons (pv 1) (pa_cons pe_int (pa_cons pe_int pa_nil)))))) pa_nil)))), ?_⟩
    have hd1 : 1 ≤ ("." : Str).length := by decide +kernel
    have hcnt := split_cnt z "." hd1
    refine ⟨_, rfl, ⟨_, rfl⟩, z, _, rfl, rfl, (by decide +kernel), ?_, fun p np => ?_⟩
    · have e2 : sizeLine = 16777216 := by decide
      omega
    refine ⟨p, rfl, ⟨_, .inl (.inl upd_same)⟩, fun D nD => ?_⟩
    have ep : (upd H p (.lst ((Txt.split z ".").map V.str))) p = some (.lst ((Txt.split z ".").map V.str)) := upd_same
    have s1 := same_upd (o := .lst ((Txt.split z ".").map V.str)) np
    generalize upd H p (.lst ((Txt.split z ".").map V.str)) = H1 at nD ep s1
    refine lc_list (xs := (Txt.split z ".").map V.str) (fun i H' => Same H1 H' ∧ H' D = some (.lst ((((Txt.split z ".").take i).map rdI).map optI))) ⟨same_upd nD, upd_same⟩ (fun i H' _ hh => .inl (.inl (hh.1 _ _ ep))) ?_ ?_
    · rintro i x H' hx ⟨sm, eD⟩
      obtain ⟨y, rfl, hy⟩ := get_map hx
      have hy1 := split_part z "." hd1 (List.mem_of_getElem? hy)
      have hi := (List.getElem?_eq_some_iff.mp hy).1
      refine ⟨rfl, ?_⟩
      refine ⟨_, rfl, y, 99, rfl, .inl rfl, by omega, fun H2 s2 => ⟨_, s2 _ _ eD, ?_, same_put (sm.trans s2) nD _, ?_⟩⟩
      · rw [List.length_map, List.length_map, List.length_take]; exact smallM (by omega)
      · rw [upd_same, List.take_add_one, hy, List.map_append, List.map_append, rdM99]; rfl
    · rintro H' ⟨sm, eD⟩
      rw [List.length_map, List.take_length] at eD
      exact ⟨_, rfl, .inr ⟨D, _, rfl, eD, fun i hi => rdI_some hi, by rw [List.length_map]; omega, fun e H2 s2 => q1 e H2 ((s1.trans sm).trans s2), fun L e y H2 s2 ty => q2 L e y H2 ((s1.trans sm).trans s2) ty⟩⟩
theorem ok_Cursor_take_one (T : Tab K mg) : FnOk P w K mg base (L2.CX P w) 4 T.f_Cursor_take_one T.d_Cursor_take_one ["self", "words"] (sp_Cursor_take_one K T.C_Cursor T.C_BadLine) := by
  refine T.F_Cursor_take_one.okX sc_Cursor_take_one (fun vs H Q E h => ?_) (fun cdv A outer s H vs Q E hr h => ?_)
  · obtain ⟨x, b, ws, n, l, z0, rfl, _⟩ := h
    rfl
  · obtain ⟨x, b, ws, n, l, z0, rfl, hc, hb, kE, kQ⟩ := h
    refine ⟨_, (pss_cons (ps_set (i := 2) sc_Cursor_take_one.nd rfl (.inl rfl) (pe_meth0 (pv 0) T.cl_Cursor ⟨T.g_Cursor_look, T.fn_Cursor_look, T.F_Cursor_look.kp⟩ (ok_Cursor_look T) (hr.mono (by decide)) T.b_Cursor_look .nil (passes_call (takes_of rfl rfl rfl rfl) (fun _ _ _ _ h => h))))
      (pss_one (ps_ret (pe_meth (pv 0) T.cl_Cursor ⟨T.g_Cursor_take, T.fn_Cursor_take, T.F_Cursor_take.kp⟩ (ok_Cursor_take T) (hr.mono (by decide)) T.b_Cursor_take .nil (passes_call (takes_of rfl rfl rfl rfl) (fun _ _ _ _ h => h)) (pa_cons (pe_ifExp (pt_cmpR op_in_seq (pv 2) (pv 1) (by rfl)) (pv 2) pe_non) pa_nil))))), ?_⟩
    obtain ⟨dx, a, hx, ha, ax⟩ := id hc
    refine ⟨_, rfl, x, dx, _, rfl, hx, rfl, x, ws, n, l, rfl, hc, fun hz => kE (by rw [hz]; exact nofun), fun z hz => ?_⟩
    refine ⟨_, rfl, x, dx, _, rfl, hx, rfl, ?_⟩
    refine ⟨_, rfl, _, rfl, b, _, rfl, .inr hb, rfl, rfl, _, rfl, ?_⟩
    show if (inV (.str z) [.str z0]) = true then _ else _
    by_cases e : z = z0
    · subst e
      rw [in_one, decide_eq_true rfl]
      exact iteT ⟨_, rfl, x, .str z, ws, n, l, rfl, hc, (fun z => nomatch z), fun _ H2 h2 b2 => kQ hz H2 h2 b2⟩
    · rw [in_one, decide_eq_false e]
      exact iteF ⟨x, .non, ws, n, l, rfl, hc, fun _ => kE (by rw [hz]; exact fun h => e (Option.some.inj h)), fun h => absurd rfl h⟩
theorem ok_Cursor_take_integer (T : Tab K mg) : FnOk P w K mg base (L2.CX P w) 4 T.f_Cursor_take_integer T.d_Cursor_take_integer ["self", "least", "most"] (sp_Cursor_take_integer K T.C_Cursor T.C_BadLine) := by
  refine T.F_Cursor_take_integer.okX sc_Cursor_take_integer (fun vs H Q E h => ?_) (fun cdv A outer s H vs Q E hr h => ?_)
  · obtain ⟨x, m, ws, n, l, rfl, _⟩ := h
    rfl
  · obtain ⟨x, m, ws, n, l, rfl, hm, hc, hws, kE, kQ⟩ := h
    refine ⟨_, (pss_one (ps_ret (pe_meth (pv 0) T.cl_Cursor ⟨T.g_Cursor_take, T.fn_Cursor_take, T.F_Cursor_take.kp⟩ (ok_Cursor_take T) (hr.mono (by decide)) T.b_Cursor_take .nil (passes_call (takes_of rfl rfl rfl rfl) (fun _ _ _ _ h => h)) (pa_cons (pe_call (ok_read_integer T) (hr.mono (by decide)) (by rfl) T.g_read_integer T.F_read_integer.kp T.b_read_integer .nil pass0 (pa_cons (pe_meth0 (pv 0) T.cl_Cursor ⟨T.g_Cursor_look, T.fn_Cursor_look, T.F_Cursor_look.kp⟩ (ok_Cursor_look T) (hr.mono (by decide)) T.b_Cursor_look .nil (passes_call (takes_of rfl rfl rfl rfl) (fun _ _ _ _ h => h))) (pa_cons (pv 1) (pa_cons (pv 2) pa_nil)))) pa_nil)))), ?_⟩
    obtain ⟨dx, a, hx, ha, ax⟩ := id hc
    refine ⟨_, rfl, x, dx, _, rfl, hx, rfl, ?_⟩
    refine ⟨_, rfl, x, dx, _, rfl, hx, rfl, x, ws, n, l, rfl, hc, fun hz => kE (fun z e => by rw [hz] at e; cases e), fun z hz => ?_⟩
    have lz := hws z (List.mem_of_getElem? hz)
    refine ⟨_, rfl, _, rfl, _, m, rfl, by omega, by omega, fun H1 s1 => ?_⟩
    cases e : rdM m z with
    | none =>
      exact ⟨x, .non, ws, n, l, rfl, hc.same s1, fun _ H2 dd s2 hb => kE (fun y hy => by rw [hz] at hy; cases hy; exact e) H2 dd (s1.trans s2) hb, fun h => absurd rfl h⟩
    | some i =>
      exact ⟨x, .int i, ws, n, l, rfl, hc.same s1, (fun z => nomatch z), fun _ H2 h2 b2 => kQ z i hz e H2 h2 ((But.of s1).trans b2)⟩
theorem ok_take_token (T : Tab K mg) : FnOk P w K mg base (L2.CX P w) 4 T.f_take_token T.d_take_token ["cursor"] (sp_take_token K T.C_Cursor T.C_BadLine) := by
  refine T.F_take_token.okX sc_take_token (fun vs H Q E h => ?_) (fun cdv A outer s H vs Q E hr h => ?_)
  · obtain ⟨x, ws, n, l, rfl, _⟩ := h
    rfl
  · obtain ⟨x, ws, n, l, rfl, hc, hws, kE, kQ⟩ := h
    refine ⟨_, (pss_cons (ps_set (i := 1) sc_take_token.nd rfl (.inl rfl) (pe_meth0 (pv 0) T.cl_Cursor ⟨T.g_Cursor_look, T.fn_Cursor_look, T.F_Cursor_look.kp⟩ (ok_Cursor_look T) (hr.mono (by decide)) T.b_Cursor_look .nil (passes_call (takes_of rfl rfl rfl rfl) (fun _ _ _ _ h => h))))
      (pss_one (ps_ret (pe_meth (pv 0) T.cl_Cursor ⟨T.g_Cursor_take, T.fn_Cursor_take, T.F_Cursor_take.kp⟩ (ok_Cursor_take T) (hr.mono (by decide)) T.b_Cursor_take .nil (passes_call (takes_of rfl rfl rfl rfl) (fun _ _ _ _ h => h)) (pa_cons (pe_ifExp (pt_val (pe_call (ok_is_token T) (hr.mono (by decide)) (by rfl) T.g_is_token T.F_is_token.kp T.b_is_token .nil pass0 (pa_cons (pv 1) pa_nil))) (pv 1) pe_non) pa_nil))))), ?_⟩
    obtain ⟨dx, a, hx, ha, ax⟩ := id hc
    refine ⟨_, rfl, x, dx, _, rfl, hx, rfl, x, ws, n, l, rfl, hc, fun hz => kE (fun z e => by rw [hz] at e; cases e), fun z hz => ?_⟩
    have lz := hws z (List.mem_of_getElem? hz)
    refine ⟨_, rfl, x, dx, _, rfl, hx, rfl, ?_⟩
    refine ⟨_, rfl, z, rfl, by omega, _, rfl, ?_⟩
    cases e : tokB z with
    | true => exact iteT ⟨_, rfl, x, .str z, ws, n, l, rfl, hc, (fun z => nomatch z), fun _ H2 h2 b2 => kQ z hz e H2 h2 b2⟩
    | false => exact iteF ⟨x, .non, ws, n, l, rfl, hc, fun _ => kE (fun y hy => by rw [hz] at hy; cases hy; exact e), fun h => absurd rfl h⟩
theorem ok_spoilt (T : Tab K mg) : FnOk P w K mg base CX0 4 T.f_spoilt T.d_spoilt ["_law_source_here", "_law_lines"] (sp_spoilt K) := by
  refine T.F_spoilt.ok sc_spoilt (fun vs H Q E h => ?_) (fun cdv A outer s H vs Q E hr h => ?_)
  · obtain ⟨a, b, xs, B, rfl, _⟩ := h
    rfl
  · obtain ⟨a, b, xs, B, rfl, src, bn, hb, ne, l600, lB, ok, q⟩ := h
    refine ⟨_, (pss_cons (ps_set (i := 2) sc_spoilt.nd rfl (.inl rfl) (pe_call (ok_pick T) (hr.mono (by decide)) (by rfl) T.g_pick T.F_pick.kp T.b_pick .nil pass0 (pa_cons (pv 0) (pa_cons (pe_callB call_len_seq (by rfl) T.m_len PySem.boot_len (pa_cons (pv 1) pa_nil)) pa_nil))))
      (pss_cons (ps_set (i := 3) sc_spoilt.nd rfl (.inl rfl) (pe_call (ok_pick T) (hr.mono (by decide)) (by rfl) T.g_pick T.F_pick.kp T.b_pick .nil pass0 (pa_cons (pv 0) (pa_cons (pe_callB call_len_seq (by rfl) T.m_len PySem.boot_len (pa_cons (pv 1) pa_nil)) pa_nil))))
      (pss_cons (ps_set (i := 4) sc_spoilt.nd rfl (.inl rfl) (pe_call (ok_pick T) (hr.mono (by decide)) (by rfl) T.g_pick T.F_pick.kp T.b_pick .nil pass0 (pa_cons (pv 0) (pa_cons pe_int pa_nil))))
      (pss_cons (ps_if (pt_cmpR op_eq (pv 4) pe_int (nomark _))
      (pss_one (ps_ret (pe_op op_cat (pe_slice sl_list (pv 1) po_none (po_some (pv 2))) (pe_slice sl_list (pv 1) (po_some (pe_op op_add (pv 2) pe_int)) po_none))))
      pss_nil)
      (pss_cons (ps_if (pt_cmpR op_eq (pv 4) pe_int (nomark _))
      (pss_one (ps_ret (pe_op op_cat (pe_op op_cat (pe_slice sl_list (pv 1) po_none (po_some (pv 2))) (pe_lst (pa_cons (pe_ix ix_list (pv 1) (pv 3) (fun _ _ => rfl)) pa_nil))) (pe_slice sl_list (pv 1) (po_some (pv 2)) po_none))))
      pss_nil)
      (pss_cons (ps_if (pt_cmpR op_eq (pv 4) pe_int (nomark _))
      (pss_one (ps_ret (pe_op op_cat (pe_op op_cat (pe_slice sl_list (pv 1) po_none (po_some (pv 2))) (pe_lst (pa_cons (pe_ix ix_list (pe_lst (pa_cons pe_str (pa_cons pe_str (pa_cons pe_non (pa_cons pe_int (pa_cons pe_bl pa_nil)))))) (pe_call (ok_pick T) (hr.mono (by decide)) (by rfl) T.g_pick T.F_pick.kp T.b_pick .nil pass0 (pa_cons (pv 0) (pa_cons pe_int pa_nil))) (fun _ _ => rfl)) pa_nil))) (pe_slice sl_list (pv 1) (po_some (pe_op op_add (pv 2) pe_int)) po_none))))
      pss_nil)
      (C8.pss_cut (ps_if (PW.pt (pw_and (pt_cmpR op_eq (pv 4) pe_int (nomark _)) (pw_and1 (pt_cmpR op_lt (pv 2) (pv 3) (nomark _)))))
      (pss_one (ps_ret (pe_op op_cat (pe_op op_cat (pe_op op_cat (pe_op op_cat (pe_slice sl_list (pv 1) po_none (po_some (pv 2))) (pe_lst (pa_cons (pe_ix ix_list (pv 1) (pv 3) (fun _ _ => rfl)) pa_nil))) (pe_slice sl_list (pv 1) (po_some (pe_op op_add (pv 2) pe_int)) (po_some (pv 3)))) (pe_lst (pa_cons (pe_ix ix_list (pv 1) (pv 2) (fun _ _ => rfl)) pa_nil))) (pe_slice sl_list (pv 1) (po_some (pe_op op_add (pv 3) pe_int)) po_none))))
      pss_nil)
      (pss_cons (ps_if (pt_not (pt_val (pe_callB call_isi (by rfl) T.m_isinstance (by decide +kernel) (pa_cons (pe_ix ix_list (pv 1) (pv 2) (fun _ _ => rfl)) (pa_cons (pe_bltn (v := .ty "str") (u := .type "str") (by rfl) T.m_str (by decide +kernel) rfl) pa_nil)))))
      (pss_one (ps_ret (pv 1)))
      pss_nil)
      (pss_cons (ps_set (i := 5) sc_spoilt.nd rfl (.inl rfl) (pe_call (ok_spoilt_words T) (hr.mono (by decide)) (by rfl) T.g_spoilt_words T.F_spoilt_words.kp T.b_spoilt_words .nil pass0 (pa_cons (pv 0) (pa_cons (pe_split (pe_ix ix_list (pv 1) (pv 2) (fun _ _ => rfl)) pe_str) pa_nil))))
      (pss_one (ps_ret (pe_op op_cat (pe_op op_cat (pe_slice sl_list (pv 1) po_none (po_some (pv 2))) (pe_lst (pa_cons (pe_join pe_str (pv 5)) pa_nil))) (pe_slice sl_list (pv 1) (po_some (pe_op op_add (pv 2) pe_int)) po_none))))))))))))), ?_⟩
    have l1 : 1 ≤ xs.length := List.length_pos_iff.mpr ne
    refine ⟨_, rfl, _, rfl, _, _, rfl, .inl (.inl (.inl hb)), a, _, rfl, src, by omega, by omega, fun at_ H1 s1 b1 t0 t1 => ?_⟩
    have hb1 := b1 _ _ bn hb
    refine ⟨_, rfl, _, rfl, _, _, rfl, .inl (.inl (.inl hb1)), a, _, rfl, s1, by omega, by omega, fun ot H2 s2 b2 u0 u1 => ?_⟩
    have hb2 := b2 _ _ bn hb1
    refine ⟨_, rfl, a, 12, rfl, s2, by decide, by decide, fun way H3 s3 b3 y0 y1 => ?_⟩
    have hb3 := b3 _ _ bn hb2
    have b03 := (b1.trans b2).trans b3
    have w3 : VL H3 b xs.length B := ⟨xs, hb3, Nat.le_refl _, ok⟩
    clear hb hb1 hb2 s1 s2 b1 b2 b3 src
    obtain ⟨z1, ez1⟩ : ∃ z, xs[at_.toNat]? = some z := ⟨_, List.getElem?_eq_getElem (by omega)⟩
    obtain ⟨z2, ez2⟩ : ∃ z, xs[ot.toNat]? = some z := ⟨_, List.getElem?_eq_getElem (by omega)⟩
    have ix : ∀ {H' : Hp} {i : Int} {z : V}, 0 ≤ i → xs[i.toNat]? = some z → H' b = some (.lst xs) → ∀ {R : V → Hp → Prop}, R z H' → rIxL K (.ref b) (.int i) H' R := fun i0 e h R r => ⟨b, _, _, _, rfl, rfl, .inl (.inl h), at_of' (Int.toNat_of_nonneg i0).symm e, r⟩
    have m1 := List.mem_of_getElem? ez1
    have m2 := List.mem_of_getElem? ez2
    have k1 : LsOk B [z1] := fun x hx => by rw [List.mem_singleton.mp hx]; exact ok z1 m1
    have k2 : LsOk B [z2] := fun x hx => by rw [List.mem_singleton.mp hx]; exact ok z2 m2
    have up : ∀ {n : Nat} {C : Nat} {H' : Hp} {p : Addr}, VL H' p n C → C ≤ 5 * B + 40 → n ≤ xs.length + 1 → ∃ ys, H' p = some (.lst ys) ∧ ys.length ≤ xs.length + 1 ∧ LsOk (5 * B + 40) ys := fun h lc ln => by
      obtain ⟨ys, e, l, o⟩ := h
      refine ⟨ys, e, Nat.le_trans l ln, fun x hx => ?_⟩
      rcases o x hx with h | h | h | ⟨z, h, l, a⟩
      · exact .inl h
      · exact .inr (.inl h)
      · exact .inr (.inr (.inl h))
      · exact .inr (.inr (.inr ⟨z, h, Nat.le_trans l lc, a⟩))
    have fin2 : ∀ {Ho Hs Hf : Hp} {r : Addr} {n C : Nat}, Src Ho a → But a H3 Ho → Same Ho Hs → Hs r = none → Same Hs Hf → VL Hf r n C → C ≤ 5 * B + 40 → n ≤ xs.length + 1 → Q (.ref r) Hf := fun so bo sa nr sb hw lc ln => by
      obtain ⟨zs, e, k, l⟩ := up hw lc ln
      have sp := srcS sa so
      exact q _ zs _ (srcS sb sp) ((b03.trans bo).trans (But.of (sa.trans sb))) e (sp.ne nr).symm k l
    have fin : ∀ {Hs Hf : Hp} {r : Addr} {n C : Nat}, Same H3 Hs → Hs r = none → Same Hs Hf → VL Hf r n C → C ≤ 5 * B + 40 → n ≤ xs.length + 1 → Q (.ref r) Hf := fun sa => fin2 s3 (But.refl a H3) sa
    refine ⟨_, rfl, rfl, _, rfl, ite2 (fun _ => ?_) (fun _ => ?_)⟩
    · refine ⟨_, rfl, _, rfl, _, rfl, cutLto t0 w3 fun p Hp sp np wp => ?_⟩
      refine ⟨_, rfl, _, rfl, _, _, rfl, rfl, _, rfl, noPart (cutLfrom (by omega) (w3.same sp) fun d Hd sd nd wd => ?_)⟩
      refine catL (wp.same sd) wd (by omega) (Nat.le_refl _) fun r Hr sr nr wr => ?_
      exact fin (sp.trans sd) nr sr wr (by omega) (by omega)
    refine ⟨_, rfl, rfl, _, rfl, ite2 (fun _ => ?_) (fun _ => ?_)⟩
    · refine ⟨_, rfl, _, rfl, _, rfl, cutLto t0 w3 fun p Hp sp np wp => ?_⟩
      refine ⟨_, rfl, _, rfl, ix u0 ez2 (sp _ _ hb3) ?_⟩
      refine ⟨(by show 1 ≤ sizeLine; decide), fun l nl => ?_⟩
      have sl := same_upd (o := .lst [z2]) nl
      have wl := VL.new nl k2
      generalize upd _ l (.lst [z2]) = Hl at sl wl ⊢
      refine catL (wp.same sl) wl (by omega) (Nat.le_refl _) fun c Hc sc nc wc => ?_
      have sbc := (sp.trans sl).trans sc
      refine ⟨_, rfl, _, rfl, _, rfl, noPart (cutLfrom (by omega) (w3.same sbc) fun d Hd sd nd wd => ?_)⟩
      refine catL (wc.same sd) wd (by omega) (Nat.le_refl _) fun r Hr sr nr wr => ?_
      exact fin (sbc.trans sd) nr sr wr (by omega) (by omega)
    refine ⟨_, rfl, rfl, _, rfl, ite2 (fun _ => ?_) (fun _ => ?_)⟩
    · refine ⟨_, rfl, _, rfl, _, rfl, cutLto t0 w3 fun p Hp sp np wp => ?_⟩
      have pn : p ≠ a := (s3.ne np).symm
      refine ⟨(by show 5 ≤ sizeLine; decide), fun o no => ?_⟩
      have so := same_upd (o := .lst OD) no
      have ho : upd Hp o (.lst OD) o = some (.lst OD) := upd_same
      have on : o ≠ a := ((srcS sp s3).ne no).symm
      have wp1 : VL (upd Hp o (.lst OD)) p at_.toNat B := wp.same so
      have sp1 : Same H3 (upd Hp o (.lst OD)) := sp.trans so
      refine ⟨_, rfl, a, 5, rfl, srcS sp1 s3, by decide, by decide, fun i Ho s4 b4 i0 i1 => ?_⟩
      obtain ⟨y, ey⟩ : ∃ y, OD[i.toNat]? = some y := ⟨_, List.getElem?_eq_getElem (by show i.toNat < 5; omega)⟩
      refine ⟨o, _, i, y, rfl, rfl, .inl (.inl (b4 _ _ on ho)), at_of' (Int.toNat_of_nonneg i0).symm ey, ?_⟩
      have ky : LsOk (5 * B + 40) [y] := fun x hx => by
        rw [List.mem_singleton.mp hx]
        have := OD_ok y (List.mem_of_getElem? ey)
        rcases this with h | h | h | ⟨z, h, l, a⟩
        · exact .inl h
        · exact .inr (.inl h)
        · exact .inr (.inr (.inl h))
        · exact .inr (.inr (.inr ⟨z, h, by omega, a⟩))
      refine ⟨(by show 1 ≤ sizeLine; decide), fun l nl => ?_⟩
      have sl := same_upd (o := .lst [y]) nl
      have wl := VL.new nl ky
      generalize upd _ l (.lst [y]) = Hl at sl wl ⊢
      obtain ⟨ps, ep, lp, op⟩ := (wp1.but pn b4).same sl
      have wp2 : VL Hl p at_.toNat (5 * B + 40) := ⟨ps, ep, lp, fun x hx => by
        rcases op x hx with h | h | h | ⟨z, h, l, a⟩
        · exact .inl h
        · exact .inr (.inl h)
        · exact .inr (.inr (.inl h))
        · exact .inr (.inr (.inr ⟨z, h, by omega, a⟩))⟩
      refine catL wp2 wl (by omega) (Nat.le_refl _) fun c Hc sc nc wc => ?_
      have wb := ((w3.same sp1).but bn b4).same (sl.trans sc)
      refine ⟨_, rfl, _, rfl, _, _, rfl, rfl, _, rfl, noPart (cutLfrom (by omega) wb fun d Hd sd nd wd => ?_)⟩
      refine catL (wc.same sd) wd (by omega) (by omega) fun r Hr sr nr wr => ?_
      exact fin2 s4 ((But.of sp1).trans b4) ((sl.trans sc).trans sd) nr sr wr (by omega) (by omega)
    refine ⟨fun σ' H' => σ' = [some (.ref a), some (.ref b), some (.int at_), some (.int ot), some (.int way), none] ∧ H' = H3, ?_, ?_⟩
    · refine ⟨_, rfl, rfl, _, rfl, ite2 (fun _ => ?_) (fun _ => ⟨rfl, rfl⟩)⟩
      refine ⟨_, rfl, _, rfl, _, _, rfl, rfl, _, rfl, ite2 (fun elt => ?_) (fun _ => ⟨rfl, rfl⟩)⟩
      have elt : at_ < ot := of_decide_eq_true elt
      refine ⟨_, rfl, _, rfl, _, rfl, cutLto t0 w3 fun p Hp sp np wp => ?_⟩
      refine ⟨_, rfl, _, rfl, ix u0 ez2 (sp _ _ hb3) ?_⟩
      refine ⟨(by show 1 ≤ sizeLine; decide), fun l nl => ?_⟩
      have sl := same_upd (o := .lst [z2]) nl
      have wl := VL.new nl k2
      generalize upd _ l (.lst [z2]) = Hl at sl wl ⊢
      refine catL (wp.same sl) wl (by omega) (Nat.le_refl _) fun c Hc sc nc wc => ?_
      have sbc := (sp.trans sl).trans sc
      refine ⟨_, rfl, _, rfl, _, _, rfl, rfl, _, rfl, _, rfl, _, rfl, cutLmid (by omega) u0 (w3.same sbc) fun d Hd sd nd wd => ?_⟩
      refine catL (wc.same sd) wd (by omega) (Nat.le_refl _) fun e He se nee we => ?_
      have sbe := (sbc.trans sd).trans se
      refine ⟨_, rfl, _, rfl, ix t0 ez1 (sbe _ _ hb3) ?_⟩
      refine ⟨(by show 1 ≤ sizeLine; decide), fun l2 nl2 => ?_⟩
      have sl2 := same_upd (o := .lst [z1]) nl2
      have wl2 := VL.new nl2 k1
      generalize upd _ l2 (.lst [z1]) = Hl2 at sl2 wl2 ⊢
      refine catL (we.same sl2) wl2 (by omega) (Nat.le_refl _) fun g Hg sg ng wg => ?_
      have sbg := (sbe.trans sl2).trans sg
      refine ⟨_, rfl, _, rfl, _, _, rfl, rfl, _, rfl, noPart (cutLfrom (by omega) (w3.same sbg) fun m Hm sm nm wm => ?_)⟩
      refine catL (wg.same sm) wm (by omega) (Nat.le_refl _) fun r Hr sr nr wr => ?_
      exact fin (sbg.trans sm) nr sr wr (by omega) (by omega)
    rintro σ' H3' ⟨rfl, rfl⟩
    have self : Q (.ref b) H3' := by
      obtain ⟨ys, e, l, o⟩ := up w3 (by omega) (by omega)
      exact q b ys _ s3 b03 e bn l o
    refine ⟨_, rfl, _, rfl, ix t0 ez1 hb3 ?_⟩
    rcases ok z1 m1 with rfl | rfl | rfl | ⟨z, rfl, lz, az⟩
    · exact ⟨_, _, _, _, _, rfl, .ty "str", .base .non, kit_ty (r := false) (by decide +kernel), false, rfl, iteT ⟨_, rfl, self⟩⟩
    · exact ⟨_, _, _, _, _, rfl, .ty "str", .base (.int 7), kit_ty (r := false) (by decide +kernel), false, rfl, iteT ⟨_, rfl, self⟩⟩
    · exact ⟨_, _, _, _, _, rfl, .ty "str", .base (.bl true), kit_ty (r := false) (by decide +kernel), false, rfl, iteT ⟨_, rfl, self⟩⟩
    refine ⟨_, _, _, _, _, rfl, .ty "str", .base (.str z), kit_ty (by decide +kernel), true, rfl, iteF ?_⟩
    refine ⟨_, rfl, _, rfl, _, rfl, ix t0 ez1 hb3 ?_⟩
    refine ⟨⟨_, rfl⟩, z, _, rfl, rfl, (by decide +kernel), by rw [sizeLine_eq]; omega, fun p np => ?_⟩
    have sp := same_upd (o := .lst ((Txt.split z " ").map V.str)) np
    have hp : upd H3' p (.lst ((Txt.split z " ").map V.str)) p = some (.lst ((Txt.split z " ").map V.str)) := upd_same
    have pn : p ≠ a := (s3.ne np).symm
    generalize upd H3' p (.lst ((Txt.split z " ").map V.str)) = Hp at sp hp ⊢
    have wz := Wt_split z
    refine ⟨a, p, Txt.split z " ", B + 1, rfl, srcS sp s3, pn, hp, split_ne z " ", by omega, ⟨by omega, split_sgn az⟩, fun r zs Ho so bo hr rn ⟨o1, o2⟩ => ?_⟩
    have wb : VL Ho b xs.length B := (w3.same sp).but bn bo
    have bo' := (But.of (a := a) sp).trans bo
    refine ⟨_, rfl, _, rfl, _, rfl, cutLto t0 wb fun c Hc sc nc wc => ?_⟩
    have lj := Wt_join zs
    have lz2 := Wt_len zs
    have sum_le : ∀ ws : List Str, (ws.map (·.length)).sum + ws.length = Wt ws := by
      intro ws
      induction ws with
      | nil => rfl
      | cons z r ih => show (z.length + (r.map (·.length)).sum) + (r.length + 1) = (z.length + 1) + Wt r; omega
    have e1 : (" " : Str).length = 1 := by decide +kernel
    refine ⟨⟨_, rfl⟩, _, rfl, _, r, zs, rfl, rfl, .inl (.inl (.inl (sc _ _ hr))), by have := sum_le zs; rw [e1]; omega, ?_⟩
    refine ⟨(by show 1 ≤ sizeLine; decide), fun l nl => ?_⟩
    have sl := same_upd (o := .lst [.str (Txt.join " " zs)]) nl
    have kj : LsOk (5 * B + 40) [.str (Txt.join " " zs)] := fun x hx => by
      rw [List.mem_singleton.mp hx]
      exact .inr (.inr (.inr ⟨_, rfl, by omega, join_sgn o2⟩))
    have wl := VL.new nl kj
    generalize upd _ l (.lst [.str (Txt.join " " zs)]) = Hl at sl wl ⊢
    obtain ⟨ps, ep, lp, op⟩ := wc.same sl
    have wp2 : VL Hl c at_.toNat (5 * B + 40) := ⟨ps, ep, lp, fun x hx => by
      rcases op x hx with h | h | h | ⟨z, h, l, a⟩
      · exact .inl h
      · exact .inr (.inl h)
      · exact .inr (.inr (.inl h))
      · exact .inr (.inr (.inr ⟨z, h, by omega, a⟩))⟩
    refine catL wp2 wl (by omega) (Nat.le_refl _) fun e He se ne2 we => ?_
    have sce := (sc.trans sl).trans se
    refine ⟨_, rfl, _, rfl, _, _, rfl, rfl, _, rfl, noPart (cutLfrom (by omega) (wb.same sce) fun d Hd sd nd wd => ?_)⟩
    refine catL (we.same sd) wd (by omega) (by omega) fun r2 Hr sr nr wr => ?_
    exact fin2 so bo' (sce.trans sd) nr sr wr (by omega) (by omega)
theorem ok_due (T : Tab K mg) : GnOk P w K mg base CX0 4 T.f_due T.d_due ["_law_lines"] (sp_due K) := by
  refine gn_ok T.F_due sc_due (fun vs H Q E h => ?_) (fun cdv A outer s H vs Q E hr hg h => ?_)
  · obtain ⟨a, xs, rfl, _⟩ := h
    rfl
  · obtain ⟨a, xs, rfl, ha, okx, l5, q⟩ := h
    refine ⟨_, (pss_cons (ps_set (i := 1) sc_due.nd rfl (.inl rfl) (pe_lst pa_nil))
      (pss_cons (ps_for PassesOwn.never rfl (pi_range1 (by rfl) T.m_range (pa_cons (pe_callB call_len_seq (by rfl) T.m_len PySem.boot_len (pa_cons (pv 0) pa_nil)) pa_nil)) (pg_name (i := 2) sc_due.nd rfl (.inl rfl))
      (pss_cons (ps_if (pt_not (pt_val (pe_callB call_isi (by rfl) T.m_isinstance (by decide +kernel) (pa_cons (pe_ix ix_list (pv 0) (pv 2) (fun _ _ => rfl)) (pa_cons (pe_bltn (v := .ty "str") (u := .type "str") (by rfl) T.m_str (by decide +kernel) rfl) pa_nil)))))
        (pss_one (ps_ret (pe_lst (pa_cons pe_str (pa_cons (pe_callB (call_reprD (by exact hg) (by exact un20 hr)) (by rfl) T.m_repr (by decide +kernel) (pa_cons (pv 2) pa_nil)) (pa_cons pe_str pa_nil))))))
        pss_nil)
        (pss_cons (ps_set (i := 3) sc_due.nd rfl (.inl rfl) (pe_split (pe_ix ix_list (pv 0) (pv 2) (fun _ _ => rfl)) pe_str))
        (pss_cons (ps_for PassesOwn.never rfl (pi_range1 (by rfl) T.m_range (pa_cons pe_int pa_nil)) (pg_name (i := 4) sc_due.nd rfl (.inl rfl))
        (pss_one (ps_if (PW.pt (pw_or (pt_cmpR op_ge (pv 4) (pe_callB call_len_seq (by rfl) T.m_len PySem.boot_len (pa_cons (pv 3) pa_nil)) (nomark _)) (pw_or1 (pt_not (pt_val (pe_call (ok_fits T) (hr.mono (by decide)) (by rfl) T.g_fits T.F_fits.kp T.b_fits .nil pass0 (pa_cons (pv 4) (pa_cons (pe_ix ix_list (pv 3) (pv 4) (fun _ _ => rfl)) pa_nil))))))))
          (pss_one (ps_ret (pe_lst (pa_cons pe_str (pa_cons (pe_callB (call_reprD (by exact hg) (by exact un20 hr)) (by rfl) T.m_repr (by decide +kernel) (pa_cons (pv 2) pa_nil)) (pa_cons (pe_callB (call_reprD (by exact hg) (by exact un20 hr)) (by rfl) T.m_repr (by decide +kernel) (pa_cons (pv 4) pa_nil)) pa_nil))))))
          pss_nil)))
        (pss_cons (ps_if (pt_cmpR op_gt (pe_callB call_len_seq (by rfl) T.m_len PySem.boot_len (pa_cons (pv 3) pa_nil)) pe_int (nomark _))
        (pss_one (ps_ret (pe_lst (pa_cons pe_str (pa_cons (pe_callB (call_reprD (by exact hg) (by exact un20 hr)) (by rfl) T.m_repr (by decide +kernel) (pa_cons (pv 2) pa_nil)) (pa_cons pe_str pa_nil))))))
        pss_nil)
        (pss_cons (ps_set (i := 5) sc_due.nd rfl (.inl rfl) (pe_call (ok_law_read_page T) (hr.mono (by decide)) (by rfl) T.g_law_read_page T.F_law_read_page.kp T.b_law_read_page .nil pass0 (pa_cons (pe_ix ix_list (pv 3) pe_int (fun _ _ => rfl)) pa_nil)))
        (pss_one (ps_expr (pe_bm PySem.F.plainAttrs_list PySem.F.slot_list_append PySem.F.type_list_append mt_append (pv 1) (pa_cons (pe_tup (pa_cons (pv 5) (pa_cons (pe_call (ok_number T) (hr.mono (by decide)) (by rfl) T.g_number T.F_number.kp T.b_number .nil pass0 (pa_cons (pe_ix ix_list (pv 3) pe_int (fun _ _ => rfl)) (pa_cons pe_int pa_nil))) (pa_cons (pe_call (ok_number T) (hr.mono (by decide)) (by rfl) T.g_number T.F_number.kp T.b_number .nil pass0 (pa_cons (pe_ix ix_list (pv 3) pe_int (fun _ _ => rfl)) (pa_cons pe_int pa_nil))) (pa_cons (pe_ix ix_list (pv 3) pe_int (fun _ _ => rfl)) (pa_cons (pe_ix ix_list (pv 3) pe_int (fun _ _ => rfl)) pa_nil)))))) pa_nil))))))))))
      (pss_cons (ps_if (pt_cmpR op_gt (pe_callB call_len_seq (by rfl) T.m_len PySem.boot_len (pa_cons (pv 1) pa_nil)) pe_int (nomark _))
      (pss_one (ps_ret (pe_lst (pa_cons pe_str (pa_cons pe_str pa_nil)))))
      pss_nil)
      (pss_cons (ps_for PassesOwn.never rfl (pi_range1 (by rfl) T.m_range (pa_cons (pe_callB call_len_seq (by rfl) T.m_len PySem.boot_len (pa_cons (pv 1) pa_nil)) pa_nil)) (pg_name (i := 2) sc_due.nd rfl (.inl rfl))
      (pss_one (ps_if (pt_cmpR op_eq (pe_ix ix_tup (pe_ix ix_list (pv 1) (pv 2) (fun _ _ => rfl)) pe_int (fun _ _ => rfl)) (pe_ix ix_tup (pe_ix ix_list (pv 1) (pv 2) (fun _ _ => rfl)) pe_int (fun _ _ => rfl)) (nomark _))
        (pss_one (ps_ret (pe_lst (pa_cons pe_str (pa_cons (pe_callB (call_reprD (by exact hg) (by exact un20 hr)) (by rfl) T.m_repr (by decide +kernel) (pa_cons (pv 2) pa_nil)) pa_nil)))))
        pss_nil)))
      (pss_one (ps_ret (pe_lst (pa_cons pe_str (pa_cons (pe_callB (call_reprD (by exact hg) (by exact un20 hr)) (by rfl) T.m_repr (by decide +kernel) (pa_cons (pe_callTy call_tuple_of (by rfl) T.m_tuple (by decide +kernel) (pa_cons (pv 1) pa_nil)) pa_nil)) pa_nil))))))))), ?_⟩
    refine ⟨Nat.zero_le _, fun R nR => ?_⟩
    have sR := same_upd (o := .lst []) nR
    have hR : upd H R (.lst []) R = some (.lst []) := upd_same
    generalize upd H R (.lst []) = H0 at sR hR ⊢
    have lines : ∀ {i : Nat} {x : V} {p : Nat}, (∀ j, j < i → ∀ y, xs[j]? = some y → badL y = none) → xs[i]? = some x → badL x = some p → res xs = (["line", shI i, shI p] : List Str) := fun h1 h2 h3 => by
      unfold res
      rw [firstFrom_at h1 h2 h3, Nat.zero_add]
    have give : ∀ {H' : Hp} {p : Addr} {zs : List V}, Same H H' → H' p = none → zs = (res xs).map V.str → Q (.ref p) (upd H' p (.lst zs)) := fun s np e => q _ _ (s.trans (same_upd np)) (by rw [← e]; exact upd_same)
    refine ⟨_, rfl, _, _, rfl, .inl (.inl (.inl (sR _ _ ha))), _, rfl, by omega, by omega, for_range (lo := 0) (n := (xs.length : Int).toNat) (fun i σ' H' => ∃ (us : List V) (y2 y3 y4 y5 : Option V), σ' = [some (.ref a), some (.ref R), y2, y3, y4, y5] ∧ Same H H' ∧ H' R = some (.lst us) ∧ TpAll H' us (((xs.take i).map coV).map dC) ∧ ∀ j, j < i → ∀ y, xs[j]? = some y → badL y = none) ⟨[], _, _, _, _, rfl, sR, hR, .nil, fun j hj => absurd hj (Nat.not_lt_zero j)⟩ ?_ ?_⟩
    · rintro i σ' H1 hi ⟨us, y2, y3, y4, y5, rfl, s1, hR1, tu, good⟩
      have hi2 : i < xs.length := by omega
      obtain ⟨x, hx⟩ : ∃ x, xs[i]? = some x := ⟨_, List.getElem?_eq_getElem hi2⟩
      have ix : ∀ {H' : Hp}, Same H H' → ∀ {R : V → Hp → Prop}, R x H' → rIxL K (.ref a) (.int (0 + (i : Int))) H' R := fun s R r => ⟨a, _, _, _, rfl, rfl, .inl (.inl (s _ _ ha)), at_of' (j := i) (by omega) hx, r⟩
      have sI := shI_okN (i := i) (by omega)
      have dI : ∀ {Hz : Hp}, Dp K Hz (.int (0 + (i : Int))) (.int (i : Int)) := by
        rw [Int.zero_add]
        exact .int _
      have xm := List.mem_of_getElem? hx
      refine ⟨_, rfl, _, rfl, ix s1 ?_⟩
      have nostr : badL x = some 0 → ∀ {t : String} {u : Value}, TyX K H1 x (.type t) → True := fun _ _ _ _ => trivial
      rcases okx x xm with rfl | rfl | rfl | ⟨z, rfl, lz, az⟩
      · exact ⟨_, _, _, _, _, rfl, .ty "str", .base .non, kit_ty (r := false) (by decide +kernel), false, rfl, iteT ⟨_, rfl, _, _, rfl, dI, sI.1, sI.2.1, sI.2.2.1, sI.2.2.2, by show 3 ≤ sizeLine; decide, fun p np => give s1 np (by rw [lines good hx rfl, shI0]; rfl)⟩⟩
      · exact ⟨_, _, _, _, _, rfl, .ty "str", .base (.int 7), kit_ty (r := false) (by decide +kernel), false, rfl, iteT ⟨_, rfl, _, _, rfl, dI, sI.1, sI.2.1, sI.2.2.1, sI.2.2.2, by show 3 ≤ sizeLine; decide, fun p np => give s1 np (by rw [lines good hx rfl, shI0]; rfl)⟩⟩
      · exact ⟨_, _, _, _, _, rfl, .ty "str", .base (.bl true), kit_ty (r := false) (by decide +kernel), false, rfl, iteT ⟨_, rfl, _, _, rfl, dI, sI.1, sI.2.1, sI.2.2.1, sI.2.2.2, by show 3 ≤ sizeLine; decide, fun p np => give s1 np (by rw [lines good hx rfl, shI0]; rfl)⟩⟩
      refine ⟨_, _, _, _, _, rfl, .ty "str", .base (.str z), kit_ty (by decide +kernel), true, rfl, iteF ?_⟩
      refine ⟨_, rfl, _, rfl, ix s1 ?_⟩
      refine ⟨⟨_, rfl⟩, z, _, rfl, rfl, (by decide +kernel), by rw [sizeLine_eq]; omega, fun g ng => ?_⟩
      have sg := same_upd (o := .lst ((Txt.split z " ").map V.str)) ng
      have hg : upd H1 g (.lst ((Txt.split z " ").map V.str)) g = some (.lst ((Txt.split z " ").map V.str)) := upd_same
      generalize upd H1 g (.lst ((Txt.split z " ").map V.str)) = H2 at sg hg ⊢
      have wsz : ∀ y ∈ Txt.split z " ", y.length ≤ 18000 := fun y hy => by have := split_part z " " (by decide +kernel) hy; omega
      have lws : (Txt.split z " ").length ≤ 12001 := by have := split_cnt z " " (by decide +kernel); omega
      have bz : badL (.str z) = badW (Txt.split z " ") := rfl
      generalize ews : Txt.split z " " = ws at hg wsz lws bz ⊢
      have lm : (ws.map V.str).length = ws.length := List.length_map ..
      have wx : ∀ {H' : Hp} {k : Int} {j : Nat} {y : Str}, k = (j : Int) → ws[j]? = some y → Same H2 H' → ∀ {R : V → Hp → Prop}, R (.str y) H' → rIxL K (.ref g) (.int k) H' R := fun ek e s R r => ⟨g, _, _, .str _, rfl, rfl, .inl (.inl (s _ _ hg)), at_of' ek (by rw [List.getElem?_map, e]; rfl), r⟩
      have s2 := s1.trans sg
      refine ⟨8, rfl, by decide, by decide, for_range (lo := 0) (n := 8) (fun k σ' H' => ∃ (y4 y5 : Option V), σ' = [some (.ref a), some (.ref R), some (.int (0 + (i : Int))), some (.ref g), y4, y5] ∧ Same H2 H' ∧ ∀ j, j < k → okW ws j = true) ⟨_, _, rfl, Same.refl _, fun j hj => absurd hj (Nat.not_lt_zero j)⟩ ?_ ?_⟩
      · rintro k σ' H3 hk ⟨y4, y5, rfl, s3, gk⟩
        have sk := shI_okN (i := k) (by omega)
        have dk : ∀ {Hz : Hp}, Dp K Hz (.int (0 + (k : Int))) (.int (k : Int)) := by
          rw [Int.zero_add]
          exact .int _
        have bad : okW ws k = false → ∀ {H' : Hp}, Same H2 H' → ∀ p, H' p = none → Q (.ref p) (upd H' p (.lst [.str "line", .str (PyData.int (i : Int)).shown, .str (PyData.int (k : Int)).shown])) := fun e H' s p np => give (s2.trans s) np (by rw [lines good hx (by rw [bz]; exact badW_at hk gk e)]; rfl)
        refine ⟨_, rfl, _, rfl, _, _, rfl, .inl (.inl (.inl (s3 _ _ hg))), _, _, rfl, rfl, _, rfl, ite2 (fun e => ?_) (fun e => ?_)⟩
        · have e : ((ws.map V.str).length : Int) ≤ 0 + (k : Int) := of_decide_eq_true e
          exact ⟨_, rfl, _, _, rfl, dI, sI.1, sI.2.1, sI.2.2.1, sI.2.2.2, _, rfl, _, _, rfl, dk, sk.1, sk.2.1, sk.2.2.1, sk.2.2.2, by show 3 ≤ sizeLine; decide, fun p np => bad (okW_non (List.getElem?_eq_none (by omega))) s3 p np⟩
        · have e : ¬ ((ws.map V.str).length : Int) ≤ 0 + (k : Int) := fun h => e (decide_eq_true h)
          obtain ⟨y, hy⟩ : ∃ y, ws[k]? = some y := ⟨_, List.getElem?_eq_getElem (by omega)⟩
          refine ⟨_, rfl, _, rfl, _, rfl, wx (by omega) hy s3 ?_⟩
          refine ⟨k, y, by rw [Int.zero_add]; rfl, hk, wsz y (List.mem_of_getElem? hy), fun H4 s4 => ⟨_, rfl, ?_⟩⟩
          cases ef : fit k y with
          | false => exact iteT ⟨_, rfl, _, _, rfl, dI, sI.1, sI.2.1, sI.2.2.1, sI.2.2.2, _, rfl, _, _, rfl, dk, sk.1, sk.2.1, sk.2.2.1, sk.2.2.2, by show 3 ≤ sizeLine; decide, fun p np => bad (by rw [okW_of hy, ef]) (s3.trans s4) p np⟩
          | true =>
            refine iteF ⟨_, _, rfl, s3.trans s4, fun j hj => ?_⟩
            rcases Nat.lt_or_ge j k with h | h
            · exact gk j h
            · have : j = k := by omega
              subst this
              rw [okW_of hy, ef]
      rintro σ' H3 ⟨y4, y5, rfl, s3, gk⟩
      refine ⟨_, rfl, _, _, rfl, .inl (.inl (.inl (s3 _ _ hg))), _, _, rfl, rfl, _, rfl, ite2 (fun e => ?_) (fun e => ?_)⟩
      · have e : (8 : Int) < ((ws.map V.str).length : Int) := of_decide_eq_true e
        exact ⟨_, rfl, _, _, rfl, dI, sI.1, sI.2.1, sI.2.2.1, sI.2.2.2, by show 3 ≤ sizeLine; decide, fun p np => give (s2.trans s3) np (by rw [lines good hx (by rw [bz, badW_all gk, if_pos (by omega)]), shI8]; rfl)⟩
      have e : ¬ (8 : Int) < ((ws.map V.str).length : Int) := fun h => e (decide_eq_true h)
      have bn : badL (.str z) = none := by rw [bz, badW_all gk, if_neg (by omega)]
      obtain ⟨z1, h1, f1⟩ := okW_get (gk 1 (by decide))
      obtain ⟨z2, h2, f2⟩ := okW_get (gk 2 (by decide))
      obtain ⟨z3, h3, f3⟩ := okW_get (gk 3 (by decide))
      obtain ⟨z5, h5, f5⟩ := okW_get (gk 5 (by decide))
      obtain ⟨z7, h7, f7⟩ := okW_get (gk 7 (by decide))
      obtain ⟨p, hp⟩ := Option.isSome_iff_exists.mp (show (rdP z1).isSome = true from f1)
      obtain ⟨r, hr⟩ := Option.isSome_iff_exists.mp (show (rdM 11 z2).isSome = true from f2)
      obtain ⟨w', hw⟩ := Option.isSome_iff_exists.mp (show (rdM 29 z3).isSome = true from f3)
      have ec : coV (.str z) = ⟨p, r, w', z5, z7⟩ := by
        show coW (Txt.split z " ") = _
        rw [ews]
        unfold coW
        rw [getD_of h1, getD_of h2, getD_of h3, getD_of h5, getD_of h7, hp, hr, hw]
        rfl
      refine ⟨_, rfl, wx (j := 1) rfl h1 s3 ?_⟩
      refine ⟨z1, rfl, wsz z1 (List.mem_of_getElem? h1), fun h => by rw [hp] at h; (cases h), fun p' hp' y H4 s4 ty => ?_⟩
      rw [hp] at hp'
      cases hp'
      have s24 := s3.trans s4
      have s4' := s2.trans s24
      have hR4 := (sg.trans s24) _ _ hR1
      refine ⟨_, rfl, .inl ⟨rfl, _, .inl (.inl hR4)⟩, ?_⟩
      refine ⟨_, rfl, _, rfl, wx (j := 2) rfl h2 s24 ?_⟩
      refine ⟨z2, 11, rfl, wsz z2 (List.mem_of_getElem? h2), ?_⟩
      rw [hr]
      refine ⟨_, rfl, wx (j := 3) rfl h3 s24 ?_⟩
      refine ⟨z3, 29, rfl, wsz z3 (List.mem_of_getElem? h3), ?_⟩
      rw [hw]
      refine ⟨_, rfl, g, _, _, .str _, rfl, rfl, .inl (.inl (s24 _ _ hg)), at_of' (j := 5) rfl (by rw [List.getElem?_map, h5]; rfl), ?_⟩
      refine ⟨_, rfl, g, _, _, .str _, rfl, rfl, .inl (.inl (s24 _ _ hg)), at_of' (j := 7) rfl (by rw [List.getElem?_map, h7]; rfl), ?_⟩
      refine ⟨(by show 5 ≤ sizeLine; decide), fun t nt => ?_⟩
      have st := same_upd (o := .tup [y, optI (some r), optI (some w'), .str z5, .str z7]) nt
      have hC : Tp (upd H4 t (.tup [y, optI (some r), optI (some w'), .str z5, .str z7])) (.ref t) (dC (coV (.str z))) := by
        rw [ec]
        exact .tup upd_same (.cons (ty.nl (NL.of st)) (.cons (.int _) (.cons (.int _) (.cons (.str _) (.cons (.str _) .nil)))))
      generalize upd H4 t (.tup [y, optI (some r), optI (some w'), .str z5, .str z7]) = H5 at st hC ⊢
      have hR5 := st _ _ hR4
      have lu := tu.len
      rw [List.length_map, List.length_map, List.length_take] at lu
      have m := (NL.refl H5).put hR5 (.lst (us ++ [.ref t]))
      refine ⟨R, us, _, rfl, rfl, hR5, smallM (by omega), us ++ [.ref t], _, _, _, _, rfl, same_put (s4'.trans st) nR _, upd_same, ?_, fun j hj y hy => ?_⟩
      · rw [List.take_add_one, hx, List.map_append, List.map_append]
        exact ((tu.nl (NL.of ((sg.trans s24).trans st))).nl m).snoc (hC.nl m)
      · rcases Nat.lt_or_ge j i with h | h
        · exact good j h y hy
        · have : j = i := by omega
          subst this
          rw [hx] at hy
          cases hy
          exact bn
    rintro σ' H1 ⟨us, y2, y3, y4, y5, rfl, s1, hR1, tu, good⟩
    have allg : ∀ x ∈ xs, badL x = none := fun x hx => by
      obtain ⟨j, hj, e⟩ := List.mem_iff_getElem.mp hx
      exact good j (by omega) x (by rw [List.getElem?_eq_getElem hj, e])
    rw [List.take_of_length_le (by omega)] at tu
    have f0 : firstFrom 0 xs = none := firstFrom_none allg
    have lu := tu.len
    rw [List.length_map, List.length_map] at lu
    have okc : ∀ c ∈ xs.map coV, okC' c := fun c hc => by
      obtain ⟨v, hv, rfl⟩ := List.mem_map.mp hc
      exact (okC'_V (okx v hv) (allg v hv)).1
    refine ⟨_, rfl, _, _, rfl, .inl (.inl (.inl hR1)), _, _, rfl, rfl, _, rfl, ite2 (fun e => ?_) (fun e => ?_)⟩
    · have e : (60 : Int) < (us.length : Int) := of_decide_eq_true e
      have er : res xs = (["many", "'correction'"] : List Str) := by
        unfold res
        rw [f0]
        exact if_pos (by omega)
      exact ⟨by show 2 ≤ sizeLine; decide, fun p np => give s1 np (by rw [er]; rfl)⟩
    have e : ¬ (60 : Int) < (us.length : Int) := fun h => e (decide_eq_true h)
    have er : res xs = match same1 (xs.map coV) with
        | some i => (["same", shI i] : List Str)
        | none => ["good", (PyData.tuple ((xs.map coV).map dC)).shown] := by
      unfold res
      rw [f0]
      exact if_neg (by omega)
    have lc : (xs.map coV).length = xs.length := List.length_map ..
    generalize xs.map coV = cs at tu okc er lc lu
    refine ⟨_, rfl, _, _, rfl, .inl (.inl (.inl hR1)), _, rfl, by omega, by omega, for_range (lo := 0) (n := (us.length : Int).toNat) (fun i σ' H' => ∃ (y2 : Option V), σ' = [some (.ref a), some (.ref R), y2, y3, y4, y5] ∧ H' = H1 ∧ ∀ j, j < i → ∀ c, cs[j]? = some c → c.o ≠ c.n) ⟨_, rfl, rfl, fun j hj => absurd hj (Nat.not_lt_zero j)⟩ ?_ ?_⟩
    · rintro i σ' H2 hi ⟨y2, rfl, rfl, ne⟩
      obtain ⟨c, hc⟩ : ∃ c, cs[i]? = some c := ⟨_, List.getElem?_eq_getElem (by omega)⟩
      obtain ⟨v, hv, tv⟩ := tu.get2 (i := i) (d := dC c) (by rw [List.getElem?_map, hc]; rfl)
      obtain ⟨t, pv, rfl, ht, _⟩ := tpC_inv tv
      have rx : ∀ {W : V → Hp → Prop}, W (.ref t) H2 → rIxL K (.ref R) (.int (0 + (i : Int))) H2 W := fun r => ⟨R, _, _, _, rfl, rfl, .inl (.inl hR1), at_of' (j := i) (by omega) hv, r⟩
      have sI := shI_okN (i := i) (by omega)
      have dI : ∀ {Hz : Hp}, Dp K Hz (.int (0 + (i : Int))) (.int (i : Int)) := by
        rw [Int.zero_add]
        exact .int _
      refine ⟨_, rfl, _, rfl, rx ⟨t, _, 3, .str c.o, rfl, rfl, .inl (.inl ht), rfl, ?_⟩⟩
      refine ⟨_, rfl, _, rfl, rx ⟨t, _, 4, .str c.n, rfl, rfl, .inl (.inl ht), rfl, rfl, _, rfl, ite2 (fun e => ?_) (fun e => ?_)⟩⟩
      · have e : c.o = c.n := V.str.inj (of_decide_eq_true e)
        exact ⟨_, rfl, _, _, rfl, dI, sI.1, sI.2.1, sI.2.2.1, sI.2.2.2, by show 2 ≤ sizeLine; decide, fun p np => give s1 np (by rw [er, same1_at ne hc e]; rfl)⟩
      · refine ⟨_, rfl, rfl, fun j hj d hd => ?_⟩
        rcases Nat.lt_or_ge j i with h | h
        · exact ne j h d hd
        · have : j = i := by omega
          subst this
          rw [hc] at hd
          cases hd
          exact fun z => e (decide_eq_true (congrArg V.str z))
    rintro σ' H2 ⟨y2, rfl, rfl, ne⟩
    have nec : ∀ c ∈ cs, c.o ≠ c.n := fun c hc => by
      obtain ⟨j, hj, e⟩ := List.mem_iff_getElem.mp hc
      exact ne j (by omega) c (by rw [List.getElem?_eq_getElem hj, e])
    rw [same1_none nec] at er
    obtain ⟨g1, g2, g3, g4⟩ := shown_Cs (fun c hc => (okc c hc).ne (nec c hc)) (by omega)
    refine ⟨_, rfl, R, us, rfl, .inl ⟨.inl (.inl hR1), fun t nt => ?_⟩⟩
    have st := same_upd (o := .tup us) nt
    refine ⟨_, _, rfl, .tup (.inl (.inl upd_same)) (tu.nl (NL.of st)).dp, g1, g2, g3, g4, by show 2 ≤ sizeLine; decide, fun p np => ?_⟩
    exact give (s1.trans st) np (by rw [er]; rfl)
theorem ok_read_page (T : Tab K mg) : FnOk P w K mg base CX0 5 T.f_read_page T.d_read_page ["word"] (sp_read_page K) := by
  refine T.F_read_page.ok sc_read_page (fun vs H Q E h => ?_) (fun cdv A outer s H vs Q E hr h => ?_)
  · obtain ⟨z, rfl, _⟩ := h
    rfl
  · obtain ⟨z, rfl, hz, q1, q2⟩ := h
    refine ⟨_, (pss_cons (ps_if (pt_cmpR op_notIn_seq (pe_slice sl_str (pv 0) (po_some (pe_un un_neg pe_int)) po_none) (pe_tup (pa_cons pe_str (pa_cons pe_str pa_nil))) (by rfl))
      (pss_one (ps_ret pe_non))
      pss_nil)
      (pss_cons (ps_set (i := 1) sc_read_page.nd rfl (.inl rfl) (pe_call (ok_read_label T) (hr.mono (by decide)) (by rfl) T.g_read_label T.F_read_label.kp T.b_read_label .nil pass0 (pa_cons (pe_slice sl_str (pv 0) po_none (po_some (pe_un un_neg pe_int))) pa_nil)))
      (pss_one (ps_ret (pe_ifExp (pt_cmpR op_isN (pv 1) pe_non (nomark _)) pe_non (pe_tup (pa_cons (pv 1) (pa_cons (pe_bmS PySem.F.plainAttrs_str PySem.F.slot_str_index PySem.F.type_str_index (mt_indexX rfl takes_none5) (pe_glob (v := .str "ab") (by rfl) T.c_SIDES ⟨_, rfl⟩) (pa_cons (pe_slice sl_str (pv 0) (po_some (pe_un un_neg pe_int)) po_none) pa_nil)) pa_nil)))))))), ?_⟩
    have hz2 : z.length ≤ sizeLine := Nat.le_of_lt (smallM (by omega))
    have lc := cutS_length z none (some (-1))
    refine ⟨_, rfl, 1, rfl, -1, rfl, z, rfl, hz2, (by show 2 ≤ sizeLine; decide), fun t nt => ?_⟩
    have s1 := same_upd (o := .tup [.str "a", .str "b"]) nt
    refine ⟨t, _, rfl, .inr (.inl (.inl upd_same)), rfl, rfl, _, rfl, ?_⟩
    show if (!inV (.str (cutS z (some (-1)) none)) [.str "a", .str "b"]) = true then _ else _
    rw [ab_in]
    generalize upd H t (.tup [.str "a", .str "b"]) = H1 at s1
    rcases cut_end z with ⟨e0, ec⟩ | ⟨c, e0, ec⟩
    · have hn : rdP z = none := by
        unfold rdP
        rw [e0]
        rfl
      rw [ec, decide_eq_false (by decide +kernel)]
      exact q1 hn H1 s1
    · by_cases hc : c = 97 ∨ c = 98
      · have hin : cutS z (some (-1)) none = ⟨#[97]⟩ ∨ cutS z (some (-1)) none = ⟨#[98]⟩ := by
          rw [ec]
          rcases hc with rfl | rfl
          · exact .inl rfl
          · exact .inr rfl
        rw [decide_eq_true hin]
        show if (!true) = true then _ else _
        refine iteF ?_
        have hr : rdP z = match rdL (cutS z none (some (-1))) with | some L => some (L, (c : Int) - 97) | none => none := by
          unfold rdP
          rw [e0]
          exact if_pos hc
        refine ⟨_, rfl, 1, rfl, -1, rfl, z, rfl, hz2, _, rfl, by omega, fun eL H2 s2 => ?_, fun L eL y H2 s2 ⟨l, ey, hl⟩ => ?_⟩
        · rw [eL] at hr
          refine ⟨_, rfl, rfl, _, rfl, ite2 (fun _ => ?_) (fun h => absurd (decide_eq_true rfl) h)⟩
          exact q1 hr H2 (s1.trans s2)
        · rw [eL] at hr
          subst ey
          refine ⟨_, rfl, rfl, _, rfl, ite2 (fun e => absurd (of_decide_eq_true e) (by intro z; cases z)) (fun _ => ?_)⟩
          refine ⟨_, rfl, rfl, _, rfl, 1, rfl, -1, rfl, z, rfl, hz2, _, _, rfl, rfl, fun k hk => ?_, fun hk => ?_⟩
          · refine ⟨(by show 2 ≤ sizeLine; decide), fun t2 nt2 => ?_⟩
            have s3 := same_upd (o := .tup [.ref l, .int (k : Nat)]) nt2
            refine q2 _ hr (.ref t2) _ ((s1.trans s2).trans s3) ?_
            have hk2 : (k : Int) = (c : Int) - 97 := by
              rw [ec] at hk
              rcases hc with rfl | rfl
              · have : Txt.index0 "ab" (⟨#[97]⟩ : Str) = some 0 := by decide +kernel
                rw [this] at hk
                injection hk with hk
                subst hk
                rfl
              · have : Txt.index0 "ab" (⟨#[98]⟩ : Str) = some 1 := by decide +kernel
                rw [this] at hk
                injection hk with hk
                subst hk
                rfl
            rw [← hk2]
            exact tpP (p := (L, (k : Int))) upd_same (s3 _ _ hl)
          · exfalso
            rw [ec] at hk
            rcases hc with rfl | rfl <;> revert hk <;> decide +kernel
      · have hin : ¬ (cutS z (some (-1)) none = ⟨#[97]⟩ ∨ cutS z (some (-1)) none = ⟨#[98]⟩) := by
          rw [ec]
          rintro (h | h)
          · exact hc (.inl (one_inj h))
          · exact hc (.inr (one_inj h))
        have hn : rdP z = none := by
          unfold rdP
          rw [e0]
          exact if_neg hc
        rw [decide_eq_false hin]
        exact q1 hn H1 s1
theorem ok_kept_correction (T : Tab K mg) : FnOk P w K mg base CX0 5 T.f_kept_correction T.d_kept_correction ["thing"] (sp_kept_correction K) := by
  refine T.F_kept_correction.ok sc_kept_correction (fun vs H Q E h => ?_) (fun cdv A outer s H vs Q E hr h => ?_)
  · obtain ⟨v, c, rfl, _⟩ := h
    rfl
  · obtain ⟨v, c, rfl, hv, ok, q⟩ := h
    refine ⟨_, (pss_cons (ps_if (pt_not (pt_val (pe_call (ok_is_sized T) (hr.mono (by decide)) (by rfl) T.g_is_sized T.F_is_sized.kp T.b_is_sized .nil pass0 (pa_cons (pv 0) (pa_cons pe_int (pa_cons pe_int pa_nil))))))
      (pss_one (ps_ret pe_non))
      pss_nil)
      (pss_cons (ps_asg (pv 0) (pg_or (pg_tup (by rfl) (pgs_cons (pg_name (i := 1) sc_kept_correction.nd rfl (.inl rfl)) (pgs_cons (pg_name (i := 2) sc_kept_correction.nd rfl (.inl rfl)) (pgs_cons (pg_name (i := 3) sc_kept_correction.nd rfl (.inl rfl)) (pgs_cons (pg_name (i := 4) sc_kept_correction.nd rfl (.inl rfl)) (pgs_cons (pg_name (i := 5) sc_kept_correction.nd rfl (.inl rfl)) pgs_nil)))))) (pg_unl (by rfl) (pgs_cons (pg_name (i := 1) sc_kept_correction.nd rfl (.inl rfl)) (pgs_cons (pg_name (i := 2) sc_kept_correction.nd rfl (.inl rfl)) (pgs_cons (pg_name (i := 3) sc_kept_correction.nd rfl (.inl rfl)) (pgs_cons (pg_name (i := 4) sc_kept_correction.nd rfl (.inl rfl)) (pgs_cons (pg_name (i := 5) sc_kept_correction.nd rfl (.inl rfl)) pgs_nil))))))))
      (pss_cons (ps_if (PW.pt (pw_or (pt_cmpR op_isN (pe_call (ok_kept_page T) (hr.mono (by decide)) (by rfl) T.g_kept_page T.F_kept_page.kp T.b_kept_page .nil pass0 (pa_cons (pv 1) pa_nil)) pe_non (nomark _)) (pw_or (pt_not (pt_val (pe_call (ok_is_within T) (hr.mono (by decide)) (by rfl) T.g_is_within T.F_is_within.kp T.b_is_within .nil pass0 (pa_cons (pv 2) (pa_cons pe_int (pa_cons (pe_op op_sub (pe_glob (v := .int 12) (by rfl) T.c_MOST_ROWS ⟨_, rfl⟩) pe_int) pa_nil)))))) (pw_or1 (pt_not (pt_val (pe_call (ok_is_within T) (hr.mono (by decide)) (by rfl) T.g_is_within T.F_is_within.kp T.b_is_within .nil pass0 (pa_cons (pv 3) (pa_cons pe_int (pa_cons (pe_op op_sub (pe_glob (v := .int 30) (by rfl) T.c_MOST_TOKENS ⟨_, rfl⟩) pe_int) pa_nil))))))))))
      (pss_one (ps_ret pe_non))
      pss_nil)
      (pss_cons (ps_if (PW.pt (pw_or (pt_not (pt_val (pe_call (ok_is_token T) (hr.mono (by decide)) (by rfl) T.g_is_token T.F_is_token.kp T.b_is_token .nil pass0 (pa_cons (pv 4) pa_nil)))) (pw_or (pt_not (pt_val (pe_call (ok_is_token T) (hr.mono (by decide)) (by rfl) T.g_is_token T.F_is_token.kp T.b_is_token .nil pass0 (pa_cons (pv 5) pa_nil)))) (pw_or1 (pt_cmpR op_eq (pv 4) (pv 5) (nomark _))))))
      (pss_one (ps_ret pe_non))
      pss_nil)
      (pss_one (ps_ret (pe_tup (pa_cons (pe_call (ok_kept_page T) (hr.mono (by decide)) (by rfl) T.g_kept_page T.F_kept_page.kp T.b_kept_page .nil pass0 (pa_cons (pv 1) pa_nil)) (pa_cons (pv 2) (pa_cons (pv 3) (pa_cons (pv 4) (pa_cons (pv 5) pa_nil)))))))))))), ?_⟩
    obtain ⟨okp, hr0, hw0, ho, hn⟩ := id ok
    obtain ⟨a, pv, rfl, ha, hp⟩ := tpC_inv hv
    have hsz : sz 5 5 (dC c) = true := rfl
    refine ⟨_, rfl, .ref a, dC c, 5, 5, rfl, hv.dp, fun H1 s1 => ⟨_, rfl, ?_⟩⟩
    rw [hsz]
    refine iteF ?_
    refine ⟨_, rfl, .inl ⟨a, _, rfl, .inl (.inl (s1 _ _ ha)), rfl, _, _, rfl, _, _, rfl, _, _, rfl, _, _, rfl, _, _, rfl, rfl, ?_⟩⟩
    have hp1 := hp.nl (NL.of s1)
    refine ⟨_, rfl, pv, c.p, rfl, ip_tp hp1, okp, fun y H2 s2 hy => ?_⟩
    obtain ⟨pa, pl, rfl, _, _⟩ := tpP_inv hy
    refine ⟨rfl, _, rfl, ite2 (fun e => absurd (of_decide_eq_true e) (by intro z; cases z)) (fun _ => ?_)⟩
    refine ⟨_, rfl, _, _, rfl, rfl, .int c.r, .int c.r, 0, 11, rfl, .int _, _, rfl, ?_⟩
    rw [show wI 0 11 (.int c.r) = true from decide_eq_true hr0]
    refine iteF ?_
    refine ⟨_, rfl, _, _, rfl, rfl, .int c.w, .int c.w, 0, 29, rfl, .int _, _, rfl, ?_⟩
    rw [show wI 0 29 (.int c.w) = true from decide_eq_true hw0]
    refine iteF ?_
    refine ⟨_, rfl, c.o, rfl, by have := ho.len.2; omega, _, rfl, ?_⟩
    rw [ho.1]
    refine iteF ?_
    refine ⟨_, rfl, c.n, rfl, by have := hn.len.2; omega, _, rfl, ?_⟩
    rw [hn.1]
    refine iteF ?_
    refine ⟨_, rfl, _, rfl, rfl, _, rfl, ite2 (fun e => ?_) (fun e => ?_)⟩
    · have e : c.o = c.n := V.str.inj (of_decide_eq_true e)
      exact q .non _ (s1.trans s2) (by unfold kD; rw [if_pos e]; exact .non)
    have hne : c.o ≠ c.n := fun z => e (decide_eq_true (congrArg V.str z))
    refine ⟨_, rfl, pv, c.p, rfl, ip_tp (hp1.nl (NL.of s2)), okp, fun y3 H3 s3 hy3 => ?_⟩
    refine ⟨_, rfl, _, rfl, _, rfl, _, rfl, (by show 5 ≤ sizeLine; decide), fun r nr => ?_⟩
    have sr := same_upd (o := .tup [y3, .int c.r, .int c.w, .str c.o, .str c.n]) nr
    exact q (.ref r) _ (((s1.trans s2).trans s3).trans sr) (by unfold kD; rw [if_neg hne]; exact .tup upd_same (.cons (hy3.nl (NL.of sr)) (.cons (.int _) (.cons (.int _) (.cons (.str _) (.cons (.str _) .nil))))))
theorem ok_judged_corrections (T : Tab K mg) : FnOk P w K mg base (L2.CX P w) 6 T.f_judged_corrections T.d_judged_corrections ["corrections"] (sp_judged_corrections K T.C_TooMany T.C_BadCorrection) := by
  refine T.F_judged_corrections.okX sc_judged_corrections (fun vs H Q E h => ?_) (fun cdv A outer s H vs Q E hr h => ?_)
  · obtain ⟨a, us, cs, rfl, _⟩ := h
    rfl
  · obtain ⟨a, us, cs, rfl, ha, ⟨tu, ok, l70⟩, kT, kQ⟩ := h
    refine ⟨_, (pss_cons (ps_if (pt_not (pt_val (pe_call (ok_is_tuple T) (hr.mono (by decide)) (by rfl) T.g_is_tuple T.F_is_tuple.kp T.b_is_tuple .nil pass0 (pa_cons (pv 0) pa_nil))))
      (pss_one (ps_raise rfl (takes_of rfl rfl rfl rfl) (pmk_own0 PySem.F.excBase_ValueError T.x_BadErrata T.cg_BadErrata T.k_BadErrata (raises_own T.hs_BadErrata T.t_BadErrata) (by rfl))))
      pss_nil)
      (pss_cons (ps_if (pt_cmpR op_gt (pe_callB call_len_seq (by rfl) T.m_len PySem.boot_len (pa_cons (pv 0) pa_nil)) (pe_glob (v := .int 60) (by rfl) T.c_MOST_CORRECTIONS ⟨_, rfl⟩) (nomark _))
      (pss_one (ps_raise rfl (takes_of rfl rfl rfl rfl) (pmk_oex T.o_TooMany T.g_TooMany_init T.i_TooMany (ok_TooMany_init T) (hr.mono (by decide)) T.b_TooMany_init .nil (fun _ _ _ _ _ _ _ h => h.elim) (by rfl) T.cg_TooMany (pa_cons pe_str pa_nil))))
      pss_nil)
      (pss_cons (ps_setLc (i := 1) (own := [("thing", 2)]) (g := gName 2) (by rfl) sc_judged_corrections.nd rfl rfl (sw_true rfl rfl rfl (by decide +kernel)) (pi_or (pi_list (pv 0)) (pi_tup (pv 0))) (blkOk_by (own := [("thing", 2)]) (N := N_judged_corrections) (sc := defScope s_judged_corrections) (by decide +kernel)) (fun _ _ _ _ _ => pg_name (i := 2) sc_judged_corrections.nd rfl (.inl rfl)) (fun _ _ _ _ _ => pts_nil) (fun _ _ _ _ _ => (pe_call (ok_kept_correction T) (hr.mono (by decide)) (by rfl) T.g_kept_correction T.F_kept_correction.kp T.b_kept_correction .nil pass0 (pa_cons (pv 2) pa_nil))))
      (pss_cons (ps_if (pt_cmpR (op_inDD (un2 hr)) pe_non (pv 1) (by rfl))
      (pss_one (ps_raise rfl (takes_of rfl rfl rfl rfl) (pmk_oex T.o_BadCorrection T.g_BadCorrection_init T.i_BadCorrection (ok_BadCorrection_init T) (hr.mono (by decide)) T.b_BadCorrection_init .nil (fun _ _ _ _ _ _ _ h => h.elim) (by rfl) T.cg_BadCorrection (pa_cons (pe_bm PySem.F.plainAttrs_list PySem.F.slot_list_index PySem.F.type_list_index (mt_indexD (un2 hr)) (pv 1) (pa_cons pe_non pa_nil)) pa_nil))))
      pss_nil)
      (pss_one (ps_ret (pe_callTy call_tuple_of (by rfl) T.m_tuple (by decide +kernel) (pa_cons (pv 1) pa_nil)))))))), ?_⟩
    have lu := tu.len
    rw [List.length_map] at lu
    refine ⟨_, rfl, .ref a, .list (cs.map dC), rfl, .inl ⟨.lst (.inl (.inl ha)) tu.dp, fun H1 s1 => ⟨_, rfl, iteF ?_⟩⟩⟩
    have ha1 := s1 _ _ ha
    have tu1 := tu.nl (NL.of s1)
    refine ⟨_, rfl, a, us, rfl, .inl (.inl (.inl ha1)), _, _, rfl, rfl, _, rfl, ite2 (fun e => ?_) (fun e => ?_)⟩
    · have e : (60 : Int) < us.length := of_decide_eq_true e
      refine ⟨(by show 1 ≤ 1000; decide), fun b nb => ?_⟩
      refine ⟨b, _, rfl, T.o_TooMany, T.n_TooMany_word, upd_same, fun dx n1 n2 => ⟨rfl, dx, [("word", .str "correction")], upd_same, ?_, ?_, ?_⟩⟩
      · rw [upd_ne n2, upd_same]
      · rw [upd_ne n2] at n1
        exact n1
      · exact kT (by omega) _ dx (same_made s1 nb n1 n2) upd_same
    have l60 : cs.length ≤ 60 := by
      have : ¬ (60 : Int) < us.length := fun z => e (decide_eq_true z)
      omega
    obtain ⟨kC, q⟩ := kQ l60
    refine .inl ⟨_, rfl, a, rfl, ⟨_, .inl (.inl ha1)⟩, fun D nD => ?_⟩
    refine lc_tp cs (fun c => some (kD c)) (walkL (xs := us) lu) nD (fun H h => .inl (.inl (h _ _ ha1))) (by omega) ?_ ?_
    · rintro i c y H4x H4 er sm ⟨rfl, hy⟩ R N hR hN
      obtain ⟨d, ed, ty⟩ := tu1.get hy
      rw [List.getElem?_map, er] at ed
      cases ed
      exact ⟨rfl, _, rfl, y, c, rfl, ty.nl (NL.of sm), ok c (List.mem_of_getElem? er), fun z H5 s5 hz => hR _ _ rfl _ s5 hz⟩
    rintro H2 ws s2 eD tw
    rw [map_fm] at tw
    have pk : ∀ d ∈ cs.map kD, Pe 4 d := fun d hd => by
      obtain ⟨c, hc, rfl⟩ := List.mem_map.mp hd
      unfold kD
      split
      · exact .inl rfl
      · exact .inr (pd_C' (ok c hc))
    have shl := shaped_pel pk (by decide)
    cases e1 : same1 cs with
    | some i =>
      obtain ⟨c, hi, ec, hb⟩ := same1_some e1
      have an : ((cs.map kD).any fun z => PyData.eqv z .none) = true := List.any_eq_true.mpr ⟨_, List.mem_map.mpr ⟨c, List.mem_of_getElem? hi, rfl⟩, by unfold kD; rw [if_pos ec]; rfl⟩
      refine ⟨_, rfl, .none, cs.map kD, .non, .inl (.lst (.inl (.inl eD)) tw.dp), rfl, shl, true, ?_, iteT ?_⟩
      · rw [an]; rfl
      refine ⟨_, rfl, .inl ⟨rfl, _, .inl (.inl eD)⟩, ?_⟩
      refine ⟨D, .non, .none, cs.map kD, i, .none, rfl, rfl, .lst (.inl (.inl eD)) tw.dp, .non, shl, rfl, by rw [List.getElem?_map, hi]; show some (kD c) = _; unfold kD; rw [if_pos ec], rfl, fun m z' hm hz => ?_, ?_⟩
      · rw [List.getElem?_map] at hz
        cases e2 : cs[m]? with
        | none => rw [e2] at hz; cases hz
        | some d =>
          rw [e2] at hz
          cases hz
          show PyData.eqv (kD d) .none = false
          unfold kD
          rw [if_neg (hb m hm d e2)]
          rfl
      refine ⟨(by show 1 ≤ 1000; decide), fun b nb => ?_⟩
      refine ⟨b, _, rfl, T.o_BadCorrection, T.n_BadCorrection_place, upd_same, fun dx n1 n2 => ⟨rfl, dx, [("place", .int i)], upd_same, ?_, ?_, ?_⟩⟩
      · rw [upd_ne n2, upd_same]
      · rw [upd_ne n2] at n1
        exact n1
      · exact kC i e1 _ dx (same_made (s1.trans s2) nb n1 n2) upd_same
    | none =>
      have hne := same1_none' e1
      have ek : cs.map kD = cs.map dC := List.map_congr_left fun c hc => by unfold kD; rw [if_neg (hne c hc)]
      rw [ek] at tw shl
      refine ⟨_, rfl, .none, cs.map dC, .non, .inl (.lst (.inl (.inl eD)) tw.dp), rfl, shl, false, ?_, iteF ?_⟩
      · rw [no_none]; rfl
      refine ⟨_, rfl, D, ws, rfl, .inl ⟨.inl (.inl eD), fun t nt => ?_⟩⟩
      have st := same_upd (o := .tup ws) nt
      exact q e1 t ws _ ((s1.trans s2).trans st) upd_same (tw.nl (NL.of st))
theorem ok_read_correction (T : Tab K mg) : FnOk P w K mg base (L2.CX P w) 6 T.f_read_correction T.d_read_correction ["cursor"] (sp_read_correction K T.C_Cursor T.C_BadLine) := by
  refine T.F_read_correction.okX sc_read_correction (fun vs H Q E h => ?_) (fun cdv A outer s H vs Q E hr h => ?_)
  · obtain ⟨x, ws, l, rfl, _⟩ := h
    rfl
  · obtain ⟨x, ws, l, rfl, hc, hws, kE, kQ⟩ := h
    refine ⟨_, (pss_cons (ps_expr (pe_meth (pv 0) T.cl_Cursor ⟨T.g_Cursor_take_one, T.fn_Cursor_take_one, T.F_Cursor_take_one.kp⟩ (ok_Cursor_take_one T) (hr.mono (by decide)) T.b_Cursor_take_one .nil (passes_call (takes_of rfl rfl rfl rfl) (fun _ _ _ _ h => h)) (pa_cons (pe_tup (pa_cons pe_str pa_nil)) pa_nil)))
      (pss_cons (ps_set (i := 1) sc_read_correction.nd rfl (.inl rfl) (pe_meth (pv 0) T.cl_Cursor ⟨T.g_Cursor_take, T.fn_Cursor_take, T.F_Cursor_take.kp⟩ (ok_Cursor_take T) (hr.mono (by decide)) T.b_Cursor_take .nil (passes_call (takes_of rfl rfl rfl rfl) (fun _ _ _ _ h => h)) (pa_cons (pe_call (ok_read_page T) (hr.mono (by decide)) (by rfl) T.g_read_page T.F_read_page.kp T.b_read_page .nil pass0 (pa_cons (pe_meth0 (pv 0) T.cl_Cursor ⟨T.g_Cursor_look, T.fn_Cursor_look, T.F_Cursor_look.kp⟩ (ok_Cursor_look T) (hr.mono (by decide)) T.b_Cursor_look .nil (passes_call (takes_of rfl rfl rfl rfl) (fun _ _ _ _ h => h))) pa_nil)) pa_nil)))
      (pss_cons (ps_set (i := 2) sc_read_correction.nd rfl (.inl rfl) (pe_meth (pv 0) T.cl_Cursor ⟨T.g_Cursor_take_integer, T.fn_Cursor_take_integer, T.F_Cursor_take_integer.kp⟩ (ok_Cursor_take_integer T) (hr.mono (by decide)) T.b_Cursor_take_integer .nil (passes_call (takes_of rfl rfl rfl rfl) (fun _ _ _ _ h => h)) (pa_cons pe_int (pa_cons (pe_op op_sub (pe_glob (v := .int 12) (by rfl) T.c_MOST_ROWS ⟨_, rfl⟩) pe_int) pa_nil))))
      (pss_cons (ps_set (i := 3) sc_read_correction.nd rfl (.inl rfl) (pe_meth (pv 0) T.cl_Cursor ⟨T.g_Cursor_take_integer, T.fn_Cursor_take_integer, T.F_Cursor_take_integer.kp⟩ (ok_Cursor_take_integer T) (hr.mono (by decide)) T.b_Cursor_take_integer .nil (passes_call (takes_of rfl rfl rfl rfl) (fun _ _ _ _ h => h)) (pa_cons pe_int (pa_cons (pe_op op_sub (pe_glob (v := .int 30) (by rfl) T.c_MOST_TOKENS ⟨_, rfl⟩) pe_int) pa_nil))))
      (pss_cons (ps_expr (pe_meth (pv 0) T.cl_Cursor ⟨T.g_Cursor_take_one, T.fn_Cursor_take_one, T.F_Cursor_take_one.kp⟩ (ok_Cursor_take_one T) (hr.mono (by decide)) T.b_Cursor_take_one .nil (passes_call (takes_of rfl rfl rfl rfl) (fun _ _ _ _ h => h)) (pa_cons (pe_tup (pa_cons pe_str pa_nil)) pa_nil)))
      (pss_cons (ps_set (i := 4) sc_read_correction.nd rfl (.inl rfl) (pe_call (ok_take_token T) (hr.mono (by decide)) (by rfl) T.g_take_token T.F_take_token.kp T.b_take_token .nil (passes_call (takes_of rfl rfl rfl rfl) (fun _ _ _ _ h => h)) (pa_cons (pv 0) pa_nil)))
      (pss_cons (ps_expr (pe_meth (pv 0) T.cl_Cursor ⟨T.g_Cursor_take_one, T.fn_Cursor_take_one, T.F_Cursor_take_one.kp⟩ (ok_Cursor_take_one T) (hr.mono (by decide)) T.b_Cursor_take_one .nil (passes_call (takes_of rfl rfl rfl rfl) (fun _ _ _ _ h => h)) (pa_cons (pe_tup (pa_cons pe_str pa_nil)) pa_nil)))
      (pss_cons (ps_set (i := 5) sc_read_correction.nd rfl (.inl rfl) (pe_call (ok_take_token T) (hr.mono (by decide)) (by rfl) T.g_take_token T.F_take_token.kp T.b_take_token .nil (passes_call (takes_of rfl rfl rfl rfl) (fun _ _ _ _ h => h)) (pa_cons (pv 0) pa_nil)))
      (pss_cons (ps_expr (pe_meth0 (pv 0) T.cl_Cursor ⟨T.g_Cursor_take_end, T.fn_Cursor_take_end, T.F_Cursor_take_end.kp⟩ (ok_Cursor_take_end T) (hr.mono (by decide)) T.b_Cursor_take_end .nil (passes_call (takes_of rfl rfl rfl rfl) (fun _ _ _ _ h => h))))
      (pss_one (ps_ret (pe_tup (pa_cons (pv 1) (pa_cons (pv 2) (pa_cons (pv 3) (pa_cons (pv 4) (pa_cons (pv 5) pa_nil))))))))))))))))), ?_⟩
    have err : ∀ (k : Nat) (Hc : Hp), k < 8 → (∀ j, j < k → okW ws j = true) → okW ws k = false → But x H Hc → ∀ H' dd, Same Hc H' → XB H' dd l k → E (.ref T.C_BadLine) (some dd) H' := fun k Hc hk h1 h2 b H' dd s hx => kE k (badW_at hk h1 h2) H' dd (b.trans (But.of s)) hx
    have l18 : ∀ z ∈ ws, z.length ≤ 18000 := fun z h => (hws z h).1
    obtain ⟨dx, a, hx, ha, ax⟩ := id hc
    refine ⟨_, rfl, x, dx, _, rfl, hx, rfl, (by show 1 ≤ sizeLine; decide), fun t nt => ⟨x, t, ws, 0, l, "on", rfl, hc.same (same_upd nt), .inl (.inl upd_same), fun h0 => err 0 _ (by decide) (fun j hj => by omega) (by rw [okW_lit (.inl ⟨rfl, rfl⟩)]; exact decide_eq_false h0) (But.of (same_upd nt)), fun h0 H2 c2 b2 => ?_⟩⟩
    have b02 := (But.of (a := x) (same_upd (o := .tup [.str "on"]) nt)).trans b2
    clear b2
    have o0 : okW ws 0 = true := by rw [okW_lit (.inl ⟨rfl, rfl⟩)]; exact decide_eq_true h0
    have p1 : ∀ j, j < 1 → okW ws j = true := fun j hj => by rw [show j = 0 by omega]; exact o0
    obtain ⟨dx2, a2, hx2, _⟩ := id c2
    refine ⟨_, rfl, x, dx2, _, rfl, hx2, rfl, _, rfl, x, dx2, _, rfl, hx2, rfl, x, ws, 1, l, rfl, c2, fun hz => err 1 H2 (by decide) p1 (okW_non hz) b02, fun z1 hz1 => ?_⟩
    refine ⟨z1, rfl, l18 z1 (List.mem_of_getElem? hz1), fun er H3 s3 => ?_, fun p hp y H3 s3 hy => ?_⟩
    · exact ⟨x, .non, ws, 1, l, rfl, c2.same s3, fun _ => err 1 H3 (by decide) p1 (by rw [okW_of hz1]; show (rdP z1).isSome = false; rw [er]; rfl) (b02.trans (But.of s3)), fun h => absurd rfl h⟩
    have o1 : okW ws 1 = true := by rw [okW_of hz1]; show (rdP z1).isSome = true; rw [hp]; rfl
    have p2 : ∀ j, j < 2 → okW ws j = true := fun j hj => by
      rcases (show j < 1 ∨ j = 1 by omega) with h | rfl
      · exact p1 j h
      · exact o1
    obtain ⟨pa, pl, rfl, _, _⟩ := tpP_inv hy
    have c3 := c2.same s3
    obtain ⟨dx3, a3, hx3, _⟩ := id c3
    have b03 := b02.trans (But.of (a := x) s3)
    refine ⟨x, .ref pa, ws, 1, l, rfl, c3, (fun z => nomatch z), fun _ H4 c4 b4 => ?_⟩
    have hy4 := hy.butI hx3 b4
    have b04 := b03.trans b4
    obtain ⟨dx4, a4, hx4, _⟩ := id c4
    refine ⟨_, rfl, x, dx4, _, rfl, hx4, rfl, _, _, rfl, rfl, x, 11, ws, 2, l, rfl, .inr rfl, c4, l18, fun hz => err 2 H4 (by decide) p2 (okW_no fun z e => by show (rdM 11 z).isSome = false; rw [hz z e]; rfl) b04, fun z2 r hz2 hr H5 c5 b5 => ?_⟩
    have o2 : okW ws 2 = true := by rw [okW_of hz2]; show (rdM 11 z2).isSome = true; rw [hr]; rfl
    have p3 : ∀ j, j < 3 → okW ws j = true := fun j hj => by
      rcases (show j < 2 ∨ j = 2 by omega) with h | rfl
      · exact p2 j h
      · exact o2
    have hy5 := hy4.butI hx4 b5
    have b05 := b04.trans b5
    obtain ⟨dx5, a5, hx5, _⟩ := id c5
    refine ⟨_, rfl, x, dx5, _, rfl, hx5, rfl, _, _, rfl, rfl, x, 29, ws, 3, l, rfl, .inl rfl, c5, l18, fun hz => err 3 H5 (by decide) p3 (okW_no fun z e => by show (rdM 29 z).isSome = false; rw [hz z e]; rfl) b05, fun z3 w' hz3 hw H6 c6 b6 => ?_⟩
    have o3 : okW ws 3 = true := by rw [okW_of hz3]; show (rdM 29 z3).isSome = true; rw [hw]; rfl
    have p4 : ∀ j, j < 4 → okW ws j = true := fun j hj => by
      rcases (show j < 3 ∨ j = 3 by omega) with h | rfl
      · exact p3 j h
      · exact o3
    have hy6 := hy5.butI hx5 b6
    have b06 := b05.trans b6
    obtain ⟨dx6, a6, hx6, _⟩ := id c6
    refine ⟨_, rfl, x, dx6, _, rfl, hx6, rfl, (by show 1 ≤ sizeLine; decide), fun t2 nt2 => ?_⟩
    have s7 := same_upd (o := .tup [.str "for"]) nt2
    have b06' := b06.trans (But.of s7)
    refine ⟨x, t2, ws, 4, l, "for", rfl, c6.same s7, .inl (.inl upd_same), fun h4 => err 4 _ (by decide) p4 (by rw [okW_lit (.inr (.inl ⟨rfl, rfl⟩))]; exact decide_eq_false h4) b06', fun h4 H7 c7 b7 => ?_⟩
    have o4 : okW ws 4 = true := by rw [okW_lit (.inr (.inl ⟨rfl, rfl⟩))]; exact decide_eq_true h4
    have p5 : ∀ j, j < 5 → okW ws j = true := fun j hj => by
      rcases (show j < 4 ∨ j = 4 by omega) with h | rfl
      · exact p4 j h
      · exact o4
    have hy7 := (hy6.nl (NL.of s7)).butI (s7 _ _ hx6) b7
    have b07 := b06'.trans b7
    obtain ⟨dx7, a7, hx7, _⟩ := id c7
    have tk : ∀ {k : Nat} {z : Str}, k = 5 ∨ k = 7 → ws[k]? = some z → fit k z = tokB z := fun {k z} hk hz => by
      rw [fit_tok (hws z (List.mem_of_getElem? hz)).2]
      rcases hk with rfl | rfl <;> rfl
    refine ⟨_, rfl, x, ws, 5, l, rfl, c7, l18, fun hz => err 5 H7 (by decide) p5 (okW_no fun z e => by rw [tk (.inl rfl) e]; exact hz z e) b07, fun z5 hz5 e5 H8 c8 b8 => ?_⟩
    have o5 : okW ws 5 = true := by rw [okW_of hz5, tk (.inl rfl) hz5]; exact e5
    have p6 : ∀ j, j < 6 → okW ws j = true := fun j hj => by
      rcases (show j < 5 ∨ j = 5 by omega) with h | rfl
      · exact p5 j h
      · exact o5
    have hy8 := hy7.butI hx7 b8
    have b08 := b07.trans b8
    obtain ⟨dx8, a8, hx8, _⟩ := id c8
    refine ⟨_, rfl, x, dx8, _, rfl, hx8, rfl, (by show 1 ≤ sizeLine; decide), fun t3 nt3 => ?_⟩
    have s9 := same_upd (o := .tup [.str "read"]) nt3
    have b08' := b08.trans (But.of s9)
    refine ⟨x, t3, ws, 6, l, "read", rfl, c8.same s9, .inl (.inl upd_same), fun h6 => err 6 _ (by decide) p6 (by rw [okW_lit (.inr (.inr ⟨rfl, rfl⟩))]; exact decide_eq_false h6) b08', fun h6 H9 c9 b9 => ?_⟩
    have o6 : okW ws 6 = true := by rw [okW_lit (.inr (.inr ⟨rfl, rfl⟩))]; exact decide_eq_true h6
    have p7 : ∀ j, j < 7 → okW ws j = true := fun j hj => by
      rcases (show j < 6 ∨ j = 6 by omega) with h | rfl
      · exact p6 j h
      · exact o6
    have hy9 := (hy8.nl (NL.of s9)).butI (s9 _ _ hx8) b9
    have b09 := b08'.trans b9
    obtain ⟨dx9, a9, hx9, _⟩ := id c9
    refine ⟨_, rfl, x, ws, 7, l, rfl, c9, l18, fun hz => err 7 H9 (by decide) p7 (okW_no fun z e => by rw [tk (.inr rfl) e]; exact hz z e) b09, fun z7 hz7 e7 H10 c10 b10 => ?_⟩
    have o7 : okW ws 7 = true := by rw [okW_of hz7, tk (.inr rfl) hz7]; exact e7
    have p8 : ∀ j, j < 8 → okW ws j = true := fun j hj => by
      rcases (show j < 7 ∨ j = 7 by omega) with h | rfl
      · exact p7 j h
      · exact o7
    have hy10 := hy9.butI hx9 b10
    have b010 := b09.trans b10
    obtain ⟨dx10, a10, hx10, _⟩ := id c10
    refine ⟨_, rfl, x, dx10, _, rfl, hx10, rfl, x, ws, 8, l, rfl, c10, fun h8 H' dd s hb => kE 8 (by rw [badW_all p8, if_pos h8]) H' dd (b010.trans (But.of s)) hb, fun h8 => ?_⟩
    refine ⟨_, rfl, _, rfl, _, rfl, _, rfl, _, rfl, (by show 5 ≤ sizeLine; decide), fun q nq => ?_⟩
    have sr := same_upd (o := .tup [.ref pa, .int r, .int w', .str z5, .str z7]) nq
    have ec : coW ws = ⟨p, r, w', z5, z7⟩ := by
      unfold coW
      rw [getD_of hz1, getD_of hz2, getD_of hz3, getD_of hz5, getD_of hz7, hp, hr, hw]
      rfl
    refine kQ (by rw [badW_all p8, if_neg h8]) (.ref q) _ (b010.trans (But.of sr)) ?_
    rw [ec]
    exact .tup upd_same (.cons (hy10.nl (NL.of sr)) (.cons (.int _) (.cons (.int _) (.cons (.str _) (.cons (.str _) .nil)))))
theorem ok_Errata_init (T : Tab K mg) : FnOk P w K mg base (L2.CX P w) 7 T.f_Errata_init T.d_Errata_init ["self", "corrections"] (sp_Errata_init K T.C_Errata T.C_TooMany T.C_BadCorrection) := by
  refine T.F_Errata_init.okX sc_Errata_init (fun vs H Q E h => ?_) (fun cdv A outer s H vs Q E hr h => ?_)
  · obtain ⟨x, dx, a, us, cs, rfl, _⟩ := h
    rfl
  · obtain ⟨x, dx, a, us, cs, rfl, hx, ha, hcs, kT, kQ⟩ := h
    refine ⟨_, (pss_cons (ps_fld (pv 0) (pe_call (ok_judged_corrections T) (hr.mono (by decide)) (by rfl) T.g_judged_corrections T.F_judged_corrections.kp T.b_judged_corrections .nil (passes_call (takes_of rfl rfl rfl rfl) (fun _ _ _ _ h => h)) (pa_cons (pv 1) pa_nil)) rfl)
      (pss_one (ps_fld (pv 0) (pe_call (ok_turns_at_places T) (hr.mono (by decide)) (by rfl) T.g_turns_at_places T.F_turns_at_places.kp T.b_turns_at_places .nil pass0 (pa_cons (pe_fld (pv 0) rfl) pa_nil)) rfl))), ?_⟩
    refine ⟨_, rfl, a, us, cs, rfl, ha, hcs, fun l H1 dd s1 hd => kT l H1 dd (But.of s1) hd, fun l => ⟨fun i e H1 dd s1 hd => (kQ l).1 i e H1 dd (But.of s1) hd, fun e1 p us' H1 s1 hp tp => ?_⟩⟩
    have q := (kQ l).2 e1
    have okn : ∀ c ∈ cs, okC c := fun c hc => (hcs.2.1 c hc).ne (same1_none' e1 c hc)
    have px : p ≠ x := fun z => by rw [z, s1 _ _ hx] at hp; cases hp
    refine ⟨_, rfl, x, _, dx, _, rfl, s1 _ _ hx, T.cl_Errata, T.na_Errata_corrections, (show 0 < 1000 by decide), ?_⟩
    refine ⟨_, rfl, x, _, dx, _, _, rfl, upd_same, T.cl_Errata, T.na_Errata_corrections, rfl, ?_⟩
    have b1 : But x H1 (upd H1 x (.ins T.C_Errata dx (putF "corrections" (.ref p) []))) := But.upd _
    have hp2 : upd H1 x (.ins T.C_Errata dx (putF "corrections" (.ref p) [])) p = some (.tup us') := by rw [upd_ne px]; exact hp
    have hx2 : upd H1 x (.ins T.C_Errata dx (putF "corrections" (.ref p) [])) x = some (.ins T.C_Errata dx (putF "corrections" (.ref p) [])) := upd_same
    have tp2 := tp.butI (s1 _ _ hx) b1
    generalize upd H1 x (.ins T.C_Errata dx (putF "corrections" (.ref p) [])) = H2 at b1 hp2 hx2 tp2
    refine ⟨p, us', cs, rfl, hp2, ⟨tp2, okn, l⟩, fun t H3 s3 => ?_⟩
    refine ⟨_, rfl, x, _, dx, _, rfl, s3 _ _ hx2, T.cl_Errata, T.na_Errata__turns, (show 1 < 1000 by decide), ?_⟩
    have b3 : But x H3 (upd H3 x (.ins T.C_Errata dx (putF "_turns" (.ref t) (putF "corrections" (.ref p) [])))) := But.upd _
    refine q _ ⟨x, dx, p, .ref t, us', rfl, upd_same, by rw [upd_ne px]; exact s3 _ _ hp2, (tp2.nl (NL.of s3)).butI (s3 _ _ hx2) b3⟩ (((But.of s1).trans b1).trans ((But.of s3).trans b3))
theorem ok_read_errata (T : Tab K mg) : FnOk P w K mg base (L2.CX P w) 10 T.f_read_errata T.d_read_errata ["lines"] (sp_read_errata K T.C_Errata T.C_BadLine T.C_TooMany T.C_BadCorrection) := by
  refine T.F_read_errata.okX sc_read_errata (fun vs H Q E h => ?_) (fun cdv A outer s H vs Q E hr h => ?_)
  · obtain ⟨a, xs, rfl, _⟩ := h
    rfl
  · obtain ⟨a, xs, rfl, ha, okx, l70, kB, kN⟩ := h
    refine ⟨_, (pss_one (ps_ret (pe_make ⟨T.ms_Errata, T.g_Errata_init, T.fn_Errata_init, T.kc_Errata⟩ (ok_Errata_init T) (hr.mono (by decide)) (by rfl) T.cg_Errata T.b_Errata_init .nil (passes_call (takes_of rfl rfl rfl rfl) (fun _ _ _ _ h => h)) (pa_cons (pe_lcX (own := [("k", 1), ("line", 2)]) (g := gTup K 2 _) (takes_of rfl rfl rfl rfl) rfl rfl (by rfl) sc_read_errata.nd (pi_or (pi_enum (by rfl) T.m_enumerate (pa_cons (pv 0) pa_nil)) (pi_enumT (by rfl) T.m_enumerate (pa_cons (pv 0) pa_nil))) (blkOk_by (own := [("k", 1), ("line", 2)]) (N := N_read_errata) (sc := defScope s_read_errata) (by decide +kernel)) (fun _ _ _ _ _ => pg_tup (by rfl) (pgs_cons (pg_name (i := 1) sc_read_errata.nd rfl (.inl rfl)) (pgs_cons (pg_name (i := 2) sc_read_errata.nd rfl (.inl rfl)) pgs_nil))) (fun _ _ _ _ _ _ hp => (pe_call (ok_read_correction T) (hr.mono (by decide)) (by rfl) T.g_read_correction T.F_read_correction.kp T.b_read_correction .nil hp (pa_cons (pe_make ⟨T.ms_Cursor, T.g_Cursor_init, T.fn_Cursor_init, T.kc_Cursor⟩ (ok_Cursor_init T) (hr.mono (by decide)) (by rfl) T.cg_Cursor T.b_Cursor_init .nil pass0 (pa_cons (pe_call (ok_line_words T) (hr.mono (by decide)) (by rfl) T.g_line_words T.F_line_words.kp T.b_line_words .nil hp (pa_cons (pv 2) (pa_cons (pv 1) pa_nil))) (pa_cons (pv 1) (pa_cons pe_int pa_nil)))) pa_nil)))) pa_nil)))), ?_⟩
    have wsz : ∀ z, V.str z ∈ xs → ∀ y ∈ Txt.split z " ", y.length ≤ 18000 ∧ 32 ∉ y.cps.toList := fun z hz y hy => by
      refine ⟨?_, split_sp z y hy⟩
      have := split_part z " " (by decide +kernel) hy
      rcases okx _ hz with h | h | h | ⟨z', h, hl, _⟩
      · cases h
      · cases h
      · cases h
      · cases h; omega
    cases e0 : firstFrom 0 xs with
    | none =>
      have allg := firstFrom_none' e0
      rcases ha with ha | ha
      · refine .inl ⟨_, rfl, a, _, rfl, ha, fun D nD => ?_⟩
        refine lc_tp xs (fun c => some (dC (coV c))) walk_enum nD (fun H h => h.seq ha) (by omega) ?_ ?_
        · rintro i c y H3 H4 er sm ⟨p, u, v, rfl, np, rfl, eu, ev⟩ R N hR hN
          have ev : xs[i]? = some v := ev
          rw [er] at ev
          cases ev
          cases eu
          have xm := List.mem_of_getElem? er
          obtain ⟨okc, z, rfl, hz⟩ := okC'_V (okx c xm) (allg c xm)
          have sp := same_upd (o := .tup [.int (i : Nat), .str z]) np
          refine ⟨p, _, rfl, .inl (.inl upd_same), rfl, _, _, rfl, _, _, rfl, rfl, rfl, ?_⟩
          generalize upd H3 p (.tup [.int (i : Nat), .str z]) = H4 at sp ⊢
          refine ⟨_, rfl, _, rfl, .str z, (i : Nat), rfl, okx _ xm, fun nz => absurd rfl (nz z), fun z' ez g H5 s5 ng hg => ?_⟩
          cases ez
          refine ⟨_, rfl, fun x dx nx ndx dxx => ?_⟩
          have z1 : Same H5 (upd (upd H5 dx (.own x)) x (.ins T.C_Cursor dx [])) := fun b o e => by
            have c1 : b ≠ x := fun z => by rw [z, nx] at e; cases e
            have c2 : b ≠ dx := fun z => by rw [z, ndx] at e; cases e
            rw [upd_ne c1, upd_ne c2]
            exact e
          have gx : g ≠ x := fun z => by rw [z, nx] at hg; cases hg
          refine ⟨x, dx, g, (i : Nat), _, rfl, upd_same, z1 _ _ hg, gx, fun H6 hc bt => ⟨rfl, ?_⟩⟩
          have z2 : Same H5 H6 := fun b o e => bt b o (fun z => by rw [z, nx] at e; cases e) (z1 b o e)
          refine ⟨x, _, (i : Nat), rfl, hc, wsz z xm, fun p hp => (by rw [hz] at hp; cases hp), fun _ y H7 b7 hy => ?_⟩
          have z3 : Same H5 H7 := fun b o e => b7 b o (fun z => by rw [z, nx] at e; cases e) (z2 b o e)
          exact hR _ _ rfl _ ((sp.trans s5).trans z3) hy
        rintro H2 ws s2 eD tw
        rw [map_fm] at tw
        refine fun x dx nx ndx dxx => ?_
        have z1 : Same H2 (upd (upd H2 dx (.own x)) x (.ins T.C_Errata dx [])) := fun b o e => by
          have c1 : b ≠ x := fun z => by rw [z, nx] at e; cases e
          have c2 : b ≠ dx := fun z => by rw [z, ndx] at e; cases e
          rw [upd_ne c1, upd_ne c2]
          exact e
        have fin : ∀ {H6 : Hp}, But x (upd (upd H2 dx (.own x)) x (.ins T.C_Errata dx [])) H6 → Same H H6 := fun bt => s2.trans fun b o e => bt b o (fun z => by rw [z, nx] at e; cases e) (z1 b o e)
        rw [show (fun c => dC (coV c)) = dC ∘ coV from rfl, ← List.map_map] at tw
        obtain ⟨kT, kQ⟩ := kN e0
        refine ⟨x, dx, D, ws, xs.map coV, rfl, upd_same, z1 _ _ eD, ⟨tw.nl (NL.of z1), fun c hc => ?_, by rw [List.length_map]; exact l70⟩, fun l H6 dd bt hd => kT (by rw [List.length_map] at l; exact l) H6 dd (fin bt) hd, fun l => ?_⟩
        · obtain ⟨v, hv, rfl⟩ := List.mem_map.mp hc
          exact (okC'_V (okx v hv) (allg v hv)).1
        rw [List.length_map] at l
        obtain ⟨kC, q⟩ := kQ l
        exact ⟨fun i e H6 dd bt hd => kC i e H6 dd (fin bt) hd, fun e H6 he bt => ⟨rfl, q e (.ref x) H6 (fin bt) he⟩⟩
      · refine .inr ⟨_, rfl, a, _, rfl, ha, fun D nD => ?_⟩
        refine lc_tp xs (fun c => some (dC (coV c))) walk_enumT nD (fun H h => same_seqT h ha) (by omega) ?_ ?_
        · rintro i c y H3 H4 er sm ⟨p, u, v, rfl, np, rfl, eu, ev⟩ R N hR hN
          have ev : xs[i]? = some v := ev
          rw [er] at ev
          cases ev
          cases eu
          have xm := List.mem_of_getElem? er
          obtain ⟨okc, z, rfl, hz⟩ := okC'_V (okx c xm) (allg c xm)
          have sp := same_upd (o := .tup [.int (i : Nat), .str z]) np
          refine ⟨p, _, rfl, .inl (.inl upd_same), rfl, _, _, rfl, _, _, rfl, rfl, rfl, ?_⟩
          generalize upd H3 p (.tup [.int (i : Nat), .str z]) = H4 at sp ⊢
          refine ⟨_, rfl, _, rfl, .str z, (i : Nat), rfl, okx _ xm, fun nz => absurd rfl (nz z), fun z' ez g H5 s5 ng hg => ?_⟩
          cases ez
          refine ⟨_, rfl, fun x dx nx ndx dxx => ?_⟩
          have z1 : Same H5 (upd (upd H5 dx (.own x)) x (.ins T.C_Cursor dx [])) := fun b o e => by
            have c1 : b ≠ x := fun z => by rw [z, nx] at e; cases e
            have c2 : b ≠ dx := fun z => by rw [z, ndx] at e; cases e
            rw [upd_ne c1, upd_ne c2]
            exact e
          have gx : g ≠ x := fun z => by rw [z, nx] at hg; cases hg
          refine ⟨x, dx, g, (i : Nat), _, rfl, upd_same, z1 _ _ hg, gx, fun H6 hc bt => ⟨rfl, ?_⟩⟩
          have z2 : Same H5 H6 := fun b o e => bt b o (fun z => by rw [z, nx] at e; cases e) (z1 b o e)
          refine ⟨x, _, (i : Nat), rfl, hc, wsz z xm, fun p hp => (by rw [hz] at hp; cases hp), fun _ y H7 b7 hy => ?_⟩
          have z3 : Same H5 H7 := fun b o e => b7 b o (fun z => by rw [z, nx] at e; cases e) (z2 b o e)
          exact hR _ _ rfl _ ((sp.trans s5).trans z3) hy
        rintro H2 ws s2 eD tw
        rw [map_fm] at tw
        refine fun x dx nx ndx dxx => ?_
        have z1 : Same H2 (upd (upd H2 dx (.own x)) x (.ins T.C_Errata dx [])) := fun b o e => by
          have c1 : b ≠ x := fun z => by rw [z, nx] at e; cases e
          have c2 : b ≠ dx := fun z => by rw [z, ndx] at e; cases e
          rw [upd_ne c1, upd_ne c2]
          exact e
        have fin : ∀ {H6 : Hp}, But x (upd (upd H2 dx (.own x)) x (.ins T.C_Errata dx [])) H6 → Same H H6 := fun bt => s2.trans fun b o e => bt b o (fun z => by rw [z, nx] at e; cases e) (z1 b o e)
        rw [show (fun c => dC (coV c)) = dC ∘ coV from rfl, ← List.map_map] at tw
        obtain ⟨kT, kQ⟩ := kN e0
        refine ⟨x, dx, D, ws, xs.map coV, rfl, upd_same, z1 _ _ eD, ⟨tw.nl (NL.of z1), fun c hc => ?_, by rw [List.length_map]; exact l70⟩, fun l H6 dd bt hd => kT (by rw [List.length_map] at l; exact l) H6 dd (fin bt) hd, fun l => ?_⟩
        · obtain ⟨v, hv, rfl⟩ := List.mem_map.mp hc
          exact (okC'_V (okx v hv) (allg v hv)).1
        rw [List.length_map] at l
        obtain ⟨kC, q⟩ := kQ l
        exact ⟨fun i e H6 dd bt hd => kC i e H6 dd (fin bt) hd, fun e H6 he bt => ⟨rfl, q e (.ref x) H6 (fin bt) he⟩⟩
    | some ip =>
      obtain ⟨i1, p0⟩ := ip
      obtain ⟨i2, x0, ei, hx0, hp0, hb0⟩ := firstFrom_some e0
      have ei : i1 = i2 := by omega
      subst ei
      rcases ha with ha | ha
      · refine .inl ⟨_, rfl, a, _, rfl, ha, fun D nD => ?_⟩
        refine lc_it walk_enum (fun i H' => Same H H' ∧ i ≤ i1 ∧ ∃ us, H' D = some (.lst us) ∧ us.length = i) ⟨same_upd nD, Nat.zero_le _, [], upd_same, rfl⟩ (fun _ H' _ h => h.1.seq ha) ?_ ?_
        · rintro i y H3 H4 hi ⟨sm, il, us, eD, lu⟩ ⟨p, u, v, rfl, np, rfl, eu, ev⟩
          have ev : xs[i]? = some v := ev
          cases eu
          have xm := List.mem_of_getElem? ev
          have okv := okx v xm
          have sp := same_upd (o := .tup [.int (i : Nat), v]) np
          refine ⟨p, _, rfl, .inl (.inl upd_same), rfl, _, _, rfl, _, _, rfl, rfl, rfl, ?_⟩
          generalize upd H3 p (.tup [.int (i : Nat), v]) = H4 at sp ⊢
          have s4 := sm.trans sp
          refine ⟨_, rfl, _, rfl, v, (i : Nat), rfl, okv, fun nz H5 dd s5 hd => ?_, fun z ez g H5 s5 ng hg => ?_⟩
          · have b0 : badL v = some 0 := by
              rcases okv with rfl | rfl | rfl | ⟨z, rfl, _⟩
              · rfl
              · rfl
              · rfl
              · exact absurd rfl (nz z)
            rcases Nat.lt_or_ge i i1 with h | h
            · rw [hb0 i h v ev] at b0; cases b0
            have : i = i1 := by omega
            subst this
            rw [hx0] at ev
            cases ev
            rw [hp0] at b0
            cases b0
            exact kB _ _ e0 H5 dd (s4.trans s5) hd
          subst ez
          refine ⟨_, rfl, fun x dx nx ndx dxx => ?_⟩
          have z1 : Same H5 (upd (upd H5 dx (.own x)) x (.ins T.C_Cursor dx [])) := fun b o e => by
            have c1 : b ≠ x := fun z => by rw [z, nx] at e; cases e
            have c2 : b ≠ dx := fun z => by rw [z, ndx] at e; cases e
            rw [upd_ne c1, upd_ne c2]
            exact e
          have gx : g ≠ x := fun z => by rw [z, nx] at hg; cases hg
          refine ⟨x, dx, g, (i : Nat), _, rfl, upd_same, z1 _ _ hg, gx, fun H6 hc bt => ⟨rfl, ?_⟩⟩
          have z2 : Same H5 H6 := fun b o e => bt b o (fun z => by rw [z, nx] at e; cases e) (z1 b o e)
          have fin : ∀ {H7 : Hp}, But x H6 H7 → Same H H7 := fun b7 => (s4.trans s5).trans fun b o e => b7 b o (fun z => by rw [z, nx] at e; cases e) (z2 b o e)
          refine ⟨x, _, (i : Nat), rfl, hc, wsz z xm, fun p hp H7 dd b7 hd => ?_, fun hn y H7 b7 hy => ?_⟩
          · have bz : badL (.str z) = some p := hp
            rcases Nat.lt_or_ge i i1 with h | h
            · rw [hb0 i h _ ev] at bz; cases bz
            have : i = i1 := by omega
            subst this
            rw [hx0] at ev
            cases ev
            rw [hp0] at bz
            cases bz
            exact kB _ _ e0 H7 dd (fin b7) hd
          · have bz : badL (.str z) = none := hn
            have eD7 := (fin b7 (H7 := H7))
            have hlt : i < i1 := by
              rcases Nat.lt_or_ge i i1 with h | h
              · exact h
              have : i = i1 := by omega
              subst this
              rw [hx0] at ev
              cases ev
              rw [hp0] at bz
              cases bz
            have e7 : H7 D = some (.lst us) := b7 _ _ (fun z => by rw [← z] at nx; have := s5 _ _ (sp _ _ eD); rw [this] at nx; cases nx) (z2 _ _ (s5 _ _ (sp _ _ eD)))
            exact ⟨us, e7, smallM (by omega), same_put eD7 nD _, by omega, us ++ [y], upd_same, by rw [List.length_append, lu]; rfl⟩
        · rintro H2 ⟨sm, il, us, eD, lu⟩
          have := (List.getElem?_eq_some_iff.mp hx0).1
          omega
      · refine .inr ⟨_, rfl, a, _, rfl, ha, fun D nD => ?_⟩
        refine lc_it walk_enumT (fun i H' => Same H H' ∧ i ≤ i1 ∧ ∃ us, H' D = some (.lst us) ∧ us.length = i) ⟨same_upd nD, Nat.zero_le _, [], upd_same, rfl⟩ (fun _ H' _ h => same_seqT h.1 ha) ?_ ?_
        · rintro i y H3 H4 hi ⟨sm, il, us, eD, lu⟩ ⟨p, u, v, rfl, np, rfl, eu, ev⟩
          have ev : xs[i]? = some v := ev
          cases eu
          have xm := List.mem_of_getElem? ev
          have okv := okx v xm
          have sp := same_upd (o := .tup [.int (i : Nat), v]) np
          refine ⟨p, _, rfl, .inl (.inl upd_same), rfl, _, _, rfl, _, _, rfl, rfl, rfl, ?_⟩
          generalize upd H3 p (.tup [.int (i : Nat), v]) = H4 at sp ⊢
          have s4 := sm.trans sp
          refine ⟨_, rfl, _, rfl, v, (i : Nat), rfl, okv, fun nz H5 dd s5 hd => ?_, fun z ez g H5 s5 ng hg => ?_⟩
          · have b0 : badL v = some 0 := by
              rcases okv with rfl | rfl | rfl | ⟨z, rfl, _⟩
              · rfl
              · rfl
              · rfl
              · exact absurd rfl (nz z)
            rcases Nat.lt_or_ge i i1 with h | h
            · rw [hb0 i h v ev] at b0; cases b0
            have : i = i1 := by omega
            subst this
            rw [hx0] at ev
            cases ev
            rw [hp0] at b0
            cases b0
            exact kB _ _ e0 H5 dd (s4.trans s5) hd
          subst ez
          refine ⟨_, rfl, fun x dx nx ndx dxx => ?_⟩
          have z1 : Same H5 (upd (upd H5 dx (.own x)) x (.ins T.C_Cursor dx [])) := fun b o e => by
            have c1 : b ≠ x := fun z => by rw [z, nx] at e; cases e
            have c2 : b ≠ dx := fun z => by rw [z, ndx] at e; cases e
            rw [upd_ne c1, upd_ne c2]
            exact e
          have gx : g ≠ x := fun z => by rw [z, nx] at hg; cases hg
          refine ⟨x, dx, g, (i : Nat), _, rfl, upd_same, z1 _ _ hg, gx, fun H6 hc bt => ⟨rfl, ?_⟩⟩
          have z2 : Same H5 H6 := fun b o e => bt b o (fun z => by rw [z, nx] at e; cases e) (z1 b o e)
          have fin : ∀ {H7 : Hp}, But x H6 H7 → Same H H7 := fun b7 => (s4.trans s5).trans fun b o e => b7 b o (fun z => by rw [z, nx] at e; cases e) (z2 b o e)
          refine ⟨x, _, (i : Nat), rfl, hc, wsz z xm, fun p hp H7 dd b7 hd => ?_, fun hn y H7 b7 hy => ?_⟩
          · have bz : badL (.str z) = some p := hp
            rcases Nat.lt_or_ge i i1 with h | h
            · rw [hb0 i h _ ev] at bz; cases bz
            have : i = i1 := by omega
            subst this
            rw [hx0] at ev
            cases ev
            rw [hp0] at bz
            cases bz
            exact kB _ _ e0 H7 dd (fin b7) hd
          · have bz : badL (.str z) = none := hn
            have eD7 := (fin b7 (H7 := H7))
            have hlt : i < i1 := by
              rcases Nat.lt_or_ge i i1 with h | h
              · exact h
              have : i = i1 := by omega
              subst this
              rw [hx0] at ev
              cases ev
              rw [hp0] at bz
              cases bz
            have e7 : H7 D = some (.lst us) := b7 _ _ (fun z => by rw [← z] at nx; have := s5 _ _ (sp _ _ eD); rw [this] at nx; cases nx) (z2 _ _ (s5 _ _ (sp _ _ eD)))
            exact ⟨us, e7, smallM (by omega), same_put eD7 nD _, by omega, us ++ [y], upd_same, by rw [List.length_append, lu]; rfl⟩
        · rintro H2 ⟨sm, il, us, eD, lu⟩
          have := (List.getElem?_eq_some_iff.mp hx0).1
          omega
theorem ok_told (T : Tab K mg) : GnOk P w K mg base CX0 11 T.f_told T.d_told ["_law_lines"] (sp_told K) := by
  refine gn_ok T.F_told sc_told (fun vs H Q E h => ?_) (fun cdv A outer s H vs Q E hr hg h => ?_)
  · obtain ⟨a, xs, rfl, _⟩ := h
    rfl
  · obtain ⟨a, xs, rfl, ha, okx, l5, q⟩ := h
    refine ⟨_, (pss_cons (ps_try_as (i := 2) (c := .ref T.C_AfterError) (Wout := fun _ _ _ _ => False) rfl rfl sc_told.nd rfl rfl ⟨by rfl, by decide, Or.inl T.cg_AfterError⟩ takes0
      (fun W pn xe tk _ => (pss_one (ps_set (i := 1) sc_told.nd rfl (.inl rfl) (pe_callS (ok_read_errata T) (hr.mono (by decide)) (by rfl) T.g_read_errata T.F_read_errata.kp T.b_read_errata (fun σ => passAt tk σ) (pa_cons (pv 0) pa_nil)))))
      (fun a oe cls d pn hz hf => (pss_cons (ps_set (i := 3) sc_told.nd rfl (.inl rfl) (pe_lst (pa_cons (pe_callB (call_isX hz hf) (by rfl) T.m_isinstance (by decide +kernel) (pa_cons (pv 2) (pa_cons (pe_glob (v := .ref T.C_BadLine) (by rfl) T.cg_BadLine rfl) pa_nil))) (pa_cons (pe_callB (call_isX hz hf) (by rfl) T.m_isinstance (by decide +kernel) (pa_cons (pv 2) (pa_cons (pe_glob (v := .ref T.C_TooMany) (by rfl) T.cg_TooMany rfl) pa_nil))) (pa_cons (pe_callB (call_isX hz hf) (by rfl) T.m_isinstance (by decide +kernel) (pa_cons (pv 2) (pa_cons (pe_glob (v := .ref T.C_BadCorrection) (by rfl) T.cg_BadCorrection rfl) pa_nil))) pa_nil)))))
        (pss_cons (ps_if (PW.pt (pw_or (pt_not (pt_val (pe_callB (call_isX hz hf) (by rfl) T.m_isinstance (by decide +kernel) (pa_cons (pv 2) (pa_cons (pe_bltn (v := .ty "ValueError") (u := .type "ValueError") (by rfl) T.m_ValueError (by decide +kernel) rfl) pa_nil))))) (pw_or1 (pt_cmpR op_eq (pe_callB (call_isX hz hf) (by rfl) T.m_isinstance (by decide +kernel) (pa_cons (pv 2) (pa_cons (pe_glob (v := .ref T.C_BadForm) (by rfl) T.cg_BadForm rfl) pa_nil))) (pe_callB (call_isX hz hf) (by rfl) T.m_isinstance (by decide +kernel) (pa_cons (pv 2) (pa_cons (pe_glob (v := .ref T.C_TooMany) (by rfl) T.cg_TooMany rfl) pa_nil))) (nomark _)))))
        (pss_one (ps_ret (pe_lst (pa_cons pe_str pa_nil))))
        pss_nil)
        (pss_cons (ps_if (pt_cmpR (op_eqDK (K := K) rfl (by have z := hr.units; exact z)) (pv 3) (pe_lst (pa_cons pe_bl (pa_cons pe_bl (pa_cons pe_bl pa_nil)))) (nomark _))
        (pss_one (ps_ret (pe_lst (pa_cons pe_str (pa_cons (pe_callB (call_reprS (by exact hg) (by exact un20 hr)) (by rfl) T.m_repr (by decide +kernel) (pa_cons (pe_xf ⟨T.hg_BadLine, T.hk_BadLine, T.hs_BadLine, T.hd_BadLine⟩ T.n_BadLine_line hz hf (pv 2)) pa_nil)) (pa_cons (pe_callB (call_reprS (by exact hg) (by exact un20 hr)) (by rfl) T.m_repr (by decide +kernel) (pa_cons (pe_xf ⟨T.hg_BadLine, T.hk_BadLine, T.hs_BadLine, T.hd_BadLine⟩ T.n_BadLine_word hz hf (pv 2)) pa_nil)) pa_nil))))))
        pss_nil)
        (pss_cons (ps_if (pt_cmpR (op_eqDK (K := K) rfl (by have z := hr.units; exact z)) (pv 3) (pe_lst (pa_cons pe_bl (pa_cons pe_bl (pa_cons pe_bl pa_nil)))) (nomark _))
        (pss_one (ps_ret (pe_lst (pa_cons pe_str (pa_cons (pe_callB (call_reprS (by exact hg) (by exact un20 hr)) (by rfl) T.m_repr (by decide +kernel) (pa_cons (pe_xf ⟨T.hg_TooMany, T.hk_TooMany, T.hs_TooMany, T.hd_TooMany⟩ T.n_TooMany_word hz hf (pv 2)) pa_nil)) pa_nil)))))
        pss_nil)
        (pss_cons (ps_if (pt_cmpR (op_eqDK (K := K) rfl (by have z := hr.units; exact z)) (pv 3) (pe_lst (pa_cons pe_bl (pa_cons pe_bl (pa_cons pe_bl pa_nil)))) (nomark _))
        (pss_one (ps_ret (pe_lst (pa_cons pe_str (pa_cons (pe_callB (call_reprS (by exact hg) (by exact un20 hr)) (by rfl) T.m_repr (by decide +kernel) (pa_cons (pe_xf ⟨T.hg_BadCorrection, T.hk_BadCorrection, T.hs_BadCorrection, T.hd_BadCorrection⟩ T.n_BadCorrection_place hz hf (pv 2)) pa_nil)) pa_nil)))))
        pss_nil)
        (pss_one (ps_ret (pe_lst (pa_cons pe_str pa_nil)))))))))))
      (pss_cons (ps_if (pt_not (pt_val (pe_callB call_isi (by rfl) T.m_isinstance (by decide +kernel) (pa_cons (pv 1) (pa_cons (pe_glob (v := .ref T.C_Errata) (by rfl) T.cg_Errata rfl) pa_nil)))))
      (pss_one (ps_ret (pe_lst (pa_cons pe_str pa_nil))))
      pss_nil)
      (pss_one (ps_ret (pe_lst (pa_cons pe_str (pa_cons (pe_callB (call_reprD (by exact hg) (by exact un20 hr)) (by rfl) T.m_repr (by decide +kernel) (pa_cons (pe_fld (pv 1) rfl) pa_nil)) pa_nil))))))), ?_⟩
    have XL : ExcC K T.C_BadLine := excC_of T.hg_BadLine T.hk_BadLine T.hs_BadLine T.hd_BadLine T.ha_BadLine T.hn_BadLine T.ht_BadLine T.hm_BadLine
    have XT : ExcC K T.C_TooMany := excC_of T.hg_TooMany T.hk_TooMany T.hs_TooMany T.hd_TooMany T.ha_TooMany T.hn_TooMany T.ht_TooMany T.hm_TooMany
    have XC : ExcC K T.C_BadCorrection := excC_of T.hg_BadCorrection T.hk_BadCorrection T.hs_BadCorrection T.hd_BadCorrection T.ha_BadCorrection T.hn_BadCorrection T.ht_BadCorrection T.hm_BadCorrection
    have kd : ∀ {H' : Hp} {M : Addr} (b : Bool × Bool × Bool), H' M = some (.lst [.bl b.1, .bl b.2.1, .bl b.2.2]) → Dp K H' (.ref M) (.list [.bool b.1, .bool b.2.1, .bool b.2.2]) := fun b e => .lst (.inl (.inl e)) (.cons (.bl _) (.cons (.bl _) (.cons (.bl _) .nil)))
    have ksh : ∀ b c d : Bool, SeqAt.shaped (.list [.bool b, .bool c, .bool d]) = true := fun b c d => by cases b <;> cases c <;> cases d <;> decide
    have give : ∀ {H' : Hp} {p : Addr} {zs : List V}, Same H H' → H' p = none → zs = (res xs).map V.str → Q (.ref p) (upd H' p (.lst zs)) := fun s np e => q _ _ (s.trans (same_upd np)) (by rw [← e]; exact upd_same)
    refine ⟨_, rfl, a, xs, rfl, ha, okx, l5, fun i p e0 H1 dd s1 hd => ?_, fun e0 => ⟨fun l H1 dd s1 hd => ?_, fun l => ⟨fun i e1 H1 dd s1 hd => ?_, fun e1 v H1 s1 he => ?_⟩⟩⟩
    · have er : res xs = (["line", shI i, shI p] : List Str) := by unfold res; rw [e0]
      have hi : i ≤ 20000 ∧ p ≤ 20000 := by
        obtain ⟨k, x, rfl, h1, h2, _⟩ := firstFrom_some e0
        have := (List.getElem?_eq_some_iff.mp h1).1
        exact ⟨by omega, badL_le h2⟩
      have si := shI_okN hi.1
      have sp := shI_okN hi.2
      refine ⟨true, T.e_BadLine_AfterError, fun _ a ha => ?_, fun w => nomatch w⟩
      refine ⟨_, rfl, T.C_BadLine, _, _, true, rfl, rfl, XL, relRef, .inr ⟨dd, _, rfl, hd⟩, T.q_BadLine_BadLine, ?_⟩
      refine ⟨_, rfl, T.C_BadLine, _, _, false, rfl, rfl, XL, relRef, .inr ⟨dd, _, rfl, hd⟩, T.q_BadLine_TooMany, ?_⟩
      refine ⟨_, rfl, T.C_BadLine, _, _, false, rfl, rfl, XL, relRef, .inr ⟨dd, _, rfl, hd⟩, T.q_BadLine_BadCorrection, ?_⟩
      refine ⟨by show 3 ≤ sizeLine; decide, fun L nL => ?_⟩
      have sL := same_upd (o := .lst [.bl true, .bl false, .bl false]) nL
      have hL : upd H1 L (.lst [.bl true, .bl false, .bl false]) L = some (.lst [.bl true, .bl false, .bl false]) := upd_same
      generalize upd H1 L (.lst [.bl true, .bl false, .bl false]) = H2 at sL hL ⊢
      have hd2 := sL _ _ hd
      have s2 := s1.trans sL
      refine ⟨_, rfl, T.C_BadLine, _, _, true, rfl, rfl, XL, relTy, .inr ⟨dd, _, rfl, hd2⟩, T.q_BadLine_ValueError, true, rfl, iteF ?_⟩
      refine ⟨_, rfl, T.C_BadLine, _, _, true, rfl, rfl, XL, relRef, .inr ⟨dd, _, rfl, hd2⟩, T.q_BadLine_BadForm, ?_⟩
      refine ⟨_, rfl, T.C_BadLine, _, _, false, rfl, rfl, XL, relRef, .inr ⟨dd, _, rfl, hd2⟩, T.q_BadLine_TooMany, rfl, _, rfl, ite2 (fun e => absurd (of_decide_eq_true e) (by intro z; cases z)) (fun _ => ?_)⟩
      refine ⟨_, rfl, by show 3 ≤ sizeLine; decide, fun M3 nM3 => ?_⟩
      have sM3 := same_upd (o := .lst [.bl true, .bl false, .bl false]) nM3
      have hM3 : upd H2 M3 (.lst [.bl true, .bl false, .bl false]) M3 = some (.lst [.bl true, .bl false, .bl false]) := upd_same
      generalize upd H2 M3 (.lst [.bl true, .bl false, .bl false]) = H3 at sM3 hM3 ⊢
      have hL3 := sM3 _ _ hL
      have hd3 := sM3 _ _ hd2
      have s3 := s2.trans sM3
      refine ⟨_, _, kd (true, false, false) hL3, kd (true, false, false) hM3, ksh _ _ _, ksh _ _ _, _, rfl, iteT ?_⟩
      refine ⟨_, rfl, rfl, rfl, dd, _, .int (i : Int), rfl, hd3, rfl, _, .int (i : Int), rfl, .int _, si.1, si.2.1, si.2.2.1, si.2.2.2, ?_⟩
      refine ⟨_, rfl, rfl, rfl, dd, _, .int (p : Int), rfl, hd3, rfl, _, .int (p : Int), rfl, .int _, sp.1, sp.2.1, sp.2.2.1, sp.2.2.2, ?_⟩
      exact ⟨by show 3 ≤ sizeLine; decide, fun r nr => give s3 nr (by rw [er]; rfl)⟩
    · have er : res xs = (["many", "'correction'"] : List Str) := by
        unfold res
        rw [e0]
        exact if_pos l
      have e2 : (PyData.str "correction").shown = "'correction'" := by decide +kernel
      have ss : (PyData.str "correction").showable = true ∧ (PyData.str "correction").hasDict = false ∧ (PyData.str "correction").depth ≤ 8 ∧ (PyData.str "correction").shown.length ≤ sizeLine := ⟨rfl, rfl, Nat.zero_le _, by rw [e2, sizeLine_eq]; decide +kernel⟩
      refine ⟨true, T.e_TooMany_AfterError, fun _ a ha => ?_, fun w => nomatch w⟩
      refine ⟨_, rfl, T.C_TooMany, _, _, false, rfl, rfl, XT, relRef, .inr ⟨dd, _, rfl, hd⟩, T.q_TooMany_BadLine, ?_⟩
      refine ⟨_, rfl, T.C_TooMany, _, _, true, rfl, rfl, XT, relRef, .inr ⟨dd, _, rfl, hd⟩, T.q_TooMany_TooMany, ?_⟩
      refine ⟨_, rfl, T.C_TooMany, _, _, false, rfl, rfl, XT, relRef, .inr ⟨dd, _, rfl, hd⟩, T.q_TooMany_BadCorrection, ?_⟩
      refine ⟨by show 3 ≤ sizeLine; decide, fun L nL => ?_⟩
      have sL := same_upd (o := .lst [.bl false, .bl true, .bl false]) nL
      have hL : upd H1 L (.lst [.bl false, .bl true, .bl false]) L = some (.lst [.bl false, .bl true, .bl false]) := upd_same
      generalize upd H1 L (.lst [.bl false, .bl true, .bl false]) = H2 at sL hL ⊢
      have hd2 := sL _ _ hd
      have s2 := s1.trans sL
      refine ⟨_, rfl, T.C_TooMany, _, _, true, rfl, rfl, XT, relTy, .inr ⟨dd, _, rfl, hd2⟩, T.q_TooMany_ValueError, true, rfl, iteF ?_⟩
      refine ⟨_, rfl, T.C_TooMany, _, _, false, rfl, rfl, XT, relRef, .inr ⟨dd, _, rfl, hd2⟩, T.q_TooMany_BadForm, ?_⟩
      refine ⟨_, rfl, T.C_TooMany, _, _, true, rfl, rfl, XT, relRef, .inr ⟨dd, _, rfl, hd2⟩, T.q_TooMany_TooMany, rfl, _, rfl, ite2 (fun e => absurd (of_decide_eq_true e) (by intro z; cases z)) (fun _ => ?_)⟩
      refine ⟨_, rfl, by show 3 ≤ sizeLine; decide, fun M3 nM3 => ?_⟩
      have sM3 := same_upd (o := .lst [.bl true, .bl false, .bl false]) nM3
      have hM3 : upd H2 M3 (.lst [.bl true, .bl false, .bl false]) M3 = some (.lst [.bl true, .bl false, .bl false]) := upd_same
      generalize upd H2 M3 (.lst [.bl true, .bl false, .bl false]) = H3 at sM3 hM3 ⊢
      have hL3 := sM3 _ _ hL
      have hd3 := sM3 _ _ hd2
      have s3 := s2.trans sM3
      refine ⟨_, _, kd (false, true, false) hL3, kd (true, false, false) hM3, ksh _ _ _, ksh _ _ _, _, rfl, iteF ?_⟩
      refine ⟨_, rfl, by show 3 ≤ sizeLine; decide, fun M4 nM4 => ?_⟩
      have sM4 := same_upd (o := .lst [.bl false, .bl true, .bl false]) nM4
      have hM4 : upd H3 M4 (.lst [.bl false, .bl true, .bl false]) M4 = some (.lst [.bl false, .bl true, .bl false]) := upd_same
      generalize upd H3 M4 (.lst [.bl false, .bl true, .bl false]) = H4 at sM4 hM4 ⊢
      have hL4 := sM4 _ _ hL3
      have hd4 := sM4 _ _ hd3
      have s4 := s3.trans sM4
      refine ⟨_, _, kd (false, true, false) hL4, kd (false, true, false) hM4, ksh _ _ _, ksh _ _ _, _, rfl, iteT ?_⟩
      refine ⟨_, rfl, rfl, rfl, dd, _, .str "correction", rfl, hd4, rfl, _, .str "correction", rfl, .str _, ss.1, ss.2.1, ss.2.2.1, ss.2.2.2, ?_⟩
      exact ⟨by show 2 ≤ sizeLine; decide, fun r nr => give s4 nr (by rw [er, e2]; rfl)⟩
    · have er : res xs = (["same", shI i] : List Str) := by
        unfold res
        rw [e0]
        have : ¬ 60 < xs.length := by omega
        show (if 60 < xs.length then _ else _) = _
        rw [if_neg this, e1]
      have hi : i ≤ 20000 := by
        obtain ⟨c, hc, _⟩ := same1_some e1
        have := (List.getElem?_eq_some_iff.mp hc).1
        rw [List.length_map] at this
        omega
      have si := shI_okN hi
      refine ⟨true, T.e_BadCorrection_AfterError, fun _ a ha => ?_, fun w => nomatch w⟩
      refine ⟨_, rfl, T.C_BadCorrection, _, _, false, rfl, rfl, XC, relRef, .inr ⟨dd, _, rfl, hd⟩, T.q_BadCorrection_BadLine, ?_⟩
      refine ⟨_, rfl, T.C_BadCorrection, _, _, false, rfl, rfl, XC, relRef, .inr ⟨dd, _, rfl, hd⟩, T.q_BadCorrection_TooMany, ?_⟩
      refine ⟨_, rfl, T.C_BadCorrection, _, _, true, rfl, rfl, XC, relRef, .inr ⟨dd, _, rfl, hd⟩, T.q_BadCorrection_BadCorrection, ?_⟩
      refine ⟨by show 3 ≤ sizeLine; decide, fun L nL => ?_⟩
      have sL := same_upd (o := .lst [.bl false, .bl false, .bl true]) nL
      have hL : upd H1 L (.lst [.bl false, .bl false, .bl true]) L = some (.lst [.bl false, .bl false, .bl true]) := upd_same
      generalize upd H1 L (.lst [.bl false, .bl false, .bl true]) = H2 at sL hL ⊢
      have hd2 := sL _ _ hd
      have s2 := s1.trans sL
      refine ⟨_, rfl, T.C_BadCorrection, _, _, true, rfl, rfl, XC, relTy, .inr ⟨dd, _, rfl, hd2⟩, T.q_BadCorrection_ValueError, true, rfl, iteF ?_⟩
      refine ⟨_, rfl, T.C_BadCorrection, _, _, true, rfl, rfl, XC, relRef, .inr ⟨dd, _, rfl, hd2⟩, T.q_BadCorrection_BadForm, ?_⟩
      refine ⟨_, rfl, T.C_BadCorrection, _, _, false, rfl, rfl, XC, relRef, .inr ⟨dd, _, rfl, hd2⟩, T.q_BadCorrection_TooMany, rfl, _, rfl, ite2 (fun e => absurd (of_decide_eq_true e) (by intro z; cases z)) (fun _ => ?_)⟩
      refine ⟨_, rfl, by show 3 ≤ sizeLine; decide, fun M3 nM3 => ?_⟩
      have sM3 := same_upd (o := .lst [.bl true, .bl false, .bl false]) nM3
      have hM3 : upd H2 M3 (.lst [.bl true, .bl false, .bl false]) M3 = some (.lst [.bl true, .bl false, .bl false]) := upd_same
      generalize upd H2 M3 (.lst [.bl true, .bl false, .bl false]) = H3 at sM3 hM3 ⊢
      have hL3 := sM3 _ _ hL
      have hd3 := sM3 _ _ hd2
      have s3 := s2.trans sM3
      refine ⟨_, _, kd (false, false, true) hL3, kd (true, false, false) hM3, ksh _ _ _, ksh _ _ _, _, rfl, iteF ?_⟩
      refine ⟨_, rfl, by show 3 ≤ sizeLine; decide, fun M4 nM4 => ?_⟩
      have sM4 := same_upd (o := .lst [.bl false, .bl true, .bl false]) nM4
      have hM4 : upd H3 M4 (.lst [.bl false, .bl true, .bl false]) M4 = some (.lst [.bl false, .bl true, .bl false]) := upd_same
      generalize upd H3 M4 (.lst [.bl false, .bl true, .bl false]) = H4 at sM4 hM4 ⊢
      have hL4 := sM4 _ _ hL3
      have hd4 := sM4 _ _ hd3
      have s4 := s3.trans sM4
      refine ⟨_, _, kd (false, false, true) hL4, kd (false, true, false) hM4, ksh _ _ _, ksh _ _ _, _, rfl, iteF ?_⟩
      refine ⟨_, rfl, by show 3 ≤ sizeLine; decide, fun M5 nM5 => ?_⟩
      have sM5 := same_upd (o := .lst [.bl false, .bl false, .bl true]) nM5
      have hM5 : upd H4 M5 (.lst [.bl false, .bl false, .bl true]) M5 = some (.lst [.bl false, .bl false, .bl true]) := upd_same
      generalize upd H4 M5 (.lst [.bl false, .bl false, .bl true]) = H5 at sM5 hM5 ⊢
      have hL5 := sM5 _ _ hL4
      have hd5 := sM5 _ _ hd4
      have s5 := s4.trans sM5
      refine ⟨_, _, kd (false, false, true) hL5, kd (false, false, true) hM5, ksh _ _ _, ksh _ _ _, _, rfl, iteT ?_⟩
      refine ⟨_, rfl, rfl, rfl, dd, _, .int (i : Int), rfl, hd5, rfl, _, .int (i : Int), rfl, .int _, si.1, si.2.1, si.2.2.1, si.2.2.2, ?_⟩
      exact ⟨by show 2 ≤ sizeLine; decide, fun r nr => give s5 nr (by rw [er]; rfl)⟩
    have er : res xs = (["good", (PyData.tuple ((xs.map coV).map dC)).shown] : List Str) := by
      unfold res
      rw [e0]
      have : ¬ 60 < xs.length := by omega
      show (if 60 < xs.length then _ else _) = _
      rw [if_neg this, e1]
    have allg := firstFrom_none' e0
    have nec := same1_none' e1
    have okc : ∀ c ∈ xs.map coV, okC c := fun c hc => by
      obtain ⟨v, hv, rfl⟩ := List.mem_map.mp hc
      exact (okC'_V (okx v hv) (allg v hv)).1.ne (nec _ hc)
    obtain ⟨g1, g2, g3, g4⟩ := shown_Cs okc (by rw [List.length_map]; omega)
    obtain ⟨x, dx, b, t, us, rfl, hx, hb, tu⟩ := id he
    refine ⟨_, rfl, ?_⟩
    refine ⟨_, _, _, _, _, rfl, .own T.C_Errata, .base (.ins hx T.cl_Errata T.ca_Errata T.cn_Errata T.ct_Errata T.cm_Errata), kit_self, true, rfl, iteF ?_⟩
    refine ⟨_, rfl, x, _, dx, _, _, rfl, hx, T.cl_Errata, T.na_Errata_corrections, rfl, ?_⟩
    refine ⟨_, _, rfl, .tup (.inl (.inl hb)) tu.dp, g1, g2, g3, g4, ?_⟩
    exact ⟨by show 2 ≤ sizeLine; decide, fun r nr => give s1 nr (by rw [er]; rfl)⟩
theorem ok_law (T : Tab K mg) : GnOk P w K mg base CX0 12 T.f_law T.d_law ["_law_script"] (sp_law K) := by
  refine gn_ok T.F_law sc_law (fun vs H Q E h => ?_) (fun cdv A outer s H vs Q E hr hg h => ?_)
  · obtain ⟨a, ns, rfl, _⟩ := h
    rfl
  · obtain ⟨a, ns, rfl, hS, hlen, q⟩ := h
    refine ⟨_, (pss_cons (ps_set (i := 1) sc_law.nd rfl (.inl rfl) (pe_call (ok_source T) (hr.mono (by decide)) (by rfl) T.g_source T.F_source.kp T.b_source .nil pass0 (pa_cons (pv 0) (pa_cons pe_int pa_nil))))
      (pss_cons (ps_set (i := 2) sc_law.nd rfl (.inl rfl) (pe_call (ok_pick T) (hr.mono (by decide)) (by rfl) T.g_pick T.F_pick.kp T.b_pick .nil pass0 (pa_cons (pv 1) (pa_cons pe_int pa_nil))))
      (C8.pss_cut (ps_if (pt_cmpR op_eq (pe_call (ok_pick T) (hr.mono (by decide)) (by rfl) T.g_pick T.F_pick.kp T.b_pick .nil pass0 (pa_cons (pv 1) (pa_cons pe_int pa_nil))) pe_int (nomark _))
      (pss_one (ps_set (i := 2) sc_law.nd rfl (.inl rfl) (pe_op op_add pe_int (pe_call (ok_pick T) (hr.mono (by decide)) (by rfl) T.g_pick T.F_pick.kp T.b_pick .nil pass0 (pa_cons (pv 1) (pa_cons pe_int pa_nil))))))
      pss_nil)
      (pss_cons (ps_setLc (i := 3) (own := [("_law_k", 8)]) (g := gName 8) (by rfl) sc_law.nd rfl rfl (sw_true rfl rfl rfl (by decide +kernel)) (pi_range1 (by rfl) T.m_range (pa_cons (pv 2) pa_nil)) (blkOk_by (own := [("_law_k", 8)]) (N := N_law) (sc := defScope s_law) (by decide +kernel)) (fun _ _ _ _ _ => pg_name (i := 8) sc_law.nd rfl (.inl rfl)) (fun _ _ _ _ _ => pts_nil) (fun _ _ _ _ _ => (pe_call (ok_line T) (hr.mono (by decide)) (by rfl) T.g_line T.F_line.kp T.b_line .nil pass0 (pa_cons (pe_call (ok_source T) (hr.mono (by decide)) (by rfl) T.g_source T.F_source.kp T.b_source .nil pass0 (pa_cons (pv 0) (pa_cons (pe_op op_add (pv 8) pe_int) pa_nil))) pa_nil))))
      (pss_cons (ps_set (i := 4) sc_law.nd rfl (.inl rfl) (pe_call (ok_source T) (hr.mono (by decide)) (by rfl) T.g_source T.F_source.kp T.b_source .nil pass0 (pa_cons (pv 0) (pa_cons pe_int pa_nil))))
      (pss_cons (ps_set (i := 5) sc_law.nd rfl (.inl rfl) (pe_callTy call_list_of (by rfl) T.m_list (by decide +kernel) (pa_cons (pv 3) pa_nil)))
      (pss_cons (ps_for PassesOwn.never rfl (pi_range1 (by rfl) T.m_range (pa_cons (pe_call (ok_pick T) (hr.mono (by decide)) (by rfl) T.g_pick T.F_pick.kp T.b_pick .nil pass0 (pa_cons (pv 4) (pa_cons pe_int pa_nil))) pa_nil)) (pg_name (i := 6) sc_law.nd rfl (.inl rfl))
      (pss_one (ps_if (pt_truth (pv 5) (fun _ => rfl))
        (pss_one (ps_set (i := 5) sc_law.nd rfl (.inl rfl) (pe_call (ok_spoilt T) (hr.mono (by decide)) (by rfl) T.g_spoilt T.F_spoilt.kp T.b_spoilt .nil pass0 (pa_cons (pv 4) (pa_cons (pv 5) pa_nil)))))
        pss_nil)))
      (pss_cons (ps_set (i := 7) sc_law.nd rfl (.inl rfl) (pe_callTy call_list_of (by rfl) T.m_list (by decide +kernel) (pa_cons (pv 5) pa_nil)))
      (pss_cons (ps_if (PW.pt (pw_or (pt_cmpR (op_neS hr.units) (pe_callG (ok_told T) (hr.mono (by decide)) hg (by rfl) T.g_told T.F_told.kp T.b_told pass0 (pa_cons (pv 7) pa_nil)) (pe_callG (ok_due T) (hr.mono (by decide)) hg (by rfl) T.g_due T.F_due.kp T.b_due pass0 (pa_cons (pv 5) pa_nil)) (nomark _)) (pw_or1 (pt_cmpR op_ne (pe_callB (call_reprD (by exact hg) (by exact un20 hr)) (by rfl) T.m_repr (by decide +kernel) (pa_cons (pv 7) pa_nil)) (pe_callB (call_reprD (by exact hg) (by exact un20 hr)) (by rfl) T.m_repr (by decide +kernel) (pa_cons (pv 5) pa_nil)) (nomark _)))))
      (pss_one (ps_ret pe_bl))
      pss_nil)
      (pss_cons (ps_if (pt_cmpR (op_neS hr.units) (pe_callG (ok_told T) (hr.mono (by decide)) hg (by rfl) T.g_told T.F_told.kp T.b_told pass0 (pa_cons (pe_callTy call_tuple_of (by rfl) T.m_tuple (by decide +kernel) (pa_cons (pv 5) pa_nil)) pa_nil)) (pe_callG (ok_due T) (hr.mono (by decide)) hg (by rfl) T.g_due T.F_due.kp T.b_due pass0 (pa_cons (pv 5) pa_nil)) (nomark _))
      (pss_one (ps_ret pe_bl))
      pss_nil)
      (pss_one (ps_ret (pe_cmpR (op_eqV hr.units) (pe_callG (ok_told T) (hr.mono (by decide)) hg (by rfl) T.g_told T.F_told.kp T.b_told pass0 (pa_cons (pv 3) pa_nil)) (pe_callG (ok_due T) (hr.mono (by decide)) hg (by rfl) T.g_due T.F_due.kp T.b_due pass0 (pa_cons (pv 3) pa_nil)) (nomark _)))))))))))))), ?_⟩
    refine ⟨_, rfl, a, ns, 0, rfl, hS, fun p0 H1 s1 n0 src => ?_⟩
    refine ⟨_, rfl, p0, 6, rfl, src, by decide, by decide, fun m H2 src2 b2 m0 m7 => ?_⟩
    refine ⟨fun σ' H' => ∃ k : Int, σ' = [some (.ref a), some (.ref p0), some (.int k), none, none, none, none, none, none] ∧ Same H H' ∧ 0 ≤ k ∧ k ≤ 62, ?_, ?_⟩
    · refine ⟨_, rfl, p0, 8, rfl, src2, by decide, by decide, fun r H3 src3 b3 r0 r1 => ⟨rfl, _, rfl, ite2 (fun e => ?_) (fun e => ?_)⟩⟩
      · refine ⟨_, rfl, p0, 6, rfl, src3, by decide, by decide, fun u H4 src4 b4 u0 u1 => ⟨_, _, rfl, rfl, ?_⟩⟩
        exact ⟨_, rfl, ((b2.trans b3).trans b4).same n0 s1, by omega, by omega⟩
      · exact ⟨m, rfl, (b2.trans b3).same n0 s1, by omega, by omega⟩
    rintro σ' H4 ⟨k, rfl, s4, k0, k62⟩
    refine ⟨_, rfl, _, rfl, by omega, by omega, fun D nD => ?_⟩
    refine lc_range (lo := 0) (n := k.toNat) (fun j H' => Same H4 H' ∧ ∃ us, H' D = some (.lst us) ∧ us.length = j ∧ LsOk 80 us) ⟨same_upd nD, [], upd_same, rfl, fun _ h => nomatch h⟩ ?_ ?_
    · rintro j H5 hj ⟨s5, us, eD, lu, ok⟩
      refine ⟨rfl, ?_⟩
      refine ⟨_, rfl, _, rfl, _, _, rfl, rfl, a, ns, j + 2, by rw [Int.zero_add]; rfl, (s4.trans s5).seq hS, fun pk H6 s6 n6 src6 => ?_⟩
      refine ⟨pk, rfl, src6, fun z H7 src7 b7 lz az => ?_⟩
      have s57 : Same H5 H7 := b7.same n6 s6
      have eD7 := s57 _ _ eD
      refine ⟨us, eD7, smallM (by omega), same_put (s5.trans s57) nD _, us ++ [.str z], upd_same, by rw [List.length_append, lu]; rfl, fun x hx => ?_⟩
      rcases List.mem_append.mp hx with h | h
      · exact ok x h
      · rw [List.mem_singleton.mp h]
        exact .inr (.inr (.inr ⟨z, rfl, lz, az⟩))
    rintro H5 ⟨s5, gs, eD, lg, okg⟩
    have s05 := s4.trans s5
    refine ⟨_, rfl, a, ns, 1, rfl, s05.seq hS, fun p1 H6 s6 n1 src6 => ?_⟩
    have eD6 := s6 _ _ eD
    have Dp1 : D ≠ p1 := fun z => by rw [z, n1] at eD; cases eD
    refine ⟨_, rfl, D, _, rfl, .inl (.inl (.inl eD6)), fun F nF => ?_⟩
    have Fp1 : F ≠ p1 := (src6.ne nF).symm
    have s7 := same_upd (o := .lst gs) nF
    have eF : upd H6 F (.lst gs) F = some (.lst gs) := upd_same
    have src7 := srcS s7 src6
    generalize upd H6 F (.lst gs) = H7 at s7 eF src7 ⊢
    have eD7 := s7 _ _ eD6
    refine ⟨_, rfl, p1, 4, rfl, src7, by decide, by decide, fun t H8 src8 b8 t0 t1 => ?_⟩
    have D8 := b8 _ _ Dp1 eD7
    have F8 := b8 _ _ Fp1 eF
    refine ⟨_, rfl, by omega, by omega, for_range (lo := 0) (n := t.toNat) (fun j σ' H' => ∃ (L : Addr) (ls : List V) (y6 : Option V), σ' = [some (.ref a), some (.ref p0), some (.int k), some (.ref D), some (.ref p1), some (.ref L), y6, none, none] ∧ Src H' p1 ∧ H' D = some (.lst gs) ∧ L ≠ p1 ∧ H' L = some (.lst ls) ∧ ls.length ≤ 62 + j ∧ LsOk (bB j) ls) ⟨F, gs, _, rfl, src8, D8, Fp1, F8, by omega, okg⟩ ?_ ?_⟩
    · rintro j σ' H9 hj ⟨L, ls, y6, rfl, src9, D9, Lp, L9, ll, okl⟩
      have hj3 : j < 3 := by omega
      have b24 : bB j ≤ 2400 := by
        rcases (show j = 0 ∨ j = 1 ∨ j = 2 by omega) with rfl | rfl | rfl <;> decide
      refine ⟨_, rfl, _, .inl ⟨_, .inl (.inl L9), rfl⟩, ?_⟩
      cases ls with
      | nil =>
        refine iteF ⟨L, [], _, rfl, src9, D9, Lp, L9, Nat.zero_le _, fun _ h => nomatch h⟩
      | cons x r =>
        refine iteT ⟨_, rfl, _, rfl, p1, L, x :: r, bB j, rfl, src9, Lp, L9, List.cons_ne_nil _ _, by omega, b24, okl, fun p ys H10 src10 b10 hp pn lys oys => ?_⟩
        exact ⟨p, ys, _, rfl, src10, b10 _ _ Dp1 D9, pn, hp, by omega, oys⟩
    rintro σ' H9 ⟨L, ls, y6, rfl, src9, D9, Lp, L9, ll, okl⟩
    have ln : ∀ {xs : List V} {B : Nat}, LsOk B xs → B ≤ 12000 → ∀ x ∈ xs, LnOk x := fun h l x hx => by
      rcases h x hx with h | h | h | ⟨z, h, hl, a⟩
      · exact .inl h
      · exact .inr (.inl h)
      · exact .inr (.inr (.inl h))
      · exact .inr (.inr (.inr ⟨z, h, Nat.le_trans hl l, a⟩))
    have bt : bB t.toNat ≤ 12000 := by
      rcases (show t.toNat = 0 ∨ t.toNat = 1 ∨ t.toNat = 2 ∨ t.toNat = 3 by omega) with h | h | h | h <;> rw [h] <;> decide
    have okn := ln okl bt
    have okg' := ln okg (by decide)
    have flat : ∀ (zs : List Str), ∀ z ∈ zs.map V.str, flatB z = true := fun zs z hz => by
      obtain ⟨y, _, rfl⟩ := List.mem_map.mp hz
      rfl
    obtain ⟨g1, g2, g3, g4⟩ := shown_lines okn (by omega)
    have dl : ∀ {Hz : Hp} {m : Addr}, Hz m = some (.lst ls) → Dp K Hz (.ref m) (.list (ls.map dV)) := fun e => .lst (.inl (.inl e)) (LnOk.all okn)
    refine ⟨_, rfl, L, _, rfl, .inl (.inl (.inl L9)), fun M nM => ?_⟩
    have sM := same_upd (o := .lst ls) nM
    have eM : upd H9 M (.lst ls) M = some (.lst ls) := upd_same
    generalize upd H9 M (.lst ls) = H10 at sM eM ⊢
    have L10 := sM _ _ L9
    have D10 := sM _ _ D9
    refine ⟨_, rfl, M, ls, rfl, .inl (.inl (.inl eM)), okn, by omega, fun p H11 s11 hp => ?_⟩
    refine ⟨_, rfl, L, ls, rfl, s11 _ _ L10, okn, by omega, fun p2 H12 s12 hp2 => ?_⟩
    refine ⟨p, p2, _, rfl, rfl, s12 _ _ hp, hp2, flat _, _, rfl, iteF ?_⟩
    have sA := s11.trans s12
    refine ⟨_, rfl, _, _, rfl, dl (sA _ _ eM), g1, g2, g3, g4, _, rfl, _, _, rfl, dl (sA _ _ L10), g1, g2, g3, g4, rfl, _, rfl, ite2 (fun e => by simp at e) (fun _ => ?_)⟩
    have L12 := sA _ _ L10
    refine ⟨_, rfl, L, _, rfl, .inl ⟨.inl (.inl L12), fun U nU => ?_⟩⟩
    have sU := same_upd (o := .tup ls) nU
    have eU : upd H12 U (.tup ls) U = some (.tup ls) := upd_same
    generalize upd H12 U (.tup ls) = H13 at sU eU ⊢
    refine ⟨U, ls, rfl, .inr (.inl (.inl eU)), okn, by omega, fun p3 H14 s14 hp3 => ?_⟩
    have L14 := s14 _ _ (sU _ _ L12)
    refine ⟨_, rfl, L, ls, rfl, L14, okn, by omega, fun p4 H15 s15 hp4 => ?_⟩
    refine ⟨p3, p4, _, rfl, rfl, s15 _ _ hp3, hp4, flat _, _, rfl, iteF ?_⟩
    have D15 := s15 _ _ (s14 _ _ (sU _ _ (sA _ _ D10)))
    refine ⟨_, rfl, D, gs, rfl, .inl (.inl (.inl D15)), okg', by omega, fun p5 H16 s16 hp5 => ?_⟩
    refine ⟨_, rfl, D, gs, rfl, s16 _ _ D15, okg', by omega, fun p6 H17 s17 hp6 => ?_⟩
    exact ⟨1, by decide, .inl ⟨p5, p6, _, _, rfl, rfl, .inl (.inl (s17 _ _ hp5)), .inl (.inl hp6), eq_strs _⟩, q _⟩
end
theorem all_mk {l : PySem.W.OpenLaw} {w : World} {K : PySem.W.Frag} {h : Heap} {mg : Str → Option Value} {fa f0 f1 f2 f3 f4 f5 f6 f7 f8 f9 f10 f11 f12 f13 f14 f15 f16 f17 f18 f19 f20 f21 f22 f23 f24 f25 f26 f27 f28 f29 f30 f31 f32 f33 f34 f35 f36 f37 f38 f39 f40 f41 f42 f43 f44 f45 C_AfterError C_BadForm C_BadLine C_BadErrata C_BadCorrection C_TooMany C_Cursor C_Errata : Addr} (X : K.In h) (G : h.Ns mainGlobals mg) (hfa : mg "law" = some (.ref fa))
    {od0 an0 od1 an1 od2 an2 od3 an3 od4 an4 od5 an5 od6 an6 od7 an7 od8 an8 od9 an9 od10 an10 od11 an11 od12 an12 od13 an13 od14 an14 od15 an15 od16 an16 od17 an17 od18 an18 od19 an19 od20 an20 od21 an21 od22 an22 od23 an23 od24 an24 od25 an25 od26 an26 od27 an27 od28 an28 od29 an29 od30 an30 od31 an31 od32 an32 od33 an33 od34 an34 od35 an35 od36 an36 od37 an37 od38 an38 od39 an39 od40 an40 od41 an41 od42 an42 od43 an43 od44 an44 od45 an45 : Option Addr} {sl0 sl1 sl2 sl3 sl4 sl5 sl6 sl7 sl8 sl9 sl10 sl11 sl12 sl13 sl14 sl15 sl16 sl17 sl18 sl19 sl20 sl21 sl22 sl23 sl24 sl25 sl26 sl27 sl28 sl29 sl30 sl31 sl32 sl33 sl34 sl35 sl36 sl37 sl38 sl39 sl40 sl41 sl42 sl43 sl44 sl45 : Array (Option Value)} {oc0 kV0 dc0 pm0 cd0 ct0 oc1 kV1 dc1 pm1 cd1 ct1 oc2 kV2 dc2 pm2 cd2 ct2 oc3 kV3 dc3 pm3 cd3 ct3 oc4 kV4 dc4 pm4 cd4 ct4 oc5 kV5 dc5 pm5 cd5 ct5 oc6 kV6 dc6 pm6 cd6 ct6 oc7 kV7 dc7 pm7 cd7 ct7 oc8 kV8 dc8 pm8 cd8 ct8 oc9 kV9 dc9 pm9 cd9 ct9 oc10 kV10 dc10 pm10 cd10 ct10 oc11 kV11 dc11 pm11 cd11 ct11 oc12 kV12 dc12 pm12 cd12 ct12 oc13 kV13 dc13 pm13 cd13 ct13 oc14 kV14 dc14 pm14 cd14 ct14 oc15 kV15 dc15 pm15 cd15 ct15 oc16 kV16 dc16 pm16 cd16 ct16 oc17 kV17 dc17 pm17 cd17 ct17 oc18 kV18 dc18 pm18 cd18 ct18 oc19 kV19 dc19 pm19 cd19 ct19 oc20 kV20 dc20 pm20 cd20 ct20 oc21 kV21 dc21 pm21 cd21 ct21 oc22 kV22 dc22 pm22 cd22 ct22 oc23 kV23 dc23 pm23 cd23 ct23 oc24 kV24 dc24 pm24 cd24 ct24 oc25 kV25 dc25 pm25 cd25 ct25 oc26 kV26 dc26 pm26 cd26 ct26 oc27 kV27 dc27 pm27 cd27 ct27 oc28 kV28 dc28 pm28 cd28 ct28 oc29 kV29 dc29 pm29 cd29 ct29 oc30 kV30 dc30 pm30 cd30 ct30 oc31 kV31 dc31 pm31 cd31 ct31 oc32 kV32 dc32 pm32 cd32 ct32 oc33 kV33 dc33 pm33 cd33 ct33 oc34 kV34 dc34 pm34 cd34 ct34 oc35 kV35 dc35 pm35 cd35 ct35 oc36 kV36 dc36 pm36 cd36 ct36 oc37 kV37 dc37 pm37 cd37 ct37 oc38 kV38 dc38 pm38 cd38 ct38 oc39 kV39 dc39 pm39 cd39 ct39 oc40 kV40 dc40 pm40 cd40 ct40 oc41 kV41 dc41 pm41 cd41 ct41 oc42 kV42 dc42 pm42 cd42 ct42 oc43 kV43 dc43 pm43 cd43 ct43 oc44 kV44 dc44 pm44 cd44 ct44 oc45 kV45 dc45 pm45 cd45 ct45 : Value}
    (a0 : PySem.W.findIn K (.ref C_BadLine) "__init__" = some (some (.ref f0))) (l0 : K.lookup f0 = some ⟨oc0, od0, .func (PySem.W.fnOf "__init__" "BadLine.__init__" (defArgs s_BadLine_init) (defBody s_BadLine_init) (defScope s_BadLine_init) .none kV0 dc0 pm0 an0 cd0 ct0), sl0⟩) (c0 : PySem.W.codeIn K cd0 "BadLine.__init__" = true) (k0 : PySem.W.keepIn K (.ref f0) = true)
    (a1 : PySem.W.findIn K (.ref C_BadCorrection) "__init__" = some (some (.ref f1))) (l1 : K.lookup f1 = some ⟨oc1, od1, .func (PySem.W.fnOf "__init__" "BadCorrection.__init__" (defArgs s_BadCorrection_init) (defBody s_BadCorrection_init) (defScope s_BadCorrection_init) .none kV1 dc1 pm1 an1 cd1 ct1), sl1⟩) (c1 : PySem.W.codeIn K cd1 "BadCorrection.__init__" = true) (k1 : PySem.W.keepIn K (.ref f1) = true)
    (a2 : PySem.W.findIn K (.ref C_TooMany) "__init__" = some (some (.ref f2))) (l2 : K.lookup f2 = some ⟨oc2, od2, .func (PySem.W.fnOf "__init__" "TooMany.__init__" (defArgs s_TooMany_init) (defBody s_TooMany_init) (defScope s_TooMany_init) .none kV2 dc2 pm2 an2 cd2 ct2), sl2⟩) (c2 : PySem.W.codeIn K cd2 "TooMany.__init__" = true) (k2 : PySem.W.keepIn K (.ref f2) = true)
    (a3 : PySem.W.nsIn K mainGlobals "is_integer" = some (some (.ref f3))) (l3 : K.lookup f3 = some ⟨oc3, od3, .func (PySem.W.fnOf "is_integer" "is_integer" (defArgs s_is_integer) (defBody s_is_integer) (defScope s_is_integer) .none kV3 dc3 pm3 an3 cd3 ct3), sl3⟩) (c3 : PySem.W.codeIn K cd3 "is_integer" = true) (k3 : PySem.W.keepIn K (.ref f3) = true)
    (a4 : PySem.W.nsIn K mainGlobals "is_within" = some (some (.ref f4))) (l4 : K.lookup f4 = some ⟨oc4, od4, .func (PySem.W.fnOf "is_within" "is_within" (defArgs s_is_within) (defBody s_is_within) (defScope s_is_within) .none kV4 dc4 pm4 an4 cd4 ct4), sl4⟩) (c4 : PySem.W.codeIn K cd4 "is_within" = true) (k4 : PySem.W.keepIn K (.ref f4) = true)
    (a5 : PySem.W.nsIn K mainGlobals "is_tuple" = some (some (.ref f5))) (l5 : K.lookup f5 = some ⟨oc5, od5, .func (PySem.W.fnOf "is_tuple" "is_tuple" (defArgs s_is_tuple) (defBody s_is_tuple) (defScope s_is_tuple) .none kV5 dc5 pm5 an5 cd5 ct5), sl5⟩) (c5 : PySem.W.codeIn K cd5 "is_tuple" = true) (k5 : PySem.W.keepIn K (.ref f5) = true)
    (a6 : PySem.W.nsIn K mainGlobals "is_sized" = some (some (.ref f6))) (l6 : K.lookup f6 = some ⟨oc6, od6, .func (PySem.W.fnOf "is_sized" "is_sized" (defArgs s_is_sized) (defBody s_is_sized) (defScope s_is_sized) .none kV6 dc6 pm6 an6 cd6 ct6), sl6⟩) (c6 : PySem.W.codeIn K cd6 "is_sized" = true) (k6 : PySem.W.keepIn K (.ref f6) = true)
    (a7 : PySem.W.nsIn K mainGlobals "read_integer" = some (some (.ref f7))) (l7 : K.lookup f7 = some ⟨oc7, od7, .func (PySem.W.fnOf "read_integer" "read_integer" (defArgs s_read_integer) (defBody s_read_integer) (defScope s_read_integer) .none kV7 dc7 pm7 an7 cd7 ct7), sl7⟩) (c7 : PySem.W.codeIn K cd7 "read_integer" = true) (k7 : PySem.W.keepIn K (.ref f7) = true)
    (a8 : PySem.W.nsIn K mainGlobals "kept_label" = some (some (.ref f8))) (l8 : K.lookup f8 = some ⟨oc8, od8, .func (PySem.W.fnOf "kept_label" "kept_label" (defArgs s_kept_label) (defBody s_kept_label) (defScope s_kept_label) .none kV8 dc8 pm8 an8 cd8 ct8), sl8⟩) (c8 : PySem.W.codeIn K cd8 "kept_label" = true) (k8 : PySem.W.keepIn K (.ref f8) = true)
    (a9 : PySem.W.nsIn K mainGlobals "kept_page" = some (some (.ref f9))) (l9 : K.lookup f9 = some ⟨oc9, od9, .func (PySem.W.fnOf "kept_page" "kept_page" (defArgs s_kept_page) (defBody s_kept_page) (defScope s_kept_page) .none kV9 dc9 pm9 an9 cd9 ct9), sl9⟩) (c9 : PySem.W.codeIn K cd9 "kept_page" = true) (k9 : PySem.W.keepIn K (.ref f9) = true)
    (a10 : PySem.W.nsIn K mainGlobals "read_label" = some (some (.ref f10))) (l10 : K.lookup f10 = some ⟨oc10, od10, .func (PySem.W.fnOf "read_label" "read_label" (defArgs s_read_label) (defBody s_read_label) (defScope s_read_label) .none kV10 dc10 pm10 an10 cd10 ct10), sl10⟩) (c10 : PySem.W.codeIn K cd10 "read_label" = true) (k10 : PySem.W.keepIn K (.ref f10) = true)
    (a11 : PySem.W.nsIn K mainGlobals "read_page" = some (some (.ref f11))) (l11 : K.lookup f11 = some ⟨oc11, od11, .func (PySem.W.fnOf "read_page" "read_page" (defArgs s_read_page) (defBody s_read_page) (defScope s_read_page) .none kV11 dc11 pm11 an11 cd11 ct11), sl11⟩) (c11 : PySem.W.codeIn K cd11 "read_page" = true) (k11 : PySem.W.keepIn K (.ref f11) = true)
    (a12 : PySem.W.nsIn K mainGlobals "line_words" = some (some (.ref f12))) (l12 : K.lookup f12 = some ⟨oc12, od12, .func (PySem.W.fnOf "line_words" "line_words" (defArgs s_line_words) (defBody s_line_words) (defScope s_line_words) .none kV12 dc12 pm12 an12 cd12 ct12), sl12⟩) (c12 : PySem.W.codeIn K cd12 "line_words" = true) (k12 : PySem.W.keepIn K (.ref f12) = true)
    (a13 : PySem.W.findIn K (.ref C_Cursor) "__init__" = some (some (.ref f13))) (l13 : K.lookup f13 = some ⟨oc13, od13, .func (PySem.W.fnOf "__init__" "Cursor.__init__" (defArgs s_Cursor_init) (defBody s_Cursor_init) (defScope s_Cursor_init) .none kV13 dc13 pm13 an13 cd13 ct13), sl13⟩) (c13 : PySem.W.codeIn K cd13 "Cursor.__init__" = true) (k13 : PySem.W.keepIn K (.ref f13) = true)
    (a14 : PySem.W.findIn K (.ref C_Cursor) "more" = some (some (.ref f14))) (l14 : K.lookup f14 = some ⟨oc14, od14, .func (PySem.W.fnOf "more" "Cursor.more" (defArgs s_Cursor_more) (defBody s_Cursor_more) (defScope s_Cursor_more) .none kV14 dc14 pm14 an14 cd14 ct14), sl14⟩) (c14 : PySem.W.codeIn K cd14 "Cursor.more" = true) (k14 : PySem.W.keepIn K (.ref f14) = true)
    (a15 : PySem.W.findIn K (.ref C_Cursor) "look" = some (some (.ref f15))) (l15 : K.lookup f15 = some ⟨oc15, od15, .func (PySem.W.fnOf "look" "Cursor.look" (defArgs s_Cursor_look) (defBody s_Cursor_look) (defScope s_Cursor_look) .none kV15 dc15 pm15 an15 cd15 ct15), sl15⟩) (c15 : PySem.W.codeIn K cd15 "Cursor.look" = true) (k15 : PySem.W.keepIn K (.ref f15) = true)
    (a16 : PySem.W.findIn K (.ref C_Cursor) "take" = some (some (.ref f16))) (l16 : K.lookup f16 = some ⟨oc16, od16, .func (PySem.W.fnOf "take" "Cursor.take" (defArgs s_Cursor_take) (defBody s_Cursor_take) (defScope s_Cursor_take) .none kV16 dc16 pm16 an16 cd16 ct16), sl16⟩) (c16 : PySem.W.codeIn K cd16 "Cursor.take" = true) (k16 : PySem.W.keepIn K (.ref f16) = true)
    (a17 : PySem.W.findIn K (.ref C_Cursor) "take_one" = some (some (.ref f17))) (l17 : K.lookup f17 = some ⟨oc17, od17, .func (PySem.W.fnOf "take_one" "Cursor.take_one" (defArgs s_Cursor_take_one) (defBody s_Cursor_take_one) (defScope s_Cursor_take_one) .none kV17 dc17 pm17 an17 cd17 ct17), sl17⟩) (c17 : PySem.W.codeIn K cd17 "Cursor.take_one" = true) (k17 : PySem.W.keepIn K (.ref f17) = true)
    (a18 : PySem.W.findIn K (.ref C_Cursor) "take_integer" = some (some (.ref f18))) (l18 : K.lookup f18 = some ⟨oc18, od18, .func (PySem.W.fnOf "take_integer" "Cursor.take_integer" (defArgs s_Cursor_take_integer) (defBody s_Cursor_take_integer) (defScope s_Cursor_take_integer) .none kV18 dc18 pm18 an18 cd18 ct18), sl18⟩) (c18 : PySem.W.codeIn K cd18 "Cursor.take_integer" = true) (k18 : PySem.W.keepIn K (.ref f18) = true)
    (a19 : PySem.W.findIn K (.ref C_Cursor) "take_end" = some (some (.ref f19))) (l19 : K.lookup f19 = some ⟨oc19, od19, .func (PySem.W.fnOf "take_end" "Cursor.take_end" (defArgs s_Cursor_take_end) (defBody s_Cursor_take_end) (defScope s_Cursor_take_end) .none kV19 dc19 pm19 an19 cd19 ct19), sl19⟩) (c19 : PySem.W.codeIn K cd19 "Cursor.take_end" = true) (k19 : PySem.W.keepIn K (.ref f19) = true)
    (a20 : PySem.W.nsIn K mainGlobals "is_token" = some (some (.ref f20))) (l20 : K.lookup f20 = some ⟨oc20, od20, .func (PySem.W.fnOf "is_token" "is_token" (defArgs s_is_token) (defBody s_is_token) (defScope s_is_token) .none kV20 dc20 pm20 an20 cd20 ct20), sl20⟩) (c20 : PySem.W.codeIn K cd20 "is_token" = true) (k20 : PySem.W.keepIn K (.ref f20) = true)
    (a21 : PySem.W.findIn K (.ref C_Errata) "__init__" = some (some (.ref f21))) (l21 : K.lookup f21 = some ⟨oc21, od21, .func (PySem.W.fnOf "__init__" "Errata.__init__" (defArgs s_Errata_init) (defBody s_Errata_init) (defScope s_Errata_init) .none kV21 dc21 pm21 an21 cd21 ct21), sl21⟩) (c21 : PySem.W.codeIn K cd21 "Errata.__init__" = true) (k21 : PySem.W.keepIn K (.ref f21) = true)
    (a22 : PySem.W.nsIn K mainGlobals "_turns_at_places" = some (some (.ref f22))) (l22 : K.lookup f22 = some ⟨oc22, od22, .func (PySem.W.fnOf "_turns_at_places" "_turns_at_places" (defArgs s_turns_at_places) (defBody s_turns_at_places) (defScope s_turns_at_places) .none kV22 dc22 pm22 an22 cd22 ct22), sl22⟩) (c22 : PySem.W.codeIn K cd22 "_turns_at_places" = true) (k22 : PySem.W.keepIn K (.ref f22) = true)
    (a23 : PySem.W.nsIn K mainGlobals "_judged_corrections" = some (some (.ref f23))) (l23 : K.lookup f23 = some ⟨oc23, od23, .func (PySem.W.fnOf "_judged_corrections" "_judged_corrections" (defArgs s_judged_corrections) (defBody s_judged_corrections) (defScope s_judged_corrections) .none kV23 dc23 pm23 an23 cd23 ct23), sl23⟩) (c23 : PySem.W.codeIn K cd23 "_judged_corrections" = true) (k23 : PySem.W.keepIn K (.ref f23) = true)
    (a24 : PySem.W.nsIn K mainGlobals "_kept_correction" = some (some (.ref f24))) (l24 : K.lookup f24 = some ⟨oc24, od24, .func (PySem.W.fnOf "_kept_correction" "_kept_correction" (defArgs s_kept_correction) (defBody s_kept_correction) (defScope s_kept_correction) .none kV24 dc24 pm24 an24 cd24 ct24), sl24⟩) (c24 : PySem.W.codeIn K cd24 "_kept_correction" = true) (k24 : PySem.W.keepIn K (.ref f24) = true)
    (a25 : PySem.W.nsIn K mainGlobals "read_errata" = some (some (.ref f25))) (l25 : K.lookup f25 = some ⟨oc25, od25, .func (PySem.W.fnOf "read_errata" "read_errata" (defArgs s_read_errata) (defBody s_read_errata) (defScope s_read_errata) .none kV25 dc25 pm25 an25 cd25 ct25), sl25⟩) (c25 : PySem.W.codeIn K cd25 "read_errata" = true) (k25 : PySem.W.keepIn K (.ref f25) = true)
    (a26 : PySem.W.nsIn K mainGlobals "_read_correction" = some (some (.ref f26))) (l26 : K.lookup f26 = some ⟨oc26, od26, .func (PySem.W.fnOf "_read_correction" "_read_correction" (defArgs s_read_correction) (defBody s_read_correction) (defScope s_read_correction) .none kV26 dc26 pm26 an26 cd26 ct26), sl26⟩) (c26 : PySem.W.codeIn K cd26 "_read_correction" = true) (k26 : PySem.W.keepIn K (.ref f26) = true)
    (a27 : PySem.W.nsIn K mainGlobals "_take_token" = some (some (.ref f27))) (l27 : K.lookup f27 = some ⟨oc27, od27, .func (PySem.W.fnOf "_take_token" "_take_token" (defArgs s_take_token) (defBody s_take_token) (defScope s_take_token) .none kV27 dc27 pm27 an27 cd27 ct27), sl27⟩) (c27 : PySem.W.codeIn K cd27 "_take_token" = true) (k27 : PySem.W.keepIn K (.ref f27) = true)
    (a28 : PySem.W.nsIn K mainGlobals "_law_source" = some (some (.ref f28))) (l28 : K.lookup f28 = some ⟨oc28, od28, .func (PySem.W.fnOf "_law_source" "_law_source" (defArgs s_source) (defBody s_source) (defScope s_source) .none kV28 dc28 pm28 an28 cd28 ct28), sl28⟩) (c28 : PySem.W.codeIn K cd28 "_law_source" = true) (k28 : PySem.W.keepIn K (.ref f28) = true)
    (a29 : PySem.W.nsIn K mainGlobals "_law_pick" = some (some (.ref f29))) (l29 : K.lookup f29 = some ⟨oc29, od29, .func (PySem.W.fnOf "_law_pick" "_law_pick" (defArgs s_pick) (defBody s_pick) (defScope s_pick) .none kV29 dc29 pm29 an29 cd29 ct29), sl29⟩) (c29 : PySem.W.codeIn K cd29 "_law_pick" = true) (k29 : PySem.W.keepIn K (.ref f29) = true)
    (a30 : PySem.W.nsIn K mainGlobals "_law_label_word" = some (some (.ref f30))) (l30 : K.lookup f30 = some ⟨oc30, od30, .func (PySem.W.fnOf "_law_label_word" "_law_label_word" (defArgs s_label_word) (defBody s_label_word) (defScope s_label_word) .none kV30 dc30 pm30 an30 cd30 ct30), sl30⟩) (c30 : PySem.W.codeIn K cd30 "_law_label_word" = true) (k30 : PySem.W.keepIn K (.ref f30) = true)
    (a31 : PySem.W.nsIn K mainGlobals "_law_page_word" = some (some (.ref f31))) (l31 : K.lookup f31 = some ⟨oc31, od31, .func (PySem.W.fnOf "_law_page_word" "_law_page_word" (defArgs s_page_word) (defBody s_page_word) (defScope s_page_word) .none kV31 dc31 pm31 an31 cd31 ct31), sl31⟩) (c31 : PySem.W.codeIn K cd31 "_law_page_word" = true) (k31 : PySem.W.keepIn K (.ref f31) = true)
    (a32 : PySem.W.nsIn K mainGlobals "_law_read_label" = some (some (.ref f32))) (l32 : K.lookup f32 = some ⟨oc32, od32, .func (PySem.W.fnOf "_law_read_label" "_law_read_label" (defArgs s_law_read_label) (defBody s_law_read_label) (defScope s_law_read_label) .none kV32 dc32 pm32 an32 cd32 ct32), sl32⟩) (c32 : PySem.W.codeIn K cd32 "_law_read_label" = true) (k32 : PySem.W.keepIn K (.ref f32) = true)
    (a33 : PySem.W.nsIn K mainGlobals "_law_read_page" = some (some (.ref f33))) (l33 : K.lookup f33 = some ⟨oc33, od33, .func (PySem.W.fnOf "_law_read_page" "_law_read_page" (defArgs s_law_read_page) (defBody s_law_read_page) (defScope s_law_read_page) .none kV33 dc33 pm33 an33 cd33 ct33), sl33⟩) (c33 : PySem.W.codeIn K cd33 "_law_read_page" = true) (k33 : PySem.W.keepIn K (.ref f33) = true)
    (a34 : PySem.W.nsIn K mainGlobals "_law_token" = some (some (.ref f34))) (l34 : K.lookup f34 = some ⟨oc34, od34, .func (PySem.W.fnOf "_law_token" "_law_token" (defArgs s_token) (defBody s_token) (defScope s_token) .none kV34 dc34 pm34 an34 cd34 ct34), sl34⟩) (c34 : PySem.W.codeIn K cd34 "_law_token" = true) (k34 : PySem.W.keepIn K (.ref f34) = true)
    (a35 : PySem.W.nsIn K mainGlobals "_law_other" = some (some (.ref f35))) (l35 : K.lookup f35 = some ⟨oc35, od35, .func (PySem.W.fnOf "_law_other" "_law_other" (defArgs s_other) (defBody s_other) (defScope s_other) .none kV35 dc35 pm35 an35 cd35 ct35), sl35⟩) (c35 : PySem.W.codeIn K cd35 "_law_other" = true) (k35 : PySem.W.keepIn K (.ref f35) = true)
    (a36 : PySem.W.nsIn K mainGlobals "_law_label" = some (some (.ref f36))) (l36 : K.lookup f36 = some ⟨oc36, od36, .func (PySem.W.fnOf "_law_label" "_law_label" (defArgs s_label) (defBody s_label) (defScope s_label) .none kV36 dc36 pm36 an36 cd36 ct36), sl36⟩) (c36 : PySem.W.codeIn K cd36 "_law_label" = true) (k36 : PySem.W.keepIn K (.ref f36) = true)
    (a37 : PySem.W.nsIn K mainGlobals "_law_line" = some (some (.ref f37))) (l37 : K.lookup f37 = some ⟨oc37, od37, .func (PySem.W.fnOf "_law_line" "_law_line" (defArgs s_line) (defBody s_line) (defScope s_line) .none kV37 dc37 pm37 an37 cd37 ct37), sl37⟩) (c37 : PySem.W.codeIn K cd37 "_law_line" = true) (k37 : PySem.W.keepIn K (.ref f37) = true)
    (a38 : PySem.W.nsIn K mainGlobals "_law_odd_word" = some (some (.ref f38))) (l38 : K.lookup f38 = some ⟨oc38, od38, .func (PySem.W.fnOf "_law_odd_word" "_law_odd_word" (defArgs s_odd_word) (defBody s_odd_word) (defScope s_odd_word) .none kV38 dc38 pm38 an38 cd38 ct38), sl38⟩) (c38 : PySem.W.codeIn K cd38 "_law_odd_word" = true) (k38 : PySem.W.keepIn K (.ref f38) = true)
    (a39 : PySem.W.nsIn K mainGlobals "_law_spoilt_words" = some (some (.ref f39))) (l39 : K.lookup f39 = some ⟨oc39, od39, .func (PySem.W.fnOf "_law_spoilt_words" "_law_spoilt_words" (defArgs s_spoilt_words) (defBody s_spoilt_words) (defScope s_spoilt_words) .none kV39 dc39 pm39 an39 cd39 ct39), sl39⟩) (c39 : PySem.W.codeIn K cd39 "_law_spoilt_words" = true) (k39 : PySem.W.keepIn K (.ref f39) = true)
    (a40 : PySem.W.nsIn K mainGlobals "_law_spoilt" = some (some (.ref f40))) (l40 : K.lookup f40 = some ⟨oc40, od40, .func (PySem.W.fnOf "_law_spoilt" "_law_spoilt" (defArgs s_spoilt) (defBody s_spoilt) (defScope s_spoilt) .none kV40 dc40 pm40 an40 cd40 ct40), sl40⟩) (c40 : PySem.W.codeIn K cd40 "_law_spoilt" = true) (k40 : PySem.W.keepIn K (.ref f40) = true)
    (a41 : PySem.W.nsIn K mainGlobals "_law_number" = some (some (.ref f41))) (l41 : K.lookup f41 = some ⟨oc41, od41, .func (PySem.W.fnOf "_law_number" "_law_number" (defArgs s_number) (defBody s_number) (defScope s_number) .none kV41 dc41 pm41 an41 cd41 ct41), sl41⟩) (c41 : PySem.W.codeIn K cd41 "_law_number" = true) (k41 : PySem.W.keepIn K (.ref f41) = true)
    (a42 : PySem.W.nsIn K mainGlobals "_law_fits" = some (some (.ref f42))) (l42 : K.lookup f42 = some ⟨oc42, od42, .func (PySem.W.fnOf "_law_fits" "_law_fits" (defArgs s_fits) (defBody s_fits) (defScope s_fits) .none kV42 dc42 pm42 an42 cd42 ct42), sl42⟩) (c42 : PySem.W.codeIn K cd42 "_law_fits" = true) (k42 : PySem.W.keepIn K (.ref f42) = true)
    (a43 : PySem.W.nsIn K mainGlobals "_law_due" = some (some (.ref f43))) (l43 : K.lookup f43 = some ⟨oc43, od43, .func (PySem.W.fnOf "_law_due" "_law_due" (defArgs s_due) (defBody s_due) (defScope s_due) .none kV43 dc43 pm43 an43 cd43 ct43), sl43⟩) (c43 : PySem.W.codeIn K cd43 "_law_due" = true) (k43 : PySem.W.keepIn K (.ref f43) = true)
    (a44 : PySem.W.nsIn K mainGlobals "_law_told" = some (some (.ref f44))) (l44 : K.lookup f44 = some ⟨oc44, od44, .func (PySem.W.fnOf "_law_told" "_law_told" (defArgs s_told) (defBody s_told) (defScope s_told) .none kV44 dc44 pm44 an44 cd44 ct44), sl44⟩) (c44 : PySem.W.codeIn K cd44 "_law_told" = true) (k44 : PySem.W.keepIn K (.ref f44) = true)
    (a45 : PySem.W.nsIn K mainGlobals "law" = some (some (.ref f45))) (l45 : K.lookup f45 = some ⟨oc45, od45, .func (PySem.W.fnOf "law" "law" (defArgs s_law) (defBody s_law) (defScope s_law) .none kV45 dc45 pm45 an45 cd45 ct45), sl45⟩) (c45 : PySem.W.codeIn K cd45 "law" = true) (k45 : PySem.W.keepIn K (.ref f45) = true)
    {t_DIGITS : Tok} (v_DIGITS : PySem.W.nsIn K mainGlobals "DIGITS" = some (some (.str "0123456789" t_DIGITS)))
    {t_MOST_CORRECTIONS : Tok} (v_MOST_CORRECTIONS : PySem.W.nsIn K mainGlobals "MOST_CORRECTIONS" = some (some (.int 60 t_MOST_CORRECTIONS)))
    {t_MOST_PARTS : Tok} (v_MOST_PARTS : PySem.W.nsIn K mainGlobals "MOST_PARTS" = some (some (.int 3 t_MOST_PARTS)))
    {t_MOST_ROWS : Tok} (v_MOST_ROWS : PySem.W.nsIn K mainGlobals "MOST_ROWS" = some (some (.int 12 t_MOST_ROWS)))
    {t_MOST_SIGNS : Tok} (v_MOST_SIGNS : PySem.W.nsIn K mainGlobals "MOST_SIGNS" = some (some (.int 20 t_MOST_SIGNS)))
    {t_MOST_TOKENS : Tok} (v_MOST_TOKENS : PySem.W.nsIn K mainGlobals "MOST_TOKENS" = some (some (.int 30 t_MOST_TOKENS)))
    {t_SIDES : Tok} (v_SIDES : PySem.W.nsIn K mainGlobals "SIDES" = some (some (.str "ab" t_SIDES)))
    (z_ValueError : PySem.W.nsIn K mainGlobals "ValueError" = some none)
    (z_abs : PySem.W.nsIn K mainGlobals "abs" = some none)
    (z_all : PySem.W.nsIn K mainGlobals "all" = some none)
    (z_bool : PySem.W.nsIn K mainGlobals "bool" = some none)
    (z_enumerate : PySem.W.nsIn K mainGlobals "enumerate" = some none)
    (z_int : PySem.W.nsIn K mainGlobals "int" = some none)
    (z_isinstance : PySem.W.nsIn K mainGlobals "isinstance" = some none)
    (z_len : PySem.W.nsIn K mainGlobals "len" = some none)
    (z_list : PySem.W.nsIn K mainGlobals "list" = some none)
    (z_range : PySem.W.nsIn K mainGlobals "range" = some none)
    (z_repr : PySem.W.nsIn K mainGlobals "repr" = some none)
    (z_str : PySem.W.nsIn K mainGlobals "str" = some none)
    (z_sum : PySem.W.nsIn K mainGlobals "sum" = some none)
    (z_tuple : PySem.W.nsIn K mainGlobals "tuple" = some none)
    (h_cg_Errata : PySem.W.nsIn K mainGlobals "Errata" = some (some (.ref C_Errata)))
    (h_cg_Cursor : PySem.W.nsIn K mainGlobals "Cursor" = some (some (.ref C_Cursor)))
    (h_cg_AfterError : PySem.W.nsIn K mainGlobals "AfterError" = some (some (.ref C_AfterError)))
    (h_cg_BadForm : PySem.W.nsIn K mainGlobals "BadForm" = some (some (.ref C_BadForm)))
    (h_cg_BadLine : PySem.W.nsIn K mainGlobals "BadLine" = some (some (.ref C_BadLine)))
    (h_cg_BadErrata : PySem.W.nsIn K mainGlobals "BadErrata" = some (some (.ref C_BadErrata)))
    (h_cg_BadCorrection : PySem.W.nsIn K mainGlobals "BadCorrection" = some (some (.ref C_BadCorrection)))
    (h_cg_TooMany : PySem.W.nsIn K mainGlobals "TooMany" = some (some (.ref C_TooMany)))
    (h_x_BadErrata : PySem.W.excIn K C_BadErrata [.type "ValueError", .type "Exception", .type "BaseException", .type "object"] "ValueError.__new__" = true)
    (h_k_BadErrata : PySem.W.keepIn K (.ref C_BadErrata) = true)
    (h_t_BadErrata : PySem.W.typeIn K (.ref C_BadErrata) = some (.type "type"))
    (h_hg_BadLine : PySem.W.findIn K (.ref C_BadLine) "__getattribute__" = some (some (.builtin "BaseException.__getattribute__")))
    (h_hk_BadLine : PySem.W.findIn K (.ref C_BadLine) "__getattr__" = some none)
    (h_hs_BadLine : PySem.W.subIn K (.ref C_BadLine) (.type "BaseException") = some true)
    (h_hd_BadLine : PySem.W.hasDictIn K C_BadLine = true)
    (h_ha_BadLine : PySem.W.findIn K (.ref C_BadLine) "__class__" = some (some (.builtin "object.__class__")))
    (h_hn_BadLine : PySem.W.specialIn K (.builtin "object.__class__") "__get__" = some (some (.builtin "getset_descriptor.__get__")))
    (h_ht_BadLine : PySem.W.takesIn K (.builtin "object.__class__") = some true)
    (h_hm_BadLine : PySem.W.mroIn K C_BadLine (.type "object") = some true)
    (h_hg_TooMany : PySem.W.findIn K (.ref C_TooMany) "__getattribute__" = some (some (.builtin "BaseException.__getattribute__")))
    (h_hk_TooMany : PySem.W.findIn K (.ref C_TooMany) "__getattr__" = some none)
    (h_hs_TooMany : PySem.W.subIn K (.ref C_TooMany) (.type "BaseException") = some true)
    (h_hd_TooMany : PySem.W.hasDictIn K C_TooMany = true)
    (h_ha_TooMany : PySem.W.findIn K (.ref C_TooMany) "__class__" = some (some (.builtin "object.__class__")))
    (h_hn_TooMany : PySem.W.specialIn K (.builtin "object.__class__") "__get__" = some (some (.builtin "getset_descriptor.__get__")))
    (h_ht_TooMany : PySem.W.takesIn K (.builtin "object.__class__") = some true)
    (h_hm_TooMany : PySem.W.mroIn K C_TooMany (.type "object") = some true)
    (h_hg_BadCorrection : PySem.W.findIn K (.ref C_BadCorrection) "__getattribute__" = some (some (.builtin "BaseException.__getattribute__")))
    (h_hk_BadCorrection : PySem.W.findIn K (.ref C_BadCorrection) "__getattr__" = some none)
    (h_hs_BadCorrection : PySem.W.subIn K (.ref C_BadCorrection) (.type "BaseException") = some true)
    (h_hd_BadCorrection : PySem.W.hasDictIn K C_BadCorrection = true)
    (h_ha_BadCorrection : PySem.W.findIn K (.ref C_BadCorrection) "__class__" = some (some (.builtin "object.__class__")))
    (h_hn_BadCorrection : PySem.W.specialIn K (.builtin "object.__class__") "__get__" = some (some (.builtin "getset_descriptor.__get__")))
    (h_ht_BadCorrection : PySem.W.takesIn K (.builtin "object.__class__") = some true)
    (h_hm_BadCorrection : PySem.W.mroIn K C_BadCorrection (.type "object") = some true)
    (h_hg_BadErrata : PySem.W.findIn K (.ref C_BadErrata) "__getattribute__" = some (some (.builtin "BaseException.__getattribute__")))
    (h_hk_BadErrata : PySem.W.findIn K (.ref C_BadErrata) "__getattr__" = some none)
    (h_hs_BadErrata : PySem.W.subIn K (.ref C_BadErrata) (.type "BaseException") = some true)
    (h_hd_BadErrata : PySem.W.hasDictIn K C_BadErrata = true)
    (h_ha_BadErrata : PySem.W.findIn K (.ref C_BadErrata) "__class__" = some (some (.builtin "object.__class__")))
    (h_hn_BadErrata : PySem.W.specialIn K (.builtin "object.__class__") "__get__" = some (some (.builtin "getset_descriptor.__get__")))
    (h_ht_BadErrata : PySem.W.takesIn K (.builtin "object.__class__") = some true)
    (h_hm_BadErrata : PySem.W.mroIn K C_BadErrata (.type "object") = some true)
    (h_n_BadLine_line : PySem.W.findIn K (.ref C_BadLine) "line" = some none)
    (h_n_BadLine_word : PySem.W.findIn K (.ref C_BadLine) "word" = some none)
    (h_i_BadLine : PySem.W.typeIn K (.ref f0) = some (.type "function"))
    (h_n_TooMany_word : PySem.W.findIn K (.ref C_TooMany) "word" = some none)
    (h_i_TooMany : PySem.W.typeIn K (.ref f2) = some (.type "function"))
    (h_n_BadCorrection_place : PySem.W.findIn K (.ref C_BadCorrection) "place" = some none)
    (h_i_BadCorrection : PySem.W.typeIn K (.ref f1) = some (.type "function"))
    (h_ms_Cursor : PySem.W.makesIn K C_Cursor = true)
    (h_kc_Cursor : PySem.W.keepIn K (.ref C_Cursor) = true)
    (h_ca_Cursor : PySem.W.findIn K (.ref C_Cursor) "__class__" = some (some (.builtin "object.__class__")))
    (h_cn_Cursor : PySem.W.specialIn K (.builtin "object.__class__") "__get__" = some (some (.builtin "getset_descriptor.__get__")))
    (h_ct_Cursor : PySem.W.takesIn K (.builtin "object.__class__") = some true)
    (h_cm_Cursor : PySem.W.mroIn K C_Cursor (.type "object") = some true)
    (h_ic_Cursor : PySem.W.isClsIn K C_Cursor = true)
    (h_tc_Cursor : PySem.W.typeIn K (.ref C_Cursor) = some (.type "type"))
    (h_na_Cursor_words : PySem.W.findIn K (.ref C_Cursor) "words" = some none)
    (h_na_Cursor_line : PySem.W.findIn K (.ref C_Cursor) "line" = some none)
    (h_na_Cursor_at : PySem.W.findIn K (.ref C_Cursor) "at" = some none)
    (h_ms_Errata : PySem.W.makesIn K C_Errata = true)
    (h_kc_Errata : PySem.W.keepIn K (.ref C_Errata) = true)
    (h_ca_Errata : PySem.W.findIn K (.ref C_Errata) "__class__" = some (some (.builtin "object.__class__")))
    (h_cn_Errata : PySem.W.specialIn K (.builtin "object.__class__") "__get__" = some (some (.builtin "getset_descriptor.__get__")))
    (h_ct_Errata : PySem.W.takesIn K (.builtin "object.__class__") = some true)
    (h_cm_Errata : PySem.W.mroIn K C_Errata (.type "object") = some true)
    (h_ic_Errata : PySem.W.isClsIn K C_Errata = true)
    (h_tc_Errata : PySem.W.typeIn K (.ref C_Errata) = some (.type "type"))
    (h_na_Errata_corrections : PySem.W.findIn K (.ref C_Errata) "corrections" = some none)
    (h_na_Errata__turns : PySem.W.findIn K (.ref C_Errata) "_turns" = some none)
    (h_fn_Cursor_init : PySem.W.isFn K (.ref f13) = true)
    (h_fn_Cursor_more : PySem.W.isFn K (.ref f14) = true)
    (h_fn_Cursor_look : PySem.W.isFn K (.ref f15) = true)
    (h_fn_Cursor_take : PySem.W.isFn K (.ref f16) = true)
    (h_fn_Cursor_take_one : PySem.W.isFn K (.ref f17) = true)
    (h_fn_Cursor_take_integer : PySem.W.isFn K (.ref f18) = true)
    (h_fn_Cursor_take_end : PySem.W.isFn K (.ref f19) = true)
    (h_fn_Errata_init : PySem.W.isFn K (.ref f21) = true)
    (h_q_BadLine_BadLine : PySem.W.subIn K (.ref C_BadLine) (.ref C_BadLine) = some true)
    (h_q_BadLine_TooMany : PySem.W.subIn K (.ref C_BadLine) (.ref C_TooMany) = some false)
    (h_q_BadLine_BadCorrection : PySem.W.subIn K (.ref C_BadLine) (.ref C_BadCorrection) = some false)
    (h_q_BadLine_ValueError : PySem.W.subIn K (.ref C_BadLine) (.type "ValueError") = some true)
    (h_q_BadLine_BadForm : PySem.W.subIn K (.ref C_BadLine) (.ref C_BadForm) = some true)
    (h_q_TooMany_BadLine : PySem.W.subIn K (.ref C_TooMany) (.ref C_BadLine) = some false)
    (h_q_TooMany_TooMany : PySem.W.subIn K (.ref C_TooMany) (.ref C_TooMany) = some true)
    (h_q_TooMany_BadCorrection : PySem.W.subIn K (.ref C_TooMany) (.ref C_BadCorrection) = some false)
    (h_q_TooMany_ValueError : PySem.W.subIn K (.ref C_TooMany) (.type "ValueError") = some true)
    (h_q_TooMany_BadForm : PySem.W.subIn K (.ref C_TooMany) (.ref C_BadForm) = some false)
    (h_q_BadCorrection_BadLine : PySem.W.subIn K (.ref C_BadCorrection) (.ref C_BadLine) = some false)
    (h_q_BadCorrection_TooMany : PySem.W.subIn K (.ref C_BadCorrection) (.ref C_TooMany) = some false)
    (h_q_BadCorrection_BadCorrection : PySem.W.subIn K (.ref C_BadCorrection) (.ref C_BadCorrection) = some true)
    (h_q_BadCorrection_ValueError : PySem.W.subIn K (.ref C_BadCorrection) (.type "ValueError") = some true)
    (h_q_BadCorrection_BadForm : PySem.W.subIn K (.ref C_BadCorrection) (.ref C_BadForm) = some true)
    (h_e_BadLine_AfterError : PySem.W.subIn K (.ref C_BadLine) (.ref C_AfterError) = some true)
    (h_e_TooMany_AfterError : PySem.W.subIn K (.ref C_TooMany) (.ref C_AfterError) = some true)
    (h_e_BadCorrection_AfterError : PySem.W.subIn K (.ref C_BadCorrection) (.ref C_AfterError) = some true)
    {nm_BadLine qn_BadLine : Str} {N_BadLine : Addr} {bs_BadLine sub_BadLine : List Value} {sn_BadLine : List Str} {ab_BadLine : Bool} {col_BadLine : Option Bool} {dd_BadLine : Option Addr} {m0_BadLine m1_BadLine m2_BadLine m3_BadLine m5_BadLine : Option Value} {bm_BadLine : List Value}
    (xl_BadLine : K.lookup C_BadLine = some (excClassObj nm_BadLine qn_BadLine C_BadLine N_BadLine bs_BadLine bm_BadLine true sn_BadLine sub_BadLine ab_BadLine col_BadLine dd_BadLine m0_BadLine m1_BadLine m2_BadLine m3_BadLine m5_BadLine "ValueError.__new__"))
    (rf_BadLine : PySem.HandSPX.refsVE bm_BadLine = true)
    (sa_BadLine : PySem.W.findIn K (.ref C_BadLine) "__setattr__" = some (some (.builtin "object.__setattr__"))) (eb_BadLine : PySem.W.subIn K (.ref C_BadLine) (.type "BaseException") = some true) (ty_BadLine : PySem.W.typeIn K (.ref C_BadLine) = some (.type "type")) (kc_BadLine : PySem.W.keepIn K (.ref C_BadLine) = true)
    {nm_TooMany qn_TooMany : Str} {N_TooMany : Addr} {bs_TooMany sub_TooMany : List Value} {sn_TooMany : List Str} {ab_TooMany : Bool} {col_TooMany : Option Bool} {dd_TooMany : Option Addr} {m0_TooMany m1_TooMany m2_TooMany m3_TooMany m5_TooMany : Option Value} {bm_TooMany : List Value}
    (xl_TooMany : K.lookup C_TooMany = some (excClassObj nm_TooMany qn_TooMany C_TooMany N_TooMany bs_TooMany bm_TooMany true sn_TooMany sub_TooMany ab_TooMany col_TooMany dd_TooMany m0_TooMany m1_TooMany m2_TooMany m3_TooMany m5_TooMany "ValueError.__new__"))
    (rf_TooMany : PySem.HandSPX.refsVE bm_TooMany = true)
    (sa_TooMany : PySem.W.findIn K (.ref C_TooMany) "__setattr__" = some (some (.builtin "object.__setattr__"))) (eb_TooMany : PySem.W.subIn K (.ref C_TooMany) (.type "BaseException") = some true) (ty_TooMany : PySem.W.typeIn K (.ref C_TooMany) = some (.type "type")) (kc_TooMany : PySem.W.keepIn K (.ref C_TooMany) = true)
    {nm_BadCorrection qn_BadCorrection : Str} {N_BadCorrection : Addr} {bs_BadCorrection sub_BadCorrection : List Value} {sn_BadCorrection : List Str} {ab_BadCorrection : Bool} {col_BadCorrection : Option Bool} {dd_BadCorrection : Option Addr} {m0_BadCorrection m1_BadCorrection m2_BadCorrection m3_BadCorrection m5_BadCorrection : Option Value} {bm_BadCorrection : List Value}
    (xl_BadCorrection : K.lookup C_BadCorrection = some (excClassObj nm_BadCorrection qn_BadCorrection C_BadCorrection N_BadCorrection bs_BadCorrection bm_BadCorrection true sn_BadCorrection sub_BadCorrection ab_BadCorrection col_BadCorrection dd_BadCorrection m0_BadCorrection m1_BadCorrection m2_BadCorrection m3_BadCorrection m5_BadCorrection "ValueError.__new__"))
    (rf_BadCorrection : PySem.HandSPX.refsVE bm_BadCorrection = true)
    (sa_BadCorrection : PySem.W.findIn K (.ref C_BadCorrection) "__setattr__" = some (some (.builtin "object.__setattr__"))) (eb_BadCorrection : PySem.W.subIn K (.ref C_BadCorrection) (.type "BaseException") = some true) (ty_BadCorrection : PySem.W.typeIn K (.ref C_BadCorrection) = some (.type "type")) (kc_BadCorrection : PySem.W.keepIn K (.ref C_BadCorrection) = true)
    (pg_Cursor : PySem.W.plainGet K C_Cursor Str.empty = true)
    (hd_Cursor : PySem.W.hasDictIn K C_Cursor = true)
    (po_Cursor : PySem.W.plainOver K C_Cursor = true)
    (sa_Cursor : PySem.W.findIn K (.ref C_Cursor) "__setattr__" = some (some (.builtin "object.__setattr__")))
    (pg_Errata : PySem.W.plainGet K C_Errata Str.empty = true)
    (hd_Errata : PySem.W.hasDictIn K C_Errata = true)
    (po_Errata : PySem.W.plainOver K C_Errata = true)
    (sa_Errata : PySem.W.findIn K (.ref C_Errata) "__setattr__" = some (some (.builtin "object.__setattr__")))
    (ic_AfterError : PySem.W.isClsIn K C_AfterError = true)
    (tc_AfterError : PySem.W.typeIn K (.ref C_AfterError) = some (.type "type"))
    (sc_AfterError : PySem.W.subIn K (.ref C_AfterError) (.type "BaseException") = some true)
    (dc_AfterError : PySem.W.hasDictIn K C_AfterError = true)
    (ic_BadForm : PySem.W.isClsIn K C_BadForm = true)
    (tc_BadForm : PySem.W.typeIn K (.ref C_BadForm) = some (.type "type"))
    (sc_BadForm : PySem.W.subIn K (.ref C_BadForm) (.type "BaseException") = some true)
    (dc_BadForm : PySem.W.hasDictIn K C_BadForm = true)
    (ic_BadLine : PySem.W.isClsIn K C_BadLine = true)
    (tc_BadLine : PySem.W.typeIn K (.ref C_BadLine) = some (.type "type"))
    (sc_BadLine : PySem.W.subIn K (.ref C_BadLine) (.type "BaseException") = some true)
    (dc_BadLine : PySem.W.hasDictIn K C_BadLine = true)
    (ic_BadErrata : PySem.W.isClsIn K C_BadErrata = true)
    (tc_BadErrata : PySem.W.typeIn K (.ref C_BadErrata) = some (.type "type"))
    (sc_BadErrata : PySem.W.subIn K (.ref C_BadErrata) (.type "BaseException") = some true)
    (dc_BadErrata : PySem.W.hasDictIn K C_BadErrata = true)
    (ic_BadCorrection : PySem.W.isClsIn K C_BadCorrection = true)
    (tc_BadCorrection : PySem.W.typeIn K (.ref C_BadCorrection) = some (.type "type"))
    (sc_BadCorrection : PySem.W.subIn K (.ref C_BadCorrection) (.type "BaseException") = some true)
    (dc_BadCorrection : PySem.W.hasDictIn K C_BadCorrection = true)
    (ic_TooMany : PySem.W.isClsIn K C_TooMany = true)
    (tc_TooMany : PySem.W.typeIn K (.ref C_TooMany) = some (.type "type"))
    (sc_TooMany : PySem.W.subIn K (.ref C_TooMany) (.type "BaseException") = some true)
    (dc_TooMany : PySem.W.hasDictIn K C_TooMany = true)
    (ne_BadLine_TooMany : C_BadLine ≠ C_TooMany)
    (ne_BadLine_BadCorrection : C_BadLine ≠ C_BadCorrection)
    (ne_TooMany_BadLine : C_TooMany ≠ C_BadLine)
    (ne_TooMany_BadCorrection : C_TooMany ≠ C_BadCorrection)
    (ne_TooMany_BadForm : C_TooMany ≠ C_BadForm)
    (ne_BadCorrection_BadLine : C_BadCorrection ≠ C_BadLine)
    (ne_BadCorrection_TooMany : C_BadCorrection ≠ C_TooMany)
    : ∃ fd : FuncData, (∀ (s : Shared) (v : Value), BindsTo s fd ⟨[v], []⟩ [("_law_script", v)]) ∧ ∀ base : Heap, K.In base → base.Ns mainGlobals mg → GnOk l.prog w K mg base CX0 12 fa fd ["_law_script"] (sp_law K) := by
  have e := hfa.symm.trans (PySem.W.mg_of X G a45)
  cases e
  have F0 := fun_mk (st := s_BadLine_init) l0 c0 k0
  have b0 := F0.binds (ps := ["self", "line", "word"]) fun _ _ _ _ _ _ us hl => match us, hl with | [_, _, _], _ => rfl
  have F1 := fun_mk (st := s_BadCorrection_init) l1 c1 k1
  have b1 := F1.binds (ps := ["self", "place"]) fun _ _ _ _ _ _ us hl => match us, hl with | [_, _], _ => rfl
  have F2 := fun_mk (st := s_TooMany_init) l2 c2 k2
  have b2 := F2.binds (ps := ["self", "word"]) fun _ _ _ _ _ _ us hl => match us, hl with | [_, _], _ => rfl
  have F3 := fun_mk (st := s_is_integer) l3 c3 k3
  have b3 := F3.binds (ps := ["thing"]) fun _ _ _ _ _ _ us hl => match us, hl with | [_], _ => rfl
  have F4 := fun_mk (st := s_is_within) l4 c4 k4
  have b4 := F4.binds (ps := ["thing", "least", "most"]) fun _ _ _ _ _ _ us hl => match us, hl with | [_, _, _], _ => rfl
  have F5 := fun_mk (st := s_is_tuple) l5 c5 k5
  have b5 := F5.binds (ps := ["thing"]) fun _ _ _ _ _ _ us hl => match us, hl with | [_], _ => rfl
  have F6 := fun_mk (st := s_is_sized) l6 c6 k6
  have b6 := F6.binds (ps := ["thing", "least", "most"]) fun _ _ _ _ _ _ us hl => match us, hl with | [_, _, _], _ => rfl
  have F7 := fun_mk (st := s_read_integer) l7 c7 k7
  have b7 := F7.binds (ps := ["word", "least", "most"]) fun _ _ _ _ _ _ us hl => match us, hl with | [_, _, _], _ => rfl
  have F8 := fun_mk (st := s_kept_label) l8 c8 k8
  have b8 := F8.binds (ps := ["thing"]) fun _ _ _ _ _ _ us hl => match us, hl with | [_], _ => rfl
  have F9 := fun_mk (st := s_kept_page) l9 c9 k9
  have b9 := F9.binds (ps := ["thing"]) fun _ _ _ _ _ _ us hl => match us, hl with | [_], _ => rfl
  have F10 := fun_mk (st := s_read_label) l10 c10 k10
  have b10 := F10.binds (ps := ["word"]) fun _ _ _ _ _ _ us hl => match us, hl with | [_], _ => rfl
  have F11 := fun_mk (st := s_read_page) l11 c11 k11
  have b11 := F11.binds (ps := ["word"]) fun _ _ _ _ _ _ us hl => match us, hl with | [_], _ => rfl
  have F12 := fun_mk (st := s_line_words) l12 c12 k12
  have b12 := F12.binds (ps := ["line", "number"]) fun _ _ _ _ _ _ us hl => match us, hl with | [_, _], _ => rfl
  have F13 := fun_mk (st := s_Cursor_init) l13 c13 k13
  have b13 := F13.binds (ps := ["self", "words", "line", "at"]) fun _ _ _ _ _ _ us hl => match us, hl with | [_, _, _, _], _ => rfl
  have F14 := fun_mk (st := s_Cursor_more) l14 c14 k14
  have b14 := F14.binds (ps := ["self"]) fun _ _ _ _ _ _ us hl => match us, hl with | [_], _ => rfl
  have F15 := fun_mk (st := s_Cursor_look) l15 c15 k15
  have b15 := F15.binds (ps := ["self"]) fun _ _ _ _ _ _ us hl => match us, hl with | [_], _ => rfl
  have F16 := fun_mk (st := s_Cursor_take) l16 c16 k16
  have b16 := F16.binds (ps := ["self", "worth"]) fun _ _ _ _ _ _ us hl => match us, hl with | [_, _], _ => rfl
  have F17 := fun_mk (st := s_Cursor_take_one) l17 c17 k17
  have b17 := F17.binds (ps := ["self", "words"]) fun _ _ _ _ _ _ us hl => match us, hl with | [_, _], _ => rfl
  have F18 := fun_mk (st := s_Cursor_take_integer) l18 c18 k18
  have b18 := F18.binds (ps := ["self", "least", "most"]) fun _ _ _ _ _ _ us hl => match us, hl with | [_, _, _], _ => rfl
  have F19 := fun_mk (st := s_Cursor_take_end) l19 c19 k19
  have b19 := F19.binds (ps := ["self"]) fun _ _ _ _ _ _ us hl => match us, hl with | [_], _ => rfl
  have F20 := fun_mk (st := s_is_token) l20 c20 k20
  have b20 := F20.binds (ps := ["thing"]) fun _ _ _ _ _ _ us hl => match us, hl with | [_], _ => rfl
  have F21 := fun_mk (st := s_Errata_init) l21 c21 k21
  have b21 := F21.binds (ps := ["self", "corrections"]) fun _ _ _ _ _ _ us hl => match us, hl with | [_, _], _ => rfl
  have F22 := fun_mk (st := s_turns_at_places) l22 c22 k22
  have b22 := F22.binds (ps := ["corrections"]) fun _ _ _ _ _ _ us hl => match us, hl with | [_], _ => rfl
  have F23 := fun_mk (st := s_judged_corrections) l23 c23 k23
  have b23 := F23.binds (ps := ["corrections"]) fun _ _ _ _ _ _ us hl => match us, hl with | [_], _ => rfl
  have F24 := fun_mk (st := s_kept_correction) l24 c24 k24
  have b24 := F24.binds (ps := ["thing"]) fun _ _ _ _ _ _ us hl => match us, hl with | [_], _ => rfl
  have F25 := fun_mk (st := s_read_errata) l25 c25 k25
  have b25 := F25.binds (ps := ["lines"]) fun _ _ _ _ _ _ us hl => match us, hl with | [_], _ => rfl
  have F26 := fun_mk (st := s_read_correction) l26 c26 k26
  have b26 := F26.binds (ps := ["cursor"]) fun _ _ _ _ _ _ us hl => match us, hl with | [_], _ => rfl
  have F27 := fun_mk (st := s_take_token) l27 c27 k27
  have b27 := F27.binds (ps := ["cursor"]) fun _ _ _ _ _ _ us hl => match us, hl with | [_], _ => rfl
  have F28 := fun_mk (st := s_source) l28 c28 k28
  have b28 := F28.binds (ps := ["_law_script", "_law_k"]) fun _ _ _ _ _ _ us hl => match us, hl with | [_, _], _ => rfl
  have F29 := fun_mk (st := s_pick) l29 c29 k29
  have b29 := F29.binds (ps := ["_law_source_here", "_law_many"]) fun _ _ _ _ _ _ us hl => match us, hl with | [_, _], _ => rfl
  have F30 := fun_mk (st := s_label_word) l30 c30 k30
  have b30 := F30.binds (ps := ["_law_label_here"]) fun _ _ _ _ _ _ us hl => match us, hl with | [_], _ => rfl
  have F31 := fun_mk (st := s_page_word) l31 c31 k31
  have b31 := F31.binds (ps := ["_law_page"]) fun _ _ _ _ _ _ us hl => match us, hl with | [_], _ => rfl
  have F32 := fun_mk (st := s_law_read_label) l32 c32 k32
  have b32 := F32.binds (ps := ["_law_word"]) fun _ _ _ _ _ _ us hl => match us, hl with | [_], _ => rfl
  have F33 := fun_mk (st := s_law_read_page) l33 c33 k33
  have b33 := F33.binds (ps := ["_law_word"]) fun _ _ _ _ _ _ us hl => match us, hl with | [_], _ => rfl
  have F34 := fun_mk (st := s_token) l34 c34 k34
  have b34 := F34.binds (ps := ["_law_source_here", "_law_most"]) fun _ _ _ _ _ _ us hl => match us, hl with | [_, _], _ => rfl
  have F35 := fun_mk (st := s_other) l35 c35 k35
  have b35 := F35.binds (ps := ["_law_token_here"]) fun _ _ _ _ _ _ us hl => match us, hl with | [_], _ => rfl
  have F36 := fun_mk (st := s_label) l36 c36 k36
  have b36 := F36.binds (ps := ["_law_source_here"]) fun _ _ _ _ _ _ us hl => match us, hl with | [_], _ => rfl
  have F37 := fun_mk (st := s_line) l37 c37 k37
  have b37 := F37.binds (ps := ["_law_source_here"]) fun _ _ _ _ _ _ us hl => match us, hl with | [_], _ => rfl
  have F38 := fun_mk (st := s_odd_word) l38 c38 k38
  have b38 := F38.binds (ps := ["_law_source_here"]) fun _ _ _ _ _ _ us hl => match us, hl with | [_], _ => rfl
  have F39 := fun_mk (st := s_spoilt_words) l39 c39 k39
  have b39 := F39.binds (ps := ["_law_source_here", "_law_words"]) fun _ _ _ _ _ _ us hl => match us, hl with | [_, _], _ => rfl
  have F40 := fun_mk (st := s_spoilt) l40 c40 k40
  have b40 := F40.binds (ps := ["_law_source_here", "_law_lines"]) fun _ _ _ _ _ _ us hl => match us, hl with | [_, _], _ => rfl
  have F41 := fun_mk (st := s_number) l41 c41 k41
  have b41 := F41.binds (ps := ["_law_word", "_law_most"]) fun _ _ _ _ _ _ us hl => match us, hl with | [_, _], _ => rfl
  have F42 := fun_mk (st := s_fits) l42 c42 k42
  have b42 := F42.binds (ps := ["_law_place", "_law_word"]) fun _ _ _ _ _ _ us hl => match us, hl with | [_, _], _ => rfl
  have F43 := fun_mk (st := s_due) l43 c43 k43
  have b43 := F43.binds (ps := ["_law_lines"]) fun _ _ _ _ _ _ us hl => match us, hl with | [_], _ => rfl
  have F44 := fun_mk (st := s_told) l44 c44 k44
  have b44 := F44.binds (ps := ["_law_lines"]) fun _ _ _ _ _ _ us hl => match us, hl with | [_], _ => rfl
  have F45 := fun_mk (st := s_law) l45 c45 k45
  have b45 := F45.binds (ps := ["_law_script"]) fun _ _ _ _ _ _ us hl => match us, hl with | [_], _ => rfl
  let T : Tab K mg := ⟨C_AfterError, C_BadForm, C_BadLine, C_BadErrata, C_BadCorrection, C_TooMany, C_Cursor, C_Errata, _, _, F0, b0, a0, _, _, F1, b1, a1, _, _, F2, b2, a2, _, _, F3, b3, PySem.W.mg_of X G a3, _, _, F4, b4, PySem.W.mg_of X G a4, _, _, F5, b5, PySem.W.mg_of X G a5, _, _, F6, b6, PySem.W.mg_of X G a6, _, _, F7, b7, PySem.W.mg_of X G a7, _, _, F8, b8, PySem.W.mg_of X G a8, _, _, F9, b9, PySem.W.mg_of X G a9, _, _, F10, b10, PySem.W.mg_of X G a10, _, _, F11, b11, PySem.W.mg_of X G a11, _, _, F12, b12, PySem.W.mg_of X G a12, _, _, F13, b13, a13, _, _, F14, b14, a14, _, _, F15, b15, a15, _, _, F16, b16, a16, _, _, F17, b17, a17, _, _, F18, b18, a18, _, _, F19, b19, a19, _, _, F20, b20, PySem.W.mg_of X G a20, _, _, F21, b21, a21, _, _, F22, b22, PySem.W.mg_of X G a22, _, _, F23, b23, PySem.W.mg_of X G a23, _, _, F24, b24, PySem.W.mg_of X G a24, _, _, F25, b25, PySem.W.mg_of X G a25, _, _, F26, b26, PySem.W.mg_of X G a26, _, _, F27, b27, PySem.W.mg_of X G a27, _, _, F28, b28, PySem.W.mg_of X G a28, _, _, F29, b29, PySem.W.mg_of X G a29, _, _, F30, b30, PySem.W.mg_of X G a30, _, _, F31, b31, PySem.W.mg_of X G a31, _, _, F32, b32, PySem.W.mg_of X G a32, _, _, F33, b33, PySem.W.mg_of X G a33, _, _, F34, b34, PySem.W.mg_of X G a34, _, _, F35, b35, PySem.W.mg_of X G a35, _, _, F36, b36, PySem.W.mg_of X G a36, _, _, F37, b37, PySem.W.mg_of X G a37, _, _, F38, b38, PySem.W.mg_of X G a38, _, _, F39, b39, PySem.W.mg_of X G a39, _, _, F40, b40, PySem.W.mg_of X G a40, _, _, F41, b41, PySem.W.mg_of X G a41, _, _, F42, b42, PySem.W.mg_of X G a42, _, _, F43, b43, PySem.W.mg_of X G a43, _, _, F44, b44, PySem.W.mg_of X G a44, _, _, F45, b45, PySem.W.mg_of X G a45, PySem.W.mg_of X G h_cg_Errata, PySem.W.mg_of X G h_cg_Cursor, PySem.W.mg_of X G h_cg_AfterError, PySem.W.mg_of X G h_cg_BadForm, PySem.W.mg_of X G h_cg_BadLine, PySem.W.mg_of X G h_cg_BadErrata, PySem.W.mg_of X G h_cg_BadCorrection, PySem.W.mg_of X G h_cg_TooMany, h_x_BadErrata, h_k_BadErrata, h_t_BadErrata, h_hg_BadLine, h_hk_BadLine, h_hs_BadLine, h_hd_BadLine, h_ha_BadLine, h_hn_BadLine, h_ht_BadLine, h_hm_BadLine, h_hg_TooMany, h_hk_TooMany, h_hs_TooMany, h_hd_TooMany, h_ha_TooMany, h_hn_TooMany, h_ht_TooMany, h_hm_TooMany, h_hg_BadCorrection, h_hk_BadCorrection, h_hs_BadCorrection, h_hd_BadCorrection, h_ha_BadCorrection, h_hn_BadCorrection, h_ht_BadCorrection, h_hm_BadCorrection, h_hg_BadErrata, h_hk_BadErrata, h_hs_BadErrata, h_hd_BadErrata, h_ha_BadErrata, h_hn_BadErrata, h_ht_BadErrata, h_hm_BadErrata, ⟨⟨_, _, _, _, _, _, _, _, _, _, _, _, _, _, _, xl_BadLine, rf_BadLine⟩, sa_BadLine, eb_BadLine, ty_BadLine, kc_BadLine⟩, h_n_BadLine_line, h_n_BadLine_word, h_i_BadLine, ⟨⟨_, _, _, _, _, _, _, _, _, _, _, _, _, _, _, xl_TooMany, rf_TooMany⟩, sa_TooMany, eb_TooMany, ty_TooMany, kc_TooMany⟩, h_n_TooMany_word, h_i_TooMany, ⟨⟨_, _, _, _, _, _, _, _, _, _, _, _, _, _, _, xl_BadCorrection, rf_BadCorrection⟩, sa_BadCorrection, eb_BadCorrection, ty_BadCorrection, kc_BadCorrection⟩, h_n_BadCorrection_place, h_i_BadCorrection, ⟨pg_Cursor, hd_Cursor, po_Cursor, sa_Cursor⟩, h_ms_Cursor, h_kc_Cursor, h_ca_Cursor, h_cn_Cursor, h_ct_Cursor, h_cm_Cursor, h_ic_Cursor, h_tc_Cursor, h_na_Cursor_words, h_na_Cursor_line, h_na_Cursor_at, ⟨pg_Errata, hd_Errata, po_Errata, sa_Errata⟩, h_ms_Errata, h_kc_Errata, h_ca_Errata, h_cn_Errata, h_ct_Errata, h_cm_Errata, h_ic_Errata, h_tc_Errata, h_na_Errata_corrections, h_na_Errata__turns, h_fn_Cursor_init, h_fn_Cursor_more, h_fn_Cursor_look, h_fn_Cursor_take, h_fn_Cursor_take_one, h_fn_Cursor_take_integer, h_fn_Cursor_take_end, h_fn_Errata_init, kit_ref ic_BadLine tc_BadLine h_q_BadLine_BadLine (fun _ => rfl), kit_ref ic_TooMany tc_TooMany h_q_BadLine_TooMany (fun z => absurd z ne_BadLine_TooMany), kit_ref ic_BadCorrection tc_BadCorrection h_q_BadLine_BadCorrection (fun z => absurd z ne_BadLine_BadCorrection), kit_rty h_q_BadLine_ValueError (by decide +kernel), kit_ref ic_BadForm tc_BadForm h_q_BadLine_BadForm (fun _ => rfl), kit_ref ic_BadLine tc_BadLine h_q_TooMany_BadLine (fun z => absurd z ne_TooMany_BadLine), kit_ref ic_TooMany tc_TooMany h_q_TooMany_TooMany (fun _ => rfl), kit_ref ic_BadCorrection tc_BadCorrection h_q_TooMany_BadCorrection (fun z => absurd z ne_TooMany_BadCorrection), kit_rty h_q_TooMany_ValueError (by decide +kernel), kit_ref ic_BadForm tc_BadForm h_q_TooMany_BadForm (fun z => absurd z ne_TooMany_BadForm), kit_ref ic_BadLine tc_BadLine h_q_BadCorrection_BadLine (fun z => absurd z ne_BadCorrection_BadLine), kit_ref ic_TooMany tc_TooMany h_q_BadCorrection_TooMany (fun z => absurd z ne_BadCorrection_TooMany), kit_ref ic_BadCorrection tc_BadCorrection h_q_BadCorrection_BadCorrection (fun _ => rfl), kit_rty h_q_BadCorrection_ValueError (by decide +kernel), kit_ref ic_BadForm tc_BadForm h_q_BadCorrection_BadForm (fun _ => rfl), PySem.W.exm_ref sc_AfterError dc_AfterError tc_AfterError h_e_BadLine_AfterError, PySem.W.exm_ref sc_AfterError dc_AfterError tc_AfterError h_e_TooMany_AfterError, PySem.W.exm_ref sc_AfterError dc_AfterError tc_AfterError h_e_BadCorrection_AfterError, _, PySem.W.mg_of X G v_DIGITS, _, PySem.W.mg_of X G v_MOST_CORRECTIONS, _, PySem.W.mg_of X G v_MOST_PARTS, _, PySem.W.mg_of X G v_MOST_ROWS, _, PySem.W.mg_of X G v_MOST_SIGNS, _, PySem.W.mg_of X G v_MOST_TOKENS, _, PySem.W.mg_of X G v_SIDES, PySem.W.mg_none_of X G z_ValueError, PySem.W.mg_none_of X G z_abs, PySem.W.mg_none_of X G z_all, PySem.W.mg_none_of X G z_bool, PySem.W.mg_none_of X G z_enumerate, PySem.W.mg_none_of X G z_int, PySem.W.mg_none_of X G z_isinstance, PySem.W.mg_none_of X G z_len, PySem.W.mg_none_of X G z_list, PySem.W.mg_none_of X G z_range, PySem.W.mg_none_of X G z_repr, PySem.W.mg_none_of X G z_str, PySem.W.mg_none_of X G z_sum, PySem.W.mg_none_of X G z_tuple⟩
  exact ⟨PySem.W.fnOf "law" "law" (defArgs s_law) (defBody s_law) (defScope s_law) .none kV45 dc45 pm45 an45 cd45 ct45, fun s v => .of_eq rfl, fun base _ _ => ok_law T⟩
def FB0 (K : PySem.W.Frag) : List Bool := [decide (PySem.W.findIn K (.ref 113) "__init__" = some (some (.ref 110))),
  codeQ K 110 "BadLine.__init__",
  PySem.W.keepIn K (.ref 110),
  decide (PySem.W.findIn K (.ref 175) "__init__" = some (some (.ref 172))),
  codeQ K 172 "BadCorrection.__init__",
  PySem.W.keepIn K (.ref 172),
  decide (PySem.W.findIn K (.ref 213) "__init__" = some (some (.ref 210))),
  codeQ K 210 "TooMany.__init__",
  PySem.W.keepIn K (.ref 210),
  decide (PySem.W.nsIn K mainGlobals "is_integer" = some (some (.ref 222))),
  codeQ K 222 "is_integer",
  PySem.W.keepIn K (.ref 222),
  decide (PySem.W.nsIn K mainGlobals "is_within" = some (some (.ref 229))),
  codeQ K 229 "is_within",
  PySem.W.keepIn K (.ref 229),
  decide (PySem.W.nsIn K mainGlobals "is_tuple" = some (some (.ref 236))),
  codeQ K 236 "is_tuple",
  PySem.W.keepIn K (.ref 236),
  decide (PySem.W.nsIn K mainGlobals "is_sized" = some (some (.ref 243))),
  codeQ K 243 "is_sized",
  PySem.W.keepIn K (.ref 243),
  decide (PySem.W.nsIn K mainGlobals "read_integer" = some (some (.ref 248))),
  codeQ K 248 "read_integer",
  PySem.W.keepIn K (.ref 248),
  decide (PySem.W.nsIn K mainGlobals "kept_label" = some (some (.ref 253)))]
def FB1 (K : PySem.W.Frag) : List Bool := [codeQ K 253 "kept_label",
  PySem.W.keepIn K (.ref 253),
  decide (PySem.W.nsIn K mainGlobals "kept_page" = some (some (.ref 267))),
  codeQ K 267 "kept_page",
  PySem.W.keepIn K (.ref 267),
  decide (PySem.W.nsIn K mainGlobals "read_label" = some (some (.ref 272))),
  codeQ K 272 "read_label",
  PySem.W.keepIn K (.ref 272),
  decide (PySem.W.nsIn K mainGlobals "read_page" = some (some (.ref 279))),
  codeQ K 279 "read_page",
  PySem.W.keepIn K (.ref 279),
  decide (PySem.W.nsIn K mainGlobals "line_words" = some (some (.ref 286))),
  codeQ K 286 "line_words",
  PySem.W.keepIn K (.ref 286),
  decide (PySem.W.findIn K (.ref 366) "__init__" = some (some (.ref 300))),
  codeQ K 300 "Cursor.__init__",
  PySem.W.keepIn K (.ref 300),
  decide (PySem.W.findIn K (.ref 366) "more" = some (some (.ref 307))),
  codeQ K 307 "Cursor.more",
  PySem.W.keepIn K (.ref 307),
  decide (PySem.W.findIn K (.ref 366) "look" = some (some (.ref 314))),
  codeQ K 314 "Cursor.look",
  PySem.W.keepIn K (.ref 314),
  decide (PySem.W.findIn K (.ref 366) "take" = some (some (.ref 321))),
  codeQ K 321 "Cursor.take"]
def FB2 (K : PySem.W.Frag) : List Bool := [PySem.W.keepIn K (.ref 321),
  decide (PySem.W.findIn K (.ref 366) "take_one" = some (some (.ref 335))),
  codeQ K 335 "Cursor.take_one",
  PySem.W.keepIn K (.ref 335),
  decide (PySem.W.findIn K (.ref 366) "take_integer" = some (some (.ref 342))),
  codeQ K 342 "Cursor.take_integer",
  PySem.W.keepIn K (.ref 342),
  decide (PySem.W.findIn K (.ref 366) "take_end" = some (some (.ref 363))),
  codeQ K 363 "Cursor.take_end",
  PySem.W.keepIn K (.ref 363),
  decide (PySem.W.nsIn K mainGlobals "is_token" = some (some (.ref 438))),
  codeQ K 438 "is_token",
  PySem.W.keepIn K (.ref 438),
  decide (PySem.W.findIn K (.ref 641) "__init__" = some (some (.ref 586))),
  codeQ K 586 "Errata.__init__",
  PySem.W.keepIn K (.ref 586),
  decide (PySem.W.nsIn K mainGlobals "_turns_at_places" = some (some (.ref 659))),
  codeQ K 659 "_turns_at_places",
  PySem.W.keepIn K (.ref 659),
  decide (PySem.W.nsIn K mainGlobals "_judged_corrections" = some (some (.ref 664))),
  codeQ K 664 "_judged_corrections",
  PySem.W.keepIn K (.ref 664),
  decide (PySem.W.nsIn K mainGlobals "_kept_correction" = some (some (.ref 671))),
  codeQ K 671 "_kept_correction",
  PySem.W.keepIn K (.ref 671)]
def FB3 (K : PySem.W.Frag) : List Bool := [decide (PySem.W.nsIn K mainGlobals "read_errata" = some (some (.ref 676))),
  codeQ K 676 "read_errata",
  PySem.W.keepIn K (.ref 676),
  decide (PySem.W.nsIn K mainGlobals "_read_correction" = some (some (.ref 683))),
  codeQ K 683 "_read_correction",
  PySem.W.keepIn K (.ref 683),
  decide (PySem.W.nsIn K mainGlobals "_take_token" = some (some (.ref 690))),
  codeQ K 690 "_take_token",
  PySem.W.keepIn K (.ref 690),
  decide (PySem.W.nsIn K mainGlobals "_law_source" = some (some (.ref 697))),
  codeQ K 697 "_law_source",
  PySem.W.keepIn K (.ref 697),
  decide (PySem.W.nsIn K mainGlobals "_law_pick" = some (some (.ref 704))),
  codeQ K 704 "_law_pick",
  PySem.W.keepIn K (.ref 704),
  decide (PySem.W.nsIn K mainGlobals "_law_label_word" = some (some (.ref 709))),
  codeQ K 709 "_law_label_word",
  PySem.W.keepIn K (.ref 709),
  decide (PySem.W.nsIn K mainGlobals "_law_page_word" = some (some (.ref 716))),
  codeQ K 716 "_law_page_word",
  PySem.W.keepIn K (.ref 716),
  decide (PySem.W.nsIn K mainGlobals "_law_read_label" = some (some (.ref 721))),
  codeQ K 721 "_law_read_label",
  PySem.W.keepIn K (.ref 721),
  decide (PySem.W.nsIn K mainGlobals "_law_read_page" = some (some (.ref 728)))]
def FB4 (K : PySem.W.Frag) : List Bool := [codeQ K 728 "_law_read_page",
  PySem.W.keepIn K (.ref 728),
  decide (PySem.W.nsIn K mainGlobals "_law_token" = some (some (.ref 735))),
  codeQ K 735 "_law_token",
  PySem.W.keepIn K (.ref 735),
  decide (PySem.W.nsIn K mainGlobals "_law_other" = some (some (.ref 742))),
  codeQ K 742 "_law_other",
  PySem.W.keepIn K (.ref 742),
  decide (PySem.W.nsIn K mainGlobals "_law_label" = some (some (.ref 749))),
  codeQ K 749 "_law_label",
  PySem.W.keepIn K (.ref 749),
  decide (PySem.W.nsIn K mainGlobals "_law_line" = some (some (.ref 756))),
  codeQ K 756 "_law_line",
  PySem.W.keepIn K (.ref 756),
  decide (PySem.W.nsIn K mainGlobals "_law_odd_word" = some (some (.ref 763))),
  codeQ K 763 "_law_odd_word",
  PySem.W.keepIn K (.ref 763),
  decide (PySem.W.nsIn K mainGlobals "_law_spoilt_words" = some (some (.ref 770))),
  codeQ K 770 "_law_spoilt_words",
  PySem.W.keepIn K (.ref 770),
  decide (PySem.W.nsIn K mainGlobals "_law_spoilt" = some (some (.ref 777))),
  codeQ K 777 "_law_spoilt",
  PySem.W.keepIn K (.ref 777),
  decide (PySem.W.nsIn K mainGlobals "_law_number" = some (some (.ref 784))),
  codeQ K 784 "_law_number"]
def FB5 (K : PySem.W.Frag) : List Bool := [PySem.W.keepIn K (.ref 784),
  decide (PySem.W.nsIn K mainGlobals "_law_fits" = some (some (.ref 791))),
  codeQ K 791 "_law_fits",
  PySem.W.keepIn K (.ref 791),
  decide (PySem.W.nsIn K mainGlobals "_law_due" = some (some (.ref 798))),
  codeQ K 798 "_law_due",
  PySem.W.keepIn K (.ref 798),
  decide (PySem.W.nsIn K mainGlobals "_law_told" = some (some (.ref 805))),
  codeQ K 805 "_law_told",
  PySem.W.keepIn K (.ref 805),
  decide (PySem.W.nsIn K mainGlobals "law" = some (some (.ref 810))),
  codeQ K 810 "law",
  PySem.W.keepIn K (.ref 810),
  strQ K "DIGITS" "0123456789",
  intQ K "MOST_CORRECTIONS" 60,
  intQ K "MOST_PARTS" 3,
  intQ K "MOST_ROWS" 12,
  intQ K "MOST_SIGNS" 20,
  intQ K "MOST_TOKENS" 30,
  strQ K "SIDES" "ab",
  decide (PySem.W.nsIn K mainGlobals "ValueError" = some none),
  decide (PySem.W.nsIn K mainGlobals "abs" = some none),
  decide (PySem.W.nsIn K mainGlobals "all" = some none),
  decide (PySem.W.nsIn K mainGlobals "bool" = some none),
  decide (PySem.W.nsIn K mainGlobals "enumerate" = some none)]
def FB6 (K : PySem.W.Frag) : List Bool := [decide (PySem.W.nsIn K mainGlobals "int" = some none),
  decide (PySem.W.nsIn K mainGlobals "isinstance" = some none),
  decide (PySem.W.nsIn K mainGlobals "len" = some none),
  decide (PySem.W.nsIn K mainGlobals "list" = some none),
  decide (PySem.W.nsIn K mainGlobals "range" = some none),
  decide (PySem.W.nsIn K mainGlobals "repr" = some none),
  decide (PySem.W.nsIn K mainGlobals "str" = some none),
  decide (PySem.W.nsIn K mainGlobals "sum" = some none),
  decide (PySem.W.nsIn K mainGlobals "tuple" = some none),
  decide (PySem.W.nsIn K mainGlobals "Errata" = some (some (.ref 641))),
  decide (PySem.W.nsIn K mainGlobals "Cursor" = some (some (.ref 366))),
  decide (PySem.W.nsIn K mainGlobals "AfterError" = some (some (.ref 31))),
  decide (PySem.W.nsIn K mainGlobals "BadForm" = some (some (.ref 44))),
  decide (PySem.W.nsIn K mainGlobals "BadLine" = some (some (.ref 113))),
  decide (PySem.W.nsIn K mainGlobals "BadErrata" = some (some (.ref 156))),
  decide (PySem.W.nsIn K mainGlobals "BadCorrection" = some (some (.ref 175))),
  decide (PySem.W.nsIn K mainGlobals "TooMany" = some (some (.ref 213))),
  PySem.W.excIn K 156 [.type "ValueError", .type "Exception", .type "BaseException", .type "object"] "ValueError.__new__",
  PySem.W.keepIn K (.ref 156),
  decide (PySem.W.typeIn K (.ref 156) = some (.type "type")),
  decide (PySem.W.findIn K (.ref 113) "__getattribute__" = some (some (.builtin "BaseException.__getattribute__"))),
  decide (PySem.W.findIn K (.ref 113) "__getattr__" = some none),
  decide (PySem.W.subIn K (.ref 113) (.type "BaseException") = some true),
  PySem.W.hasDictIn K 113,
  decide (PySem.W.findIn K (.ref 113) "__class__" = some (some (.builtin "object.__class__")))]
def FB7 (K : PySem.W.Frag) : List Bool := [decide (PySem.W.specialIn K (.builtin "object.__class__") "__get__" = some (some (.builtin "getset_descriptor.__get__"))),
  decide (PySem.W.takesIn K (.builtin "object.__class__") = some true),
  decide (PySem.W.mroIn K 113 (.type "object") = some true),
  decide (PySem.W.findIn K (.ref 213) "__getattribute__" = some (some (.builtin "BaseException.__getattribute__"))),
  decide (PySem.W.findIn K (.ref 213) "__getattr__" = some none),
  decide (PySem.W.subIn K (.ref 213) (.type "BaseException") = some true),
  PySem.W.hasDictIn K 213,
  decide (PySem.W.findIn K (.ref 213) "__class__" = some (some (.builtin "object.__class__"))),
  decide (PySem.W.specialIn K (.builtin "object.__class__") "__get__" = some (some (.builtin "getset_descriptor.__get__"))),
  decide (PySem.W.takesIn K (.builtin "object.__class__") = some true),
  decide (PySem.W.mroIn K 213 (.type "object") = some true),
  decide (PySem.W.findIn K (.ref 175) "__getattribute__" = some (some (.builtin "BaseException.__getattribute__"))),
  decide (PySem.W.findIn K (.ref 175) "__getattr__" = some none),
  decide (PySem.W.subIn K (.ref 175) (.type "BaseException") = some true),
  PySem.W.hasDictIn K 175,
  decide (PySem.W.findIn K (.ref 175) "__class__" = some (some (.builtin "object.__class__"))),
  decide (PySem.W.specialIn K (.builtin "object.__class__") "__get__" = some (some (.builtin "getset_descriptor.__get__"))),
  decide (PySem.W.takesIn K (.builtin "object.__class__") = some true),
  decide (PySem.W.mroIn K 175 (.type "object") = some true),
  decide (PySem.W.findIn K (.ref 156) "__getattribute__" = some (some (.builtin "BaseException.__getattribute__"))),
  decide (PySem.W.findIn K (.ref 156) "__getattr__" = some none),
  decide (PySem.W.subIn K (.ref 156) (.type "BaseException") = some true),
  PySem.W.hasDictIn K 156,
  decide (PySem.W.findIn K (.ref 156) "__class__" = some (some (.builtin "object.__class__"))),
  decide (PySem.W.specialIn K (.builtin "object.__class__") "__get__" = some (some (.builtin "getset_descriptor.__get__")))]
def FB8 (K : PySem.W.Frag) : List Bool := [decide (PySem.W.takesIn K (.builtin "object.__class__") = some true),
  decide (PySem.W.mroIn K 156 (.type "object") = some true),
  decide (PySem.W.findIn K (.ref 113) "line" = some none),
  decide (PySem.W.findIn K (.ref 113) "word" = some none),
  decide (PySem.W.typeIn K (.ref 110) = some (.type "function")),
  decide (PySem.W.findIn K (.ref 213) "word" = some none),
  decide (PySem.W.typeIn K (.ref 210) = some (.type "function")),
  decide (PySem.W.findIn K (.ref 175) "place" = some none),
  decide (PySem.W.typeIn K (.ref 172) = some (.type "function")),
  PySem.W.makesIn K 366,
  PySem.W.keepIn K (.ref 366),
  decide (PySem.W.findIn K (.ref 366) "__class__" = some (some (.builtin "object.__class__"))),
  decide (PySem.W.specialIn K (.builtin "object.__class__") "__get__" = some (some (.builtin "getset_descriptor.__get__"))),
  decide (PySem.W.takesIn K (.builtin "object.__class__") = some true),
  decide (PySem.W.mroIn K 366 (.type "object") = some true),
  PySem.W.isClsIn K 366,
  decide (PySem.W.typeIn K (.ref 366) = some (.type "type")),
  decide (PySem.W.findIn K (.ref 366) "words" = some none),
  decide (PySem.W.findIn K (.ref 366) "line" = some none),
  decide (PySem.W.findIn K (.ref 366) "at" = some none),
  PySem.W.makesIn K 641,
  PySem.W.keepIn K (.ref 641),
  decide (PySem.W.findIn K (.ref 641) "__class__" = some (some (.builtin "object.__class__"))),
  decide (PySem.W.specialIn K (.builtin "object.__class__") "__get__" = some (some (.builtin "getset_descriptor.__get__"))),
  decide (PySem.W.takesIn K (.builtin "object.__class__") = some true)]
def FB9 (K : PySem.W.Frag) : List Bool := [decide (PySem.W.mroIn K 641 (.type "object") = some true),
  PySem.W.isClsIn K 641,
  decide (PySem.W.typeIn K (.ref 641) = some (.type "type")),
  decide (PySem.W.findIn K (.ref 641) "corrections" = some none),
  decide (PySem.W.findIn K (.ref 641) "_turns" = some none),
  PySem.W.isFn K (.ref 300),
  PySem.W.isFn K (.ref 307),
  PySem.W.isFn K (.ref 314),
  PySem.W.isFn K (.ref 321),
  PySem.W.isFn K (.ref 335),
  PySem.W.isFn K (.ref 342),
  PySem.W.isFn K (.ref 363),
  PySem.W.isFn K (.ref 586),
  decide (PySem.W.subIn K (.ref 113) (.ref 113) = some true),
  decide (PySem.W.subIn K (.ref 113) (.ref 213) = some false),
  decide (PySem.W.subIn K (.ref 113) (.ref 175) = some false),
  decide (PySem.W.subIn K (.ref 113) (.type "ValueError") = some true),
  decide (PySem.W.subIn K (.ref 113) (.ref 44) = some true),
  decide (PySem.W.subIn K (.ref 213) (.ref 113) = some false),
  decide (PySem.W.subIn K (.ref 213) (.ref 213) = some true),
  decide (PySem.W.subIn K (.ref 213) (.ref 175) = some false),
  decide (PySem.W.subIn K (.ref 213) (.type "ValueError") = some true),
  decide (PySem.W.subIn K (.ref 213) (.ref 44) = some false),
  decide (PySem.W.subIn K (.ref 175) (.ref 113) = some false),
  decide (PySem.W.subIn K (.ref 175) (.ref 213) = some false)]
def FB10 (K : PySem.W.Frag) : List Bool := [decide (PySem.W.subIn K (.ref 175) (.ref 175) = some true),
  decide (PySem.W.subIn K (.ref 175) (.type "ValueError") = some true),
  decide (PySem.W.subIn K (.ref 175) (.ref 44) = some true),
  decide (PySem.W.subIn K (.ref 113) (.ref 31) = some true),
  decide (PySem.W.subIn K (.ref 213) (.ref 31) = some true),
  decide (PySem.W.subIn K (.ref 175) (.ref 31) = some true),
  excQ K 113,
  decide (PySem.W.findIn K (.ref 113) "__setattr__" = some (some (.builtin "object.__setattr__"))),
  decide (PySem.W.subIn K (.ref 113) (.type "BaseException") = some true),
  decide (PySem.W.typeIn K (.ref 113) = some (.type "type")),
  PySem.W.keepIn K (.ref 113),
  excQ K 213,
  decide (PySem.W.findIn K (.ref 213) "__setattr__" = some (some (.builtin "object.__setattr__"))),
  decide (PySem.W.subIn K (.ref 213) (.type "BaseException") = some true),
  decide (PySem.W.typeIn K (.ref 213) = some (.type "type")),
  PySem.W.keepIn K (.ref 213),
  excQ K 175,
  decide (PySem.W.findIn K (.ref 175) "__setattr__" = some (some (.builtin "object.__setattr__"))),
  decide (PySem.W.subIn K (.ref 175) (.type "BaseException") = some true),
  decide (PySem.W.typeIn K (.ref 175) = some (.type "type")),
  PySem.W.keepIn K (.ref 175),
  PySem.W.plainGet K 366 Str.empty,
  PySem.W.hasDictIn K 366,
  PySem.W.plainOver K 366,
  decide (PySem.W.findIn K (.ref 366) "__setattr__" = some (some (.builtin "object.__setattr__")))]
def FB11 (K : PySem.W.Frag) : List Bool := [PySem.W.plainGet K 641 Str.empty,
  PySem.W.hasDictIn K 641,
  PySem.W.plainOver K 641,
  decide (PySem.W.findIn K (.ref 641) "__setattr__" = some (some (.builtin "object.__setattr__"))),
  PySem.W.isClsIn K 31,
  decide (PySem.W.typeIn K (.ref 31) = some (.type "type")),
  decide (PySem.W.subIn K (.ref 31) (.type "BaseException") = some true),
  PySem.W.hasDictIn K 31,
  PySem.W.isClsIn K 44,
  decide (PySem.W.typeIn K (.ref 44) = some (.type "type")),
  decide (PySem.W.subIn K (.ref 44) (.type "BaseException") = some true),
  PySem.W.hasDictIn K 44,
  PySem.W.isClsIn K 113,
  decide (PySem.W.typeIn K (.ref 113) = some (.type "type")),
  decide (PySem.W.subIn K (.ref 113) (.type "BaseException") = some true),
  PySem.W.hasDictIn K 113,
  PySem.W.isClsIn K 156,
  decide (PySem.W.typeIn K (.ref 156) = some (.type "type")),
  decide (PySem.W.subIn K (.ref 156) (.type "BaseException") = some true),
  PySem.W.hasDictIn K 156,
  PySem.W.isClsIn K 175,
  decide (PySem.W.typeIn K (.ref 175) = some (.type "type")),
  decide (PySem.W.subIn K (.ref 175) (.type "BaseException") = some true),
  PySem.W.hasDictIn K 175,
  PySem.W.isClsIn K 213]
def FB12 (K : PySem.W.Frag) : List Bool := [decide (PySem.W.typeIn K (.ref 213) = some (.type "type")),
  decide (PySem.W.subIn K (.ref 213) (.type "BaseException") = some true),
  PySem.W.hasDictIn K 213]
def FBs (K : PySem.W.Frag) : List Bool := FB0 K ++ (FB1 K ++ (FB2 K ++ (FB3 K ++ (FB4 K ++ (FB5 K ++ (FB6 K ++ (FB7 K ++ (FB8 K ++ (FB9 K ++ (FB10 K ++ (FB11 K ++ (FB12 K))))))))))))
def FLs : List Addr := [110, 172, 210, 222, 229, 236, 243, 248, 253, 267, 272, 279, 286, 300, 307, 314, 321, 335, 342, 363, 438, 586, 659, 664, 671, 676, 683, 690, 697, 704, 709, 716, 721, 728, 735, 742, 749, 756, 763, 770, 777, 784, 791, 798, 805, 810]
def FVs : List FnQ := [fnV "__init__" "BadLine.__init__" s_BadLine_init .none,
  fnV "__init__" "BadCorrection.__init__" s_BadCorrection_init .none,
  fnV "__init__" "TooMany.__init__" s_TooMany_init .none,
  fnV "is_integer" "is_integer" s_is_integer .none,
  fnV "is_within" "is_within" s_is_within .none,
  fnV "is_tuple" "is_tuple" s_is_tuple .none,
  fnV "is_sized" "is_sized" s_is_sized .none,
  fnV "read_integer" "read_integer" s_read_integer .none,
  fnV "kept_label" "kept_label" s_kept_label .none,
  fnV "kept_page" "kept_page" s_kept_page .none,
  fnV "read_label" "read_label" s_read_label .none,
  fnV "read_page" "read_page" s_read_page .none,
  fnV "line_words" "line_words" s_line_words .none,
  fnV "__init__" "Cursor.__init__" s_Cursor_init .none,
  fnV "more" "Cursor.more" s_Cursor_more .none,
  fnV "look" "Cursor.look" s_Cursor_look .none,
  fnV "take" "Cursor.take" s_Cursor_take .none,
  fnV "take_one" "Cursor.take_one" s_Cursor_take_one .none,
  fnV "take_integer" "Cursor.take_integer" s_Cursor_take_integer .none,
  fnV "take_end" "Cursor.take_end" s_Cursor_take_end .none,
  fnV "is_token" "is_token" s_is_token .none,
  fnV "__init__" "Errata.__init__" s_Errata_init .none,
  fnV "_turns_at_places" "_turns_at_places" s_turns_at_places .none,
  fnV "_judged_corrections" "_judged_corrections" s_judged_corrections .none,
  fnV "_kept_correction" "_kept_correction" s_kept_correction .none,
  fnV "read_errata" "read_errata" s_read_errata .none,
  fnV "_read_correction" "_read_correction" s_read_correction .none,
  fnV "_take_token" "_take_token" s_take_token .none,
  fnV "_law_source" "_law_source" s_source .none,
  fnV "_law_pick" "_law_pick" s_pick .none,
  fnV "_law_label_word" "_law_label_word" s_label_word .none,
  fnV "_law_page_word" "_law_page_word" s_page_word .none,
  fnV "_law_read_label" "_law_read_label" s_law_read_label .none,
  fnV "_law_read_page" "_law_read_page" s_law_read_page .none,
  fnV "_law_token" "_law_token" s_token .none,
  fnV "_law_other" "_law_other" s_other .none,
  fnV "_law_label" "_law_label" s_label .none,
  fnV "_law_line" "_law_line" s_line .none,
  fnV "_law_odd_word" "_law_odd_word" s_odd_word .none,
  fnV "_law_spoilt_words" "_law_spoilt_words" s_spoilt_words .none,
  fnV "_law_spoilt" "_law_spoilt" s_spoilt .none,
  fnV "_law_number" "_law_number" s_number .none,
  fnV "_law_fits" "_law_fits" s_fits .none,
  fnV "_law_due" "_law_due" s_due .none,
  fnV "_law_told" "_law_told" s_told .none,
  fnV "law" "law" s_law .none]
def ASs : List Addr := [2, 3, 15, 17, 18, 20, 21, 22, 29, 30, 31, 32, 35, 42, 43, 44, 47, 54, 55, 56, 59, 66, 68, 69, 71, 72, 73, 74, 75, 78, 85, 87, 88, 90, 91, 92, 93, 94, 97, 104, 106, 107, 109, 110, 111, 112, 113, 116, 123, 125, 126, 128, 129, 130, 131, 132, 135, 142, 143, 144, 147, 154, 155, 156, 159, 166, 168, 169, 171, 172, 173, 174, 175, 178, 185, 187, 188, 190, 191, 192, 193, 194, 197, 204, 206, 207, 209, 210, 211, 212, 213, 216, 218, 219, 221, 222, 223, 225, 226, 228, 229, 230, 232, 233, 235, 236, 237, 239, 240, 242, 243, 244, 247, 248, 249, 252, 253, 254, 256, 257, 259, 260, 261, 263, 264, 266, 267, 268, 271, 272, 273, 275, 276, 278, 279, 280, 282, 283, 285, 286, 294, 296, 297, 299, 300, 301, 303, 304, 306, 307, 308, 310, 311, 313, 314, 315, 317, 318, 320, 321, 322, 324, 325, 327, 328, 329, 331, 332, 334, 335, 336, 338, 339, 341, 342, 343, 345, 346, 348, 349, 350, 352, 353, 355, 356, 357, 359, 360, 362, 363, 364, 365, 366, 367, 368, 378, 379, 380, 383, 384, 385, 387, 388, 390, 391, 392, 394, 395, 397, 398, 399, 401, 402, 404, 405, 406, 408, 409, 411, 412, 413, 415, 416, 418, 419, 420, 423, 424, 425, 426, 427, 428, 429, 432, 434, 435, 437, 438, 439, 442, 443, 444, 447, 448, 449, 452, 453, 454, 457, 458, 459, 461, 462, 464, 465, 466, 468, 469, 471, 472, 480, 483, 484, 485, 488, 489, 490, 491, 493, 494, 496, 497, 498, 500, 501, 503, 504, 505, 507, 508, 510, 511, 512, 514, 515, 517, 518, 519, 521, 522, 524, 525, 526, 528, 529, 531, 532, 533, 535, 536, 538, 539, 540, 542, 543, 545, 546, 547, 549, 550, 552, 553, 554, 556, 557, 559, 560, 561, 562, 563, 564, 565, 568, 571, 572, 580, 582, 583, 585, 586, 587, 590, 591, 592, 594, 595, 597, 598, 599, 601, 602, 604, 605, 606, 609, 610, 611, 613, 614, 616, 617, 618, 620, 621, 623, 624, 625, 627, 628, 630, 631, 632, 634, 635, 637, 638, 639, 640, 641, 642, 643, 646, 648, 649, 651, 652, 653, 655, 656, 658, 659, 660, 663, 664, 665, 667, 668, 670, 671, 672, 675, 676, 677, 679, 680, 682, 683, 684, 686, 687, 689, 690, 691, 693, 694, 696, 697, 698, 700, 701, 703, 704, 705, 708, 709, 710, 712, 713, 715, 716, 717, 720, 721, 722, 724, 725, 727, 728, 729, 731, 732, 734, 735, 736, 738, 739, 741, 742, 743, 745, 746, 748, 749, 750, 752, 753, 755, 756, 757, 759, 760, 762, 763, 764, 766, 767, 769, 770, 771, 773, 774, 776, 777, 778, 780, 781, 783, 784, 785, 787, 788, 790, 791, 792, 794, 795, 797, 798, 799, 801, 802, 804, 805, 806, 809, 810]
def LN0 : List Str := ["_wall", "AfterError", "BadForm", "NotThere", "BadLabel", "BadOrder", "BadLine", "BadLeaf", "BadBook", "BadErrata", "BadCorrection", "Unknown", "TooMany", "is_integer", "is_within", "is_tuple", "is_sized", "read_integer", "kept_label", "judged_label", "kept_page", "read_label", "read_page", "line_words", "Cursor", "Leaf", "is_token", "_is_row", "_judged_rows", "_judged_pen"]
def LN1 : List Str := ["_kept_strokes", "_is_stroke", "_is_place", "Book", "_judged_leaves", "Errata", "_steps", "_turns_at_places", "_judged_corrections", "_kept_correction", "read_errata", "_read_correction", "_take_token", "_law_source", "_law_pick", "_law_label_word", "_law_page_word", "_law_read_label", "_law_read_page", "_law_token", "_law_other", "_law_label", "_law_line", "_law_odd_word", "_law_spoilt_words", "_law_spoilt", "_law_number", "_law_fits", "_law_due", "_law_told"]
def LN2 : List Str := ["DIGITS", "MOST_PARTS", "SIDES", "MOST_ROWS", "MOST_TOKENS", "MOST_SIGNS", "LONGEST_ROW", "MOST_LEAVES", "MOST_CORRECTIONS"]
def LNs : List Str := LN0 ++ LN1 ++ LN2
theorem all_q {l : PySem.W.OpenLaw} {w : World} {K : PySem.W.Frag} {h : Heap} {mg : Str → Option Value} {fa : Addr} (X : K.In h) (G : h.Ns mainGlobals mg) (hfa : mg "law" = some (.ref fa)) (c : obsQ FBs FLs K = (true, FVs))
    : ∃ fd : FuncData, (∀ (s : Shared) (v : Value), BindsTo s fd ⟨[v], []⟩ [("_law_script", v)]) ∧ ∀ base : Heap, K.In base → base.Ns mainGlobals mg → GnOk l.prog w K mg base CX0 12 fa fd ["_law_script"] (sp_law K) := by
  have cf : FLs.map (fnQ K) = FVs := congrArg (fun z : AlQ => z.2) c
  have d0 : (FBs K).all id = true := congrArg (fun z : AlQ => z.1) c
  obtain ⟨c0, d1⟩ := fb_app d0
  obtain ⟨c1, d2⟩ := fb_app d1
  obtain ⟨c2, d3⟩ := fb_app d2
  obtain ⟨c3, d4⟩ := fb_app d3
  obtain ⟨c4, d5⟩ := fb_app d4
  obtain ⟨c5, d6⟩ := fb_app d5
  obtain ⟨c6, d7⟩ := fb_app d6
  obtain ⟨c7, d8⟩ := fb_app d7
  obtain ⟨c8, d9⟩ := fb_app d8
  obtain ⟨c9, d10⟩ := fb_app d9
  obtain ⟨c10, d11⟩ := fb_app d10
  obtain ⟨c11, d12⟩ := fb_app d11
  have c12 := d12
  obtain ⟨_, _, _, _, _, _, _, _, _, l0, c0_⟩ := fnQ_ok (fl_at cf 0 rfl rfl) (fb_at c0 1 rfl)
  obtain ⟨_, _, _, _, _, _, _, _, _, l1, c1_⟩ := fnQ_ok (fl_at cf 1 rfl rfl) (fb_at c0 4 rfl)
  obtain ⟨_, _, _, _, _, _, _, _, _, l2, c2_⟩ := fnQ_ok (fl_at cf 2 rfl rfl) (fb_at c0 7 rfl)
  obtain ⟨_, _, _, _, _, _, _, _, _, l3, c3_⟩ := fnQ_ok (fl_at cf 3 rfl rfl) (fb_at c0 10 rfl)
  obtain ⟨_, _, _, _, _, _, _, _, _, l4, c4_⟩ := fnQ_ok (fl_at cf 4 rfl rfl) (fb_at c0 13 rfl)
  obtain ⟨_, _, _, _, _, _, _, _, _, l5, c5_⟩ := fnQ_ok (fl_at cf 5 rfl rfl) (fb_at c0 16 rfl)
  obtain ⟨_, _, _, _, _, _, _, _, _, l6, c6_⟩ := fnQ_ok (fl_at cf 6 rfl rfl) (fb_at c0 19 rfl)
  obtain ⟨_, _, _, _, _, _, _, _, _, l7, c7_⟩ := fnQ_ok (fl_at cf 7 rfl rfl) (fb_at c0 22 rfl)
  obtain ⟨_, _, _, _, _, _, _, _, _, l8, c8_⟩ := fnQ_ok (fl_at cf 8 rfl rfl) (fb_at c1 0 rfl)
  obtain ⟨_, _, _, _, _, _, _, _, _, l9, c9_⟩ := fnQ_ok (fl_at cf 9 rfl rfl) (fb_at c1 3 rfl)
  obtain ⟨_, _, _, _, _, _, _, _, _, l10, c10_⟩ := fnQ_ok (fl_at cf 10 rfl rfl) (fb_at c1 6 rfl)
  obtain ⟨_, _, _, _, _, _, _, _, _, l11, c11_⟩ := fnQ_ok (fl_at cf 11 rfl rfl) (fb_at c1 9 rfl)
  obtain ⟨_, _, _, _, _, _, _, _, _, l12, c12_⟩ := fnQ_ok (fl_at cf 12 rfl rfl) (fb_at c1 12 rfl)
  obtain ⟨_, _, _, _, _, _, _, _, _, l13, c13_⟩ := fnQ_ok (fl_at cf 13 rfl rfl) (fb_at c1 15 rfl)
  obtain ⟨_, _, _, _, _, _, _, _, _, l14, c14_⟩ := fnQ_ok (fl_at cf 14 rfl rfl) (fb_at c1 18 rfl)
  obtain ⟨_, _, _, _, _, _, _, _, _, l15, c15_⟩ := fnQ_ok (fl_at cf 15 rfl rfl) (fb_at c1 21 rfl)
  obtain ⟨_, _, _, _, _, _, _, _, _, l16, c16_⟩ := fnQ_ok (fl_at cf 16 rfl rfl) (fb_at c1 24 rfl)
  obtain ⟨_, _, _, _, _, _, _, _, _, l17, c17_⟩ := fnQ_ok (fl_at cf 17 rfl rfl) (fb_at c2 2 rfl)
  obtain ⟨_, _, _, _, _, _, _, _, _, l18, c18_⟩ := fnQ_ok (fl_at cf 18 rfl rfl) (fb_at c2 5 rfl)
  obtain ⟨_, _, _, _, _, _, _, _, _, l19, c19_⟩ := fnQ_ok (fl_at cf 19 rfl rfl) (fb_at c2 8 rfl)
  obtain ⟨_, _, _, _, _, _, _, _, _, l20, c20_⟩ := fnQ_ok (fl_at cf 20 rfl rfl) (fb_at c2 11 rfl)
  obtain ⟨_, _, _, _, _, _, _, _, _, l21, c21_⟩ := fnQ_ok (fl_at cf 21 rfl rfl) (fb_at c2 14 rfl)
  obtain ⟨_, _, _, _, _, _, _, _, _, l22, c22_⟩ := fnQ_ok (fl_at cf 22 rfl rfl) (fb_at c2 17 rfl)
  obtain ⟨_, _, _, _, _, _, _, _, _, l23, c23_⟩ := fnQ_ok (fl_at cf 23 rfl rfl) (fb_at c2 20 rfl)
  obtain ⟨_, _, _, _, _, _, _, _, _, l24, c24_⟩ := fnQ_ok (fl_at cf 24 rfl rfl) (fb_at c2 23 rfl)
  obtain ⟨_, _, _, _, _, _, _, _, _, l25, c25_⟩ := fnQ_ok (fl_at cf 25 rfl rfl) (fb_at c3 1 rfl)
  obtain ⟨_, _, _, _, _, _, _, _, _, l26, c26_⟩ := fnQ_ok (fl_at cf 26 rfl rfl) (fb_at c3 4 rfl)
  obtain ⟨_, _, _, _, _, _, _, _, _, l27, c27_⟩ := fnQ_ok (fl_at cf 27 rfl rfl) (fb_at c3 7 rfl)
  obtain ⟨_, _, _, _, _, _, _, _, _, l28, c28_⟩ := fnQ_ok (fl_at cf 28 rfl rfl) (fb_at c3 10 rfl)
  obtain ⟨_, _, _, _, _, _, _, _, _, l29, c29_⟩ := fnQ_ok (fl_at cf 29 rfl rfl) (fb_at c3 13 rfl)
  obtain ⟨_, _, _, _, _, _, _, _, _, l30, c30_⟩ := fnQ_ok (fl_at cf 30 rfl rfl) (fb_at c3 16 rfl)
  obtain ⟨_, _, _, _, _, _, _, _, _, l31, c31_⟩ := fnQ_ok (fl_at cf 31 rfl rfl) (fb_at c3 19 rfl)
  obtain ⟨_, _, _, _, _, _, _, _, _, l32, c32_⟩ := fnQ_ok (fl_at cf 32 rfl rfl) (fb_at c3 22 rfl)
  obtain ⟨_, _, _, _, _, _, _, _, _, l33, c33_⟩ := fnQ_ok (fl_at cf 33 rfl rfl) (fb_at c4 0 rfl)
  obtain ⟨_, _, _, _, _, _, _, _, _, l34, c34_⟩ := fnQ_ok (fl_at cf 34 rfl rfl) (fb_at c4 3 rfl)
  obtain ⟨_, _, _, _, _, _, _, _, _, l35, c35_⟩ := fnQ_ok (fl_at cf 35 rfl rfl) (fb_at c4 6 rfl)
  obtain ⟨_, _, _, _, _, _, _, _, _, l36, c36_⟩ := fnQ_ok (fl_at cf 36 rfl rfl) (fb_at c4 9 rfl)
  obtain ⟨_, _, _, _, _, _, _, _, _, l37, c37_⟩ := fnQ_ok (fl_at cf 37 rfl rfl) (fb_at c4 12 rfl)
  obtain ⟨_, _, _, _, _, _, _, _, _, l38, c38_⟩ := fnQ_ok (fl_at cf 38 rfl rfl) (fb_at c4 15 rfl)
  obtain ⟨_, _, _, _, _, _, _, _, _, l39, c39_⟩ := fnQ_ok (fl_at cf 39 rfl rfl) (fb_at c4 18 rfl)
  obtain ⟨_, _, _, _, _, _, _, _, _, l40, c40_⟩ := fnQ_ok (fl_at cf 40 rfl rfl) (fb_at c4 21 rfl)
  obtain ⟨_, _, _, _, _, _, _, _, _, l41, c41_⟩ := fnQ_ok (fl_at cf 41 rfl rfl) (fb_at c4 24 rfl)
  obtain ⟨_, _, _, _, _, _, _, _, _, l42, c42_⟩ := fnQ_ok (fl_at cf 42 rfl rfl) (fb_at c5 2 rfl)
  obtain ⟨_, _, _, _, _, _, _, _, _, l43, c43_⟩ := fnQ_ok (fl_at cf 43 rfl rfl) (fb_at c5 5 rfl)
  obtain ⟨_, _, _, _, _, _, _, _, _, l44, c44_⟩ := fnQ_ok (fl_at cf 44 rfl rfl) (fb_at c5 8 rfl)
  obtain ⟨_, _, _, _, _, _, _, _, _, l45, c45_⟩ := fnQ_ok (fl_at cf 45 rfl rfl) (fb_at c5 11 rfl)
  obtain ⟨_, v_DIGITS⟩ := strQ_ok (fb_at c5 13 rfl)
  obtain ⟨_, v_MOST_CORRECTIONS⟩ := intQ_ok (fb_at c5 14 rfl)
  obtain ⟨_, v_MOST_PARTS⟩ := intQ_ok (fb_at c5 15 rfl)
  obtain ⟨_, v_MOST_ROWS⟩ := intQ_ok (fb_at c5 16 rfl)
  obtain ⟨_, v_MOST_SIGNS⟩ := intQ_ok (fb_at c5 17 rfl)
  obtain ⟨_, v_MOST_TOKENS⟩ := intQ_ok (fb_at c5 18 rfl)
  obtain ⟨_, v_SIDES⟩ := strQ_ok (fb_at c5 19 rfl)
  obtain ⟨_, _, _, _, _, _, _, _, _, _, _, _, _, _, _, xl_BadLine, rf_BadLine⟩ := excQ_ok (fb_at c10 6 rfl)
  obtain ⟨_, _, _, _, _, _, _, _, _, _, _, _, _, _, _, xl_TooMany, rf_TooMany⟩ := excQ_ok (fb_at c10 11 rfl)
  obtain ⟨_, _, _, _, _, _, _, _, _, _, _, _, _, _, _, xl_BadCorrection, rf_BadCorrection⟩ := excQ_ok (fb_at c10 16 rfl)
  exact all_mk X G hfa (fb_is c0 0 rfl) l0 c0_ (fb_at c0 2 rfl) (fb_is c0 3 rfl) l1 c1_ (fb_at c0 5 rfl) (fb_is c0 6 rfl) l2 c2_ (fb_at c0 8 rfl) (fb_is c0 9 rfl) l3 c3_ (fb_at c0 11 rfl) (fb_is c0 12 rfl) l4 c4_ (fb_at c0 14 rfl) (fb_is c0 15 rfl) l5 c5_ (fb_at c0 17 rfl) (fb_is c0 18 rfl) l6 c6_ (fb_at c0 20 rfl) (fb_is c0 21 rfl) l7 c7_ (fb_at c0 23 rfl) (fb_is c0 24 rfl) l8 c8_ (fb_at c1 1 rfl) (fb_is c1 2 rfl) l9 c9_ (fb_at c1 4 rfl) (fb_is c1 5 rfl) l10 c10_ (fb_at c1 7 rfl) (fb_is c1 8 rfl) l11 c11_ (fb_at c1 10 rfl) (fb_is c1 11 rfl) l12 c12_ (fb_at c1 13 rfl) (fb_is c1 14 rfl) l13 c13_ (fb_at c1 16 rfl) (fb_is c1 17 rfl) l14 c14_ (fb_at c1 19 rfl) (fb_is c1 20 rfl) l15 c15_ (fb_at c1 22 rfl) (fb_is c1 23 rfl) l16 c16_ (fb_at c2 0 rfl) (fb_is c2 1 rfl) l17 c17_ (fb_at c2 3 rfl) (fb_is c2 4 rfl) l18 c18_ (fb_at c2 6 rfl) (fb_is c2 7 rfl) l19 c19_ (fb_at c2 9 rfl) (fb_is c2 10 rfl) l20 c20_ (fb_at c2 12 rfl) (fb_is c2 13 rfl) l21 c21_ (fb_at c2 15 rfl) (fb_is c2 16 rfl) l22 c22_ (fb_at c2 18 rfl) (fb_is c2 19 rfl) l23 c23_ (fb_at c2 21 rfl) (fb_is c2 22 rfl) l24 c24_ (fb_at c2 24 rfl) (fb_is c3 0 rfl) l25 c25_ (fb_at c3 2 rfl) (fb_is c3 3 rfl) l26 c26_ (fb_at c3 5 rfl) (fb_is c3 6 rfl) l27 c27_ (fb_at c3 8 rfl) (fb_is c3 9 rfl) l28 c28_ (fb_at c3 11 rfl) (fb_is c3 12 rfl) l29 c29_ (fb_at c3 14 rfl) (fb_is c3 15 rfl) l30 c30_ (fb_at c3 17 rfl) (fb_is c3 18 rfl) l31 c31_ (fb_at c3 20 rfl) (fb_is c3 21 rfl) l32 c32_ (fb_at c3 23 rfl) (fb_is c3 24 rfl) l33 c33_ (fb_at c4 1 rfl) (fb_is c4 2 rfl) l34 c34_ (fb_at c4 4 rfl) (fb_is c4 5 rfl) l35 c35_ (fb_at c4 7 rfl) (fb_is c4 8 rfl) l36 c36_ (fb_at c4 10 rfl) (fb_is c4 11 rfl) l37 c37_ (fb_at c4 13 rfl) (fb_is c4 14 rfl) l38 c38_ (fb_at c4 16 rfl) (fb_is c4 17 rfl) l39 c39_ (fb_at c4 19 rfl) (fb_is c4 20 rfl) l40 c40_ (fb_at c4 22 rfl) (fb_is c4 23 rfl) l41 c41_ (fb_at c5 0 rfl) (fb_is c5 1 rfl) l42 c42_ (fb_at c5 3 rfl) (fb_is c5 4 rfl) l43 c43_ (fb_at c5 6 rfl) (fb_is c5 7 rfl) l44 c44_ (fb_at c5 9 rfl) (fb_is c5 10 rfl) l45 c45_ (fb_at c5 12 rfl) v_DIGITS v_MOST_CORRECTIONS v_MOST_PARTS v_MOST_ROWS v_MOST_SIGNS v_MOST_TOKENS v_SIDES (fb_is c5 20 rfl) (fb_is c5 21 rfl) (fb_is c5 22 rfl) (fb_is c5 23 rfl) (fb_is c5 24 rfl) (fb_is c6 0 rfl) (fb_is c6 1 rfl) (fb_is c6 2 rfl) (fb_is c6 3 rfl) (fb_is c6 4 rfl) (fb_is c6 5 rfl) (fb_is c6 6 rfl) (fb_is c6 7 rfl) (fb_is c6 8 rfl) (fb_is c6 9 rfl) (fb_is c6 10 rfl) (fb_is c6 11 rfl) (fb_is c6 12 rfl) (fb_is c6 13 rfl) (fb_is c6 14 rfl) (fb_is c6 15 rfl) (fb_is c6 16 rfl) (fb_at c6 17 rfl) (fb_at c6 18 rfl) (fb_is c6 19 rfl) (fb_is c6 20 rfl) (fb_is c6 21 rfl) (fb_is c6 22 rfl) (fb_at c6 23 rfl) (fb_is c6 24 rfl) (fb_is c7 0 rfl) (fb_is c7 1 rfl) (fb_is c7 2 rfl) (fb_is c7 3 rfl) (fb_is c7 4 rfl) (fb_is c7 5 rfl) (fb_at c7 6 rfl) (fb_is c7 7 rfl) (fb_is c7 8 rfl) (fb_is c7 9 rfl) (fb_is c7 10 rfl) (fb_is c7 11 rfl) (fb_is c7 12 rfl) (fb_is c7 13 rfl) (fb_at c7 14 rfl) (fb_is c7 15 rfl) (fb_is c7 16 rfl) (fb_is c7 17 rfl) (fb_is c7 18 rfl) (fb_is c7 19 rfl) (fb_is c7 20 rfl) (fb_is c7 21 rfl) (fb_at c7 22 rfl) (fb_is c7 23 rfl) (fb_is c7 24 rfl) (fb_is c8 0 rfl) (fb_is c8 1 rfl) (fb_is c8 2 rfl) (fb_is c8 3 rfl) (fb_is c8 4 rfl) (fb_is c8 5 rfl) (fb_is c8 6 rfl) (fb_is c8 7 rfl) (fb_is c8 8 rfl) (fb_at c8 9 rfl) (fb_at c8 10 rfl) (fb_is c8 11 rfl) (fb_is c8 12 rfl) (fb_is c8 13 rfl) (fb_is c8 14 rfl) (fb_at c8 15 rfl) (fb_is c8 16 rfl) (fb_is c8 17 rfl) (fb_is c8 18 rfl) (fb_is c8 19 rfl) (fb_at c8 20 rfl) (fb_at c8 21 rfl) (fb_is c8 22 rfl) (fb_is c8 23 rfl) (fb_is c8 24 rfl) (fb_is c9 0 rfl) (fb_at c9 1 rfl) (fb_is c9 2 rfl) (fb_is c9 3 rfl) (fb_is c9 4 rfl) (fb_at c9 5 rfl) (fb_at c9 6 rfl) (fb_at c9 7 rfl) (fb_at c9 8 rfl) (fb_at c9 9 rfl) (fb_at c9 10 rfl) (fb_at c9 11 rfl) (fb_at c9 12 rfl) (fb_is c9 13 rfl) (fb_is c9 14 rfl) (fb_is c9 15 rfl) (fb_is c9 16 rfl) (fb_is c9 17 rfl) (fb_is c9 18 rfl) (fb_is c9 19 rfl) (fb_is c9 20 rfl) (fb_is c9 21 rfl) (fb_is c9 22 rfl) (fb_is c9 23 rfl) (fb_is c9 24 rfl) (fb_is c10 0 rfl) (fb_is c10 1 rfl) (fb_is c10 2 rfl) (fb_is c10 3 rfl) (fb_is c10 4 rfl) (fb_is c10 5 rfl) xl_BadLine rf_BadLine (fb_is c10 7 rfl) (fb_is c10 8 rfl) (fb_is c10 9 rfl) (fb_at c10 10 rfl) xl_TooMany rf_TooMany (fb_is c10 12 rfl) (fb_is c10 13 rfl) (fb_is c10 14 rfl) (fb_at c10 15 rfl) xl_BadCorrection rf_BadCorrection (fb_is c10 17 rfl) (fb_is c10 18 rfl) (fb_is c10 19 rfl) (fb_at c10 20 rfl) (fb_at c10 21 rfl) (fb_at c10 22 rfl) (fb_at c10 23 rfl) (fb_is c10 24 rfl) (fb_at c11 0 rfl) (fb_at c11 1 rfl) (fb_at c11 2 rfl) (fb_is c11 3 rfl) (fb_at c11 4 rfl) (fb_is c11 5 rfl) (fb_is c11 6 rfl) (fb_at c11 7 rfl) (fb_at c11 8 rfl) (fb_is c11 9 rfl) (fb_is c11 10 rfl) (fb_at c11 11 rfl) (fb_at c11 12 rfl) (fb_is c11 13 rfl) (fb_is c11 14 rfl) (fb_at c11 15 rfl) (fb_at c11 16 rfl) (fb_is c11 17 rfl) (fb_is c11 18 rfl) (fb_at c11 19 rfl) (fb_at c11 20 rfl) (fb_is c11 21 rfl) (fb_is c11 22 rfl) (fb_at c11 23 rfl) (fb_at c11 24 rfl) (fb_is c12 0 rfl) (fb_is c12 1 rfl) (fb_at c12 2 rfl) (by decide) (by decide) (by decide) (by decide) (by decide) (by decide) (by decide)
abbrev RX : PySem.W.OpenRow := PySem.W.OpenLaw.row PySem.Challenge.rw_afterleaves_k54_bad_errata_lines
abbrev hkX : PySem.W.Hook := hookQ ASs FBs FLs FVs
def obX (s : PySem.W.SharedT) : AlQ := obsQG ASs FBs FLs (HandSHeadRun.getT s)
theorem ob_eqX (s : PySem.W.SharedT) : obX s = hkX.obs s.abs := obsQG_eq (HandSHeadRun.getT_eq s)
set_option maxHeartbeats 0 in
theorem runX (w : World) : HandSHeadRun.RunEq RX (PySem.W.view RX.prog [78]) hkX obX 30000 LNs w := by
  intro os
  kernel_rfl
end K54
open PySem PySem.W PySem.Calls PyProof.Rows
set_option maxRecDepth 100000 in
set_option maxHeartbeats 0 in
theorem PySem.Challenge.cw_afterleaves_k54_bad_errata_lines_holds : PySem.Challenge.rw_afterleaves_k54_bad_errata_lines.Holds := by
  w_on; o_law
  refine HandSHeadRun.head_any (r := OpenLaw.row PySem.Challenge.rw_afterleaves_k54_bad_errata_lines) (q := view (OpenLaw.row PySem.Challenge.rw_afterleaves_k54_bad_errata_lines).prog [78]) (H := K54.hkX) (ob := K54.obX) (M := 30000) (loose := K54.LNs) (d := HandSHeadRun.topDef (OpenLaw.row PySem.Challenge.rw_afterleaves_k54_bad_errata_lines).prog 78) (kwd := []) K54.ob_eqX
    (by kernel_rfl) (fun s => by kernel_rfl) K54.runX (by kernel_rfl) (by kernel_rfl) (by kernel_rfl) (by rfl) (by first | assumption | decide +kernel) (by decide +kernel) ⟨rfl, rfl, rfl, rfl, rfl, by decide +kernel⟩ ?hw ?hc
  case hw => w_witness2
  case hc =>
    refine K54.walk_ofGQ (l := PySem.Challenge.rw_afterleaves_k54_bad_errata_lines) (n := 63) (k := 12) (x := "_law_script") (CX := fun _ => L2.CX0) (sp := fun w K => K54.sp_law K) rfl (by decide) (by kernel_rfl) ⟨rfl, by decide, by decide⟩ ?F (fun w K H a ns hl _ hS => ⟨a, ns, rfl, hS, hl, fun _ => rfl⟩) (fun _ _ _ _ _ h => h)
    intro w mg fa h Y G hmg0
    obtain ⟨K, KX, c⟩ := Y
    have hmg : mg ("law" : PySem.Str) = some (.ref fa) := by
      have e : (HandSHeadRun.topDef (OpenLaw.row PySem.Challenge.rw_afterleaves_k54_bad_errata_lines).prog 78).name = ("law" : PySem.Str) := by kernel_rfl
      rw [← e]
      exact hmg0
    obtain ⟨fd, hb, hF⟩ := K54.all_q (l := PySem.Challenge.rw_afterleaves_k54_bad_errata_lines) (w := w) KX G hmg c
    exact ⟨K, fd, KX, hb, hF⟩

import PyProof.Rows.All
import Wide.All
import OpenK.AllK
import Wide.FinOn
import HandS.ForMost
import HandS.Codes
import HandS.IsInst
import HandS.Walk
import HandS.TupLe
import HandS.DeepEq
import HandS.TupAny
import HandS.Deep
import HandS.FStr
import HandS.StrMore
import HandS.TryMany
import HandS.NoneIn
import HandS.ForExc
import HandS.ExcInit
import HandS.ExcField
import HandS.ExcIs
import KE.KExcIs
import KE.KRevSl
import PyProof.StrLawsRepr
import HandS.Flow
import HandS.OwnEq
import HandS.Defaults
import HandS.MakeKw
import HandS.MakeKwOnly
import HandS.SortRule
import HandS.NamedTupSort
import KE.GoesRaise
import HandS.HotCalls
import HandS.DictComp
import HandS.IterVal
import HandS.Property
import KE.DataCmp
import KE.SortCalls
import KE.SortData
import KE.GoesEnum
import HandS.Zip
import KE.KDictKeyed
import KE.KDictWalk
import KE.KDictList
import KE.KDictCopyH
import HandS.Strs
import KE.DataMinMax
import HandS.ForDict
import HandS.Iter
import HandS.SetKeys
import HandS.Star
import HandS.MethStar
import HandS.TupSets
import HandS.Conv
import HandS.BoundList
import HandS.Set
import HandS.SetFor
import HandS.Head0
import HandS.Head1
import HandS.Head2
import HandS.HeadEnd
import HandS.HeadHook1
import PySem.Challenge.RW_afterleaves_k51_carried_out
set_option Elab.async false
set_option linter.all false
set_option maxRecDepth 100000
set_option maxHeartbeats 4000000
namespace K51
open PySem PySem.Spec PyProof.Rows L2
/-! ### the text -/
def topS (i : Nat) : Stmt := PySem.Challenge.pw_afterleaves_k51_carried_out.main.body.getD i (.Pass ⟨0, 0, 0, 0⟩)
abbrev s_is_integer : Stmt := topS 14
abbrev N_is_integer : List Str := ["thing"]
theorem sc_is_integer : FnScope N_is_integer ["thing"] (defScope s_is_integer) := ⟨rfl, rfl, rfl, by decide +kernel, rfl, by decide +kernel, by decide +kernel⟩
abbrev s_is_within : Stmt := topS 15
abbrev N_is_within : List Str := ["thing", "least", "most"]
theorem sc_is_within : FnScope N_is_within ["thing", "least", "most"] (defScope s_is_within) := ⟨rfl, rfl, rfl, by decide +kernel, rfl, by decide +kernel, by decide +kernel⟩
abbrev s_is_tuple : Stmt := topS 16
abbrev N_is_tuple : List Str := ["thing"]
theorem sc_is_tuple : FnScope N_is_tuple ["thing"] (defScope s_is_tuple) := ⟨rfl, rfl, rfl, by decide +kernel, rfl, by decide +kernel, by decide +kernel⟩
abbrev s_is_sized : Stmt := topS 17
abbrev N_is_sized : List Str := ["thing", "least", "most"]
theorem sc_is_sized : FnScope N_is_sized ["thing", "least", "most"] (defScope s_is_sized) := ⟨rfl, rfl, rfl, by decide +kernel, rfl, by decide +kernel, by decide +kernel⟩
abbrev s_kept_label : Stmt := topS 20
abbrev N_kept_label : List Str := ["thing", "part"]
theorem sc_kept_label : FnScope N_kept_label ["thing"] (defScope s_kept_label) := ⟨rfl, rfl, rfl, by decide +kernel, rfl, by decide +kernel, by decide +kernel⟩
abbrev s_judged_label : Stmt := topS 21
abbrev N_judged_label : List Str := ["thing", "label"]
theorem sc_judged_label : FnScope N_judged_label ["thing"] (defScope s_judged_label) := ⟨rfl, rfl, rfl, by decide +kernel, rfl, by decide +kernel, by decide +kernel⟩
abbrev s_kept_page : Stmt := topS 22
abbrev N_kept_page : List Str := ["thing", "label"]
theorem sc_kept_page : FnScope N_kept_page ["thing"] (defScope s_kept_page) := ⟨rfl, rfl, rfl, by decide +kernel, rfl, by decide +kernel, by decide +kernel⟩
abbrev s_Leaf_init : Stmt := inClass (topS 28) 0
abbrev N_Leaf_init : List Str := ["self", "label", "front", "back", "pen", "stroke"]
theorem sc_Leaf_init : FnScope N_Leaf_init ["self", "label", "front", "back", "pen"] (defScope s_Leaf_init) := ⟨rfl, rfl, rfl, by decide +kernel, rfl, by decide +kernel, by decide +kernel⟩
abbrev s_Leaf_side_rows : Stmt := inClass (topS 28) 2
abbrev N_Leaf_side_rows : List Str := ["self", "side"]
theorem sc_Leaf_side_rows : FnScope N_Leaf_side_rows ["self", "side"] (defScope s_Leaf_side_rows) := ⟨rfl, rfl, rfl, by decide +kernel, rfl, by decide +kernel, by decide +kernel⟩
abbrev s_Leaf_says : Stmt := inClass (topS 28) 3
abbrev N_Leaf_says : List Str := ["self", "side", "row", "word", "printed"]
theorem sc_Leaf_says : FnScope N_Leaf_says ["self", "side", "row", "word"] (defScope s_Leaf_says) := ⟨rfl, rfl, rfl, by decide +kernel, rfl, by decide +kernel, by decide +kernel⟩
abbrev s_Leaf_penned : Stmt := inClass (topS 28) 6
abbrev N_Leaf_penned : List Str := ["self", "strokes", "kept", "table", "stroke", "place"]
theorem sc_Leaf_penned : FnScope N_Leaf_penned ["self", "strokes"] (defScope s_Leaf_penned) := ⟨rfl, rfl, rfl, by decide +kernel, rfl, by decide +kernel, by decide +kernel⟩
abbrev s_is_token : Stmt := topS 29
abbrev N_is_token : List Str := ["thing"]
theorem sc_is_token : FnScope N_is_token ["thing"] (defScope s_is_token) := ⟨rfl, rfl, rfl, by decide +kernel, rfl, by decide +kernel, by decide +kernel⟩
abbrev s_is_row : Stmt := topS 30
abbrev N_is_row : List Str := ["thing", "tokens", "token"]
theorem sc_is_row : FnScope N_is_row ["thing"] (defScope s_is_row) := ⟨rfl, rfl, rfl, by decide +kernel, rfl, by decide +kernel, by decide +kernel⟩
abbrev s_judged_rows : Stmt := topS 31
abbrev N_judged_rows : List Str := ["rows", "least", "side", "row"]
theorem sc_judged_rows : FnScope N_judged_rows ["rows", "least", "side"] (defScope s_judged_rows) := ⟨rfl, rfl, rfl, by decide +kernel, rfl, by decide +kernel, by decide +kernel⟩
abbrev s_judged_pen : Stmt := topS 32
abbrev N_judged_pen : List Str := ["front", "back", "pen", "strokes", "stroke", "one", "other"]
theorem sc_judged_pen : FnScope N_judged_pen ["front", "back", "pen"] (defScope s_judged_pen) := ⟨rfl, rfl, rfl, by decide +kernel, rfl, by decide +kernel, by decide +kernel⟩
abbrev s_kept_strokes : Stmt := topS 33
abbrev N_kept_strokes : List Str := ["strokes", "stroke"]
theorem sc_kept_strokes : FnScope N_kept_strokes ["strokes"] (defScope s_kept_strokes) := ⟨rfl, rfl, rfl, by decide +kernel, rfl, by decide +kernel, by decide +kernel⟩
abbrev s_is_stroke : Stmt := topS 34
abbrev N_is_stroke : List Str := ["thing"]
theorem sc_is_stroke : FnScope N_is_stroke ["thing"] (defScope s_is_stroke) := ⟨rfl, rfl, rfl, by decide +kernel, rfl, by decide +kernel, by decide +kernel⟩
abbrev s_is_place : Stmt := topS 35
abbrev N_is_place : List Str := ["front", "back", "place", "side", "row", "word", "rows"]
theorem sc_is_place : FnScope N_is_place ["front", "back", "place"] (defScope s_is_place) := ⟨rfl, rfl, rfl, by decide +kernel, rfl, by decide +kernel, by decide +kernel⟩
abbrev s_Book_init : Stmt := inClass (topS 38) 0
abbrev N_Book_init : List Str := ["self", "leaves", "k", "leaf"]
theorem sc_Book_init : FnScope N_Book_init ["self", "leaves"] (defScope s_Book_init) := ⟨rfl, rfl, rfl, by decide +kernel, rfl, by decide +kernel, by decide +kernel⟩
abbrev s_Book_iter : Stmt := inClass (topS 38) 5
abbrev N_Book_iter : List Str := ["self"]
theorem sc_Book_iter : FnScope N_Book_iter ["self"] (defScope s_Book_iter) := ⟨rfl, rfl, rfl, by decide +kernel, rfl, by decide +kernel, by decide +kernel⟩
abbrev s_judged_leaves : Stmt := topS 39
abbrev N_judged_leaves : List Str := ["leaves", "k", "leaf"]
theorem sc_judged_leaves : FnScope N_judged_leaves ["leaves"] (defScope s_judged_leaves) := ⟨rfl, rfl, rfl, by decide +kernel, rfl, by decide +kernel, by decide +kernel⟩
abbrev s_Errata_init : Stmt := inClass (topS 42) 0
abbrev N_Errata_init : List Str := ["self", "corrections"]
theorem sc_Errata_init : FnScope N_Errata_init ["self", "corrections"] (defScope s_Errata_init) := ⟨rfl, rfl, rfl, by decide +kernel, rfl, by decide +kernel, by decide +kernel⟩
abbrev s_Errata_call : Stmt := inClass (topS 42) 1
abbrev N_Errata_call : List Str := ["self", "book", "leaves", "leaf", "strokes", "token", "page", "row", "word"]
theorem sc_Errata_call : FnScope N_Errata_call ["self", "book"] (defScope s_Errata_call) := ⟨rfl, rfl, rfl, by decide +kernel, rfl, by decide +kernel, by decide +kernel⟩
abbrev s_Errata_leaf_turns : Stmt := inClass (topS 42) 2
abbrev N_Errata_leaf_turns : List Str := ["self", "leaf", "done", "place", "label", "side", "row", "word", "token"]
theorem sc_Errata_leaf_turns : FnScope N_Errata_leaf_turns ["self", "leaf"] (defScope s_Errata_leaf_turns) := ⟨rfl, rfl, rfl, by decide +kernel, rfl, by decide +kernel, by decide +kernel⟩
abbrev s_Errata_turned : Stmt := inClass (topS 42) 3
abbrev N_Errata_turned : List Str := ["self", "page", "row", "word", "token", "turns", "steps"]
theorem sc_Errata_turned : FnScope N_Errata_turned ["self", "page", "row", "word", "token"] (defScope s_Errata_turned) := ⟨rfl, rfl, rfl, by decide +kernel, rfl, by decide +kernel, by decide +kernel⟩
abbrev s_steps : Stmt := topS 43
abbrev N_steps : List Str := ["token", "turns", "steps", "old", "new"]
theorem sc_steps : FnScope N_steps ["token", "turns"] (defScope s_steps) := ⟨rfl, rfl, rfl, by decide +kernel, rfl, by decide +kernel, by decide +kernel⟩
abbrev s_turns_at_places : Stmt := topS 44
abbrev N_turns_at_places : List Str := ["corrections", "turns", "page", "row", "word", "old", "new"]
theorem sc_turns_at_places : FnScope N_turns_at_places ["corrections"] (defScope s_turns_at_places) := ⟨rfl, rfl, rfl, by decide +kernel, rfl, by decide +kernel, by decide +kernel⟩
abbrev s_judged_corrections : Stmt := topS 45
abbrev N_judged_corrections : List Str := ["corrections", "kept", "thing"]
theorem sc_judged_corrections : FnScope N_judged_corrections ["corrections"] (defScope s_judged_corrections) := ⟨rfl, rfl, rfl, by decide +kernel, rfl, by decide +kernel, by decide +kernel⟩
abbrev s_kept_correction : Stmt := topS 46
abbrev N_kept_correction : List Str := ["thing", "page", "row", "word", "old", "new"]
theorem sc_kept_correction : FnScope N_kept_correction ["thing"] (defScope s_kept_correction) := ⟨rfl, rfl, rfl, by decide +kernel, rfl, by decide +kernel, by decide +kernel⟩
abbrev s_source : Stmt := topS 48
abbrev N_source : List Str := ["_law_script", "_law_k", "_law_cell", "_law_number", "_law_great"]
theorem sc_source : FnScope N_source ["_law_script", "_law_k"] (defScope s_source) := ⟨rfl, rfl, rfl, by decide +kernel, rfl, by decide +kernel, by decide +kernel⟩
abbrev s_pick : Stmt := topS 49
abbrev N_pick : List Str := ["_law_source_here", "_law_many", "_law_taken"]
theorem sc_pick : FnScope N_pick ["_law_source_here", "_law_many"] (defScope s_pick) := ⟨rfl, rfl, rfl, by decide +kernel, rfl, by decide +kernel, by decide +kernel⟩
abbrev s_law_is_integer : Stmt := topS 50
abbrev N_law_is_integer : List Str := ["_law_actual"]
theorem sc_law_is_integer : FnScope N_law_is_integer ["_law_actual"] (defScope s_law_is_integer) := ⟨rfl, rfl, rfl, by decide +kernel, rfl, by decide +kernel, by decide +kernel⟩
abbrev s_is_book : Stmt := topS 51
abbrev N_is_book : List Str := ["_law_actual", "_law_leaves", "_law_told", "_law_sheet"]
theorem sc_is_book : FnScope N_is_book ["_law_actual", "_law_leaves"] (defScope s_is_book) := ⟨rfl, rfl, rfl, by decide +kernel, rfl, by decide +kernel, by decide +kernel⟩
abbrev s_deep_tuple : Stmt := topS 52
abbrev N_deep_tuple : List Str := ["_law_thing", "_law_part"]
theorem sc_deep_tuple : FnScope N_deep_tuple ["_law_thing"] (defScope s_deep_tuple) := ⟨rfl, rfl, rfl, by decide +kernel, rfl, by decide +kernel, by decide +kernel⟩
abbrev s_leaves_in : Stmt := topS 53
abbrev N_leaves_in : List Str := ["_law_book_here", "_law_sheet"]
theorem sc_leaves_in : FnScope N_leaves_in ["_law_book_here"] (defScope s_leaves_in) := ⟨rfl, rfl, rfl, by decide +kernel, rfl, by decide +kernel, by decide +kernel⟩
abbrev s_token : Stmt := topS 54
abbrev N_token : List Str := ["_law_source_here", "_law_most", "_law_signs", "_law_size", "_law_word", "_law_k", "_law_at"]
theorem sc_token : FnScope N_token ["_law_source_here", "_law_most"] (defScope s_token) := ⟨rfl, rfl, rfl, by decide +kernel, rfl, by decide +kernel, by decide +kernel⟩
abbrev s_other : Stmt := topS 55
abbrev N_other : List Str := ["_law_token_here"]
theorem sc_other : FnScope N_other ["_law_token_here"] (defScope s_other) := ⟨rfl, rfl, rfl, by decide +kernel, rfl, by decide +kernel, by decide +kernel⟩
abbrev s_tokens_pool : Stmt := topS 56
abbrev N_tokens_pool : List Str := ["_law_source_here", "_law_many", "_law_pool", "_law_k", "_law_most", "_law_word"]
theorem sc_tokens_pool : FnScope N_tokens_pool ["_law_source_here", "_law_many"] (defScope s_tokens_pool) := ⟨rfl, rfl, rfl, by decide +kernel, rfl, by decide +kernel, by decide +kernel⟩
abbrev s_label : Stmt := topS 57
abbrev N_label : List Str := ["_law_source_here", "_law_most", "_law_size", "_law_parts", "_law_k"]
theorem sc_label : FnScope N_label ["_law_source_here"] (defScope s_label) := ⟨rfl, rfl, rfl, by decide +kernel, rfl, by decide +kernel, by decide +kernel⟩
abbrev s_paper_row : Stmt := topS 58
abbrev N_paper_row : List Str := ["_law_source_here", "_law_pool", "_law_size", "_law_tokens", "_law_room", "_law_k", "_law_at"]
theorem sc_paper_row : FnScope N_paper_row ["_law_source_here", "_law_pool"] (defScope s_paper_row) := ⟨rfl, rfl, rfl, by decide +kernel, rfl, by decide +kernel, by decide +kernel⟩
abbrev s_side : Stmt := topS 59
abbrev N_side : List Str := ["_law_source_here", "_law_pool", "_law_least", "_law_most", "_law_size", "_law_k"]
theorem sc_side : FnScope N_side ["_law_source_here", "_law_pool", "_law_least"] (defScope s_side) := ⟨rfl, rfl, rfl, by decide +kernel, rfl, by decide +kernel, by decide +kernel⟩
abbrev s_pen : Stmt := topS 60
abbrev N_pen : List Str := ["_law_source_here", "_law_sides", "_law_pool", "_law_found", "_law_k", "_law_side_here", "_law_row", "_law_word", "_law_at", "_law_spot_here"]
theorem sc_pen : FnScope N_pen ["_law_source_here", "_law_sides", "_law_pool"] (defScope s_pen) := ⟨rfl, rfl, rfl, by decide +kernel, rfl, by decide +kernel, by decide +kernel⟩
abbrev s_paper : Stmt := topS 61
abbrev N_paper : List Str := ["_law_source_here", "_law_many", "_law_pool", "_law_labels", "_law_k", "_law_label_here", "_law_leaves", "_law_front", "_law_back"]
theorem sc_paper : FnScope N_paper ["_law_source_here", "_law_many", "_law_pool"] (defScope s_paper) := ⟨rfl, rfl, rfl, by decide +kernel, rfl, by decide +kernel, by decide +kernel⟩
abbrev s_spots : Stmt := topS 62
abbrev N_spots : List Str := ["_law_leaves", "_law_spots_here", "_law_label_here", "_law_front", "_law_back", "_law_pen_here", "_law_sides", "_law_side_here", "_law_row", "_law_words", "_law_word"]
theorem sc_spots : FnScope N_spots ["_law_leaves"] (defScope s_spots) := ⟨rfl, rfl, rfl, by decide +kernel, rfl, by decide +kernel, by decide +kernel⟩
abbrev s_pens : Stmt := topS 63
abbrev N_pens : List Str := ["_law_leaves", "_law_pens_here", "_law_label_here", "_law_front", "_law_back", "_law_pen_here", "_law_side_here", "_law_row", "_law_word", "_law_token_here"]
theorem sc_pens : FnScope N_pens ["_law_leaves"] (defScope s_pens) := ⟨rfl, rfl, rfl, by decide +kernel, rfl, by decide +kernel, by decide +kernel⟩
abbrev s_says : Stmt := topS 64
abbrev N_says : List Str := ["_law_spots_here", "_law_pens_here", "_law_spot_here"]
theorem sc_says : FnScope N_says ["_law_spots_here", "_law_pens_here", "_law_spot_here"] (defScope s_says) := ⟨rfl, rfl, rfl, by decide +kernel, rfl, by decide +kernel, by decide +kernel⟩
abbrev s_carry : Stmt := topS 65
abbrev N_carry : List Str := ["_law_spots_here", "_law_pens_here", "_law_one", "_law_spot_here"]
theorem sc_carry : FnScope N_carry ["_law_spots_here", "_law_pens_here", "_law_one"] (defScope s_carry) := ⟨rfl, rfl, rfl, by decide +kernel, rfl, by decide +kernel, by decide +kernel⟩
abbrev s_after : Stmt := topS 66
abbrev N_after : List Str := ["_law_leaves", "_law_pens_here", "_law_found", "_law_label_here", "_law_front", "_law_back", "_law_pen_here", "_law_own", "_law_page", "_law_row", "_law_word"]
theorem sc_after : FnScope N_after ["_law_leaves", "_law_pens_here"] (defScope s_after) := ⟨rfl, rfl, rfl, by decide +kernel, rfl, by decide +kernel, by decide +kernel⟩
abbrev s_book : Stmt := topS 67
abbrev N_book : List Str := ["_law_leaves", "_law_one"]
theorem sc_book : FnScope N_book ["_law_leaves"] (defScope s_book) := ⟨rfl, rfl, rfl, by decide +kernel, rfl, by decide +kernel, by decide +kernel⟩
abbrev s_same : Stmt := topS 68
abbrev N_same : List Str := ["_law_told", "_law_leaves"]
theorem sc_same : FnScope N_same ["_law_told", "_law_leaves"] (defScope s_same) := ⟨rfl, rfl, rfl, by decide +kernel, rfl, by decide +kernel, by decide +kernel⟩
abbrev s_spot : Stmt := topS 69
abbrev N_spot : List Str := ["_law_source_here", "_law_places", "_law_way", "_law_page", "_law_row", "_law_word", "_law_label_here"]
theorem sc_spot : FnScope N_spot ["_law_source_here", "_law_places"] (defScope s_spot) := ⟨rfl, rfl, rfl, by decide +kernel, rfl, by decide +kernel, by decide +kernel⟩
abbrev s_correction : Stmt := topS 70
abbrev N_correction : List Str := ["_law_source_here", "_law_places", "_law_spots_here", "_law_pens_here", "_law_pool", "_law_spot_here", "_law_old", "_law_others", "_law_one"]
theorem sc_correction : FnScope N_correction ["_law_source_here", "_law_places", "_law_spots_here", "_law_pens_here", "_law_pool"] (defScope s_correction) := ⟨rfl, rfl, rfl, by decide +kernel, rfl, by decide +kernel, by decide +kernel⟩
abbrev s_second : Stmt := topS 71
abbrev N_second : List Str := ["_law_source_here", "_law_leaves", "_law_pool", "_law_found", "_law_label_here", "_law_front", "_law_back", "_law_pen_here", "_law_way", "_law_rows"]
theorem sc_second : FnScope N_second ["_law_source_here", "_law_leaves", "_law_pool"] (defScope s_second) := ⟨rfl, rfl, rfl, by decide +kernel, rfl, by decide +kernel, by decide +kernel⟩
abbrev s_filed_on : Stmt := topS 72
abbrev N_filed_on : List Str := ["_law_listed", "_law_rows", "_law_leaves", "_law_book_here", "_law_spots_here", "_law_pens_here", "_law_one", "_law_told", "_law_once", "_law_twice"]
theorem sc_filed_on : FnScope N_filed_on ["_law_listed", "_law_rows", "_law_leaves"] (defScope s_filed_on) := ⟨rfl, rfl, rfl, by decide +kernel, rfl, by decide +kernel, by decide +kernel⟩
abbrev s_law : Stmt := topS 73
abbrev N_law : List Str := ["_law_script", "_law_source_here", "_law_pool", "_law_leaves", "_law_spots_here", "_law_places", "_law_pens_here", "_law_many", "_law_rows", "_law_k", "_law_one", "_law_listed", "_law_other_here"]
theorem sc_law : FnScope N_law ["_law_script"] (defScope s_law) := ⟨rfl, rfl, rfl, by decide +kernel, rfl, by decide +kernel, by decide +kernel⟩
structure Tab (K : PySem.W.Frag) (mg : Str → Option Value) where
  C_Leaf : Addr
  C_Book : Addr
  C_Errata : Addr
  f_is_integer : Addr
  d_is_integer : FuncData
  F_is_integer : Fun K "is_integer" "is_integer" s_is_integer f_is_integer d_is_integer
  b_is_integer : Binds K d_is_integer ["thing"] []
  g_is_integer : mg "is_integer" = some (.ref f_is_integer)
  f_is_within : Addr
  d_is_within : FuncData
  F_is_within : Fun K "is_within" "is_within" s_is_within f_is_within d_is_within
  b_is_within : Binds K d_is_within ["thing", "least", "most"] []
  g_is_within : mg "is_within" = some (.ref f_is_within)
  f_is_tuple : Addr
  d_is_tuple : FuncData
  F_is_tuple : Fun K "is_tuple" "is_tuple" s_is_tuple f_is_tuple d_is_tuple
  b_is_tuple : Binds K d_is_tuple ["thing"] []
  g_is_tuple : mg "is_tuple" = some (.ref f_is_tuple)
  f_is_sized : Addr
  d_is_sized : FuncData
  F_is_sized : Fun K "is_sized" "is_sized" s_is_sized f_is_sized d_is_sized
  b_is_sized : Binds K d_is_sized ["thing", "least", "most"] []
  g_is_sized : mg "is_sized" = some (.ref f_is_sized)
  f_kept_label : Addr
  d_kept_label : FuncData
  F_kept_label : Fun K "kept_label" "kept_label" s_kept_label f_kept_label d_kept_label
  b_kept_label : Binds K d_kept_label ["thing"] []
  g_kept_label : mg "kept_label" = some (.ref f_kept_label)
  f_judged_label : Addr
  d_judged_label : FuncData
  F_judged_label : Fun K "judged_label" "judged_label" s_judged_label f_judged_label d_judged_label
  b_judged_label : Binds K d_judged_label ["thing"] []
  g_judged_label : mg "judged_label" = some (.ref f_judged_label)
  f_kept_page : Addr
  d_kept_page : FuncData
  F_kept_page : Fun K "kept_page" "kept_page" s_kept_page f_kept_page d_kept_page
  b_kept_page : Binds K d_kept_page ["thing"] []
  g_kept_page : mg "kept_page" = some (.ref f_kept_page)
  e_Leaf : Addr
  el_Leaf : ∀ H, SqT K H e_Leaf []
  f_Leaf_init : Addr
  d_Leaf_init : FuncData
  F_Leaf_init : FunD K "__init__" "Leaf.__init__" (defArgs s_Leaf_init) (defBody s_Leaf_init) (defScope s_Leaf_init) [V.ref e_Leaf] [] f_Leaf_init d_Leaf_init
  b_Leaf_init : Binds K d_Leaf_init ["self", "label", "front", "back", "pen"] []
  g_Leaf_init : PySem.W.findIn K (.ref C_Leaf) "__init__" = some (some (.ref f_Leaf_init))
  b3_Leaf_init : ∃ ds, Vals [V.ref e_Leaf] ds ∧ Binds K d_Leaf_init ["self", "label", "front", "back", "pen"] ds
  f_Leaf_side_rows : Addr
  d_Leaf_side_rows : FuncData
  F_Leaf_side_rows : Fun K "side_rows" "Leaf.side_rows" s_Leaf_side_rows f_Leaf_side_rows d_Leaf_side_rows
  b_Leaf_side_rows : Binds K d_Leaf_side_rows ["self", "side"] []
  g_Leaf_side_rows : PySem.W.findIn K (.ref C_Leaf) "side_rows" = some (some (.ref f_Leaf_side_rows))
  f_Leaf_says : Addr
  d_Leaf_says : FuncData
  F_Leaf_says : Fun K "says" "Leaf.says" s_Leaf_says f_Leaf_says d_Leaf_says
  b_Leaf_says : Binds K d_Leaf_says ["self", "side", "row", "word"] []
  g_Leaf_says : PySem.W.findIn K (.ref C_Leaf) "says" = some (some (.ref f_Leaf_says))
  f_Leaf_penned : Addr
  d_Leaf_penned : FuncData
  F_Leaf_penned : Fun K "penned" "Leaf.penned" s_Leaf_penned f_Leaf_penned d_Leaf_penned
  b_Leaf_penned : Binds K d_Leaf_penned ["self", "strokes"] []
  g_Leaf_penned : PySem.W.findIn K (.ref C_Leaf) "penned" = some (some (.ref f_Leaf_penned))
  f_is_token : Addr
  d_is_token : FuncData
  F_is_token : Fun K "is_token" "is_token" s_is_token f_is_token d_is_token
  b_is_token : Binds K d_is_token ["thing"] []
  g_is_token : mg "is_token" = some (.ref f_is_token)
  f_is_row : Addr
  d_is_row : FuncData
  F_is_row : Fun K "_is_row" "_is_row" s_is_row f_is_row d_is_row
  b_is_row : Binds K d_is_row ["thing"] []
  g_is_row : mg "_is_row" = some (.ref f_is_row)
  f_judged_rows : Addr
  d_judged_rows : FuncData
  F_judged_rows : Fun K "_judged_rows" "_judged_rows" s_judged_rows f_judged_rows d_judged_rows
  b_judged_rows : Binds K d_judged_rows ["rows", "least", "side"] []
  g_judged_rows : mg "_judged_rows" = some (.ref f_judged_rows)
  f_judged_pen : Addr
  d_judged_pen : FuncData
  F_judged_pen : Fun K "_judged_pen" "_judged_pen" s_judged_pen f_judged_pen d_judged_pen
  b_judged_pen : Binds K d_judged_pen ["front", "back", "pen"] []
  g_judged_pen : mg "_judged_pen" = some (.ref f_judged_pen)
  f_kept_strokes : Addr
  d_kept_strokes : FuncData
  F_kept_strokes : Fun K "_kept_strokes" "_kept_strokes" s_kept_strokes f_kept_strokes d_kept_strokes
  b_kept_strokes : Binds K d_kept_strokes ["strokes"] []
  g_kept_strokes : mg "_kept_strokes" = some (.ref f_kept_strokes)
  f_is_stroke : Addr
  d_is_stroke : FuncData
  F_is_stroke : Fun K "_is_stroke" "_is_stroke" s_is_stroke f_is_stroke d_is_stroke
  b_is_stroke : Binds K d_is_stroke ["thing"] []
  g_is_stroke : mg "_is_stroke" = some (.ref f_is_stroke)
  f_is_place : Addr
  d_is_place : FuncData
  F_is_place : Fun K "_is_place" "_is_place" s_is_place f_is_place d_is_place
  b_is_place : Binds K d_is_place ["front", "back", "place"] []
  g_is_place : mg "_is_place" = some (.ref f_is_place)
  f_Book_init : Addr
  d_Book_init : FuncData
  F_Book_init : Fun K "__init__" "Book.__init__" s_Book_init f_Book_init d_Book_init
  b_Book_init : Binds K d_Book_init ["self", "leaves"] []
  g_Book_init : PySem.W.findIn K (.ref C_Book) "__init__" = some (some (.ref f_Book_init))
  f_Book_iter : Addr
  d_Book_iter : FuncData
  F_Book_iter : Fun K "__iter__" "Book.__iter__" s_Book_iter f_Book_iter d_Book_iter
  b_Book_iter : Binds K d_Book_iter ["self"] []
  g_Book_iter : PySem.W.findIn K (.ref C_Book) "__iter__" = some (some (.ref f_Book_iter))
  f_judged_leaves : Addr
  d_judged_leaves : FuncData
  F_judged_leaves : Fun K "_judged_leaves" "_judged_leaves" s_judged_leaves f_judged_leaves d_judged_leaves
  b_judged_leaves : Binds K d_judged_leaves ["leaves"] []
  g_judged_leaves : mg "_judged_leaves" = some (.ref f_judged_leaves)
  f_Errata_init : Addr
  d_Errata_init : FuncData
  F_Errata_init : Fun K "__init__" "Errata.__init__" s_Errata_init f_Errata_init d_Errata_init
  b_Errata_init : Binds K d_Errata_init ["self", "corrections"] []
  g_Errata_init : PySem.W.findIn K (.ref C_Errata) "__init__" = some (some (.ref f_Errata_init))
  f_Errata_call : Addr
  d_Errata_call : FuncData
  F_Errata_call : Fun K "__call__" "Errata.__call__" s_Errata_call f_Errata_call d_Errata_call
  b_Errata_call : Binds K d_Errata_call ["self", "book"] []
  g_Errata_call : PySem.W.findIn K (.ref C_Errata) "__call__" = some (some (.ref f_Errata_call))
  f_Errata_leaf_turns : Addr
  d_Errata_leaf_turns : FuncData
  F_Errata_leaf_turns : Fun K "_leaf_turns" "Errata._leaf_turns" s_Errata_leaf_turns f_Errata_leaf_turns d_Errata_leaf_turns
  b_Errata_leaf_turns : Binds K d_Errata_leaf_turns ["self", "leaf"] []
  g_Errata_leaf_turns : PySem.W.findIn K (.ref C_Errata) "_leaf_turns" = some (some (.ref f_Errata_leaf_turns))
  f_Errata_turned : Addr
  d_Errata_turned : FuncData
  F_Errata_turned : Fun K "turned" "Errata.turned" s_Errata_turned f_Errata_turned d_Errata_turned
  b_Errata_turned : Binds K d_Errata_turned ["self", "page", "row", "word", "token"] []
  g_Errata_turned : PySem.W.findIn K (.ref C_Errata) "turned" = some (some (.ref f_Errata_turned))
  f_steps : Addr
  d_steps : FuncData
  F_steps : Fun K "_steps" "_steps" s_steps f_steps d_steps
  b_steps : Binds K d_steps ["token", "turns"] []
  g_steps : mg "_steps" = some (.ref f_steps)
  f_turns_at_places : Addr
  d_turns_at_places : FuncData
  F_turns_at_places : Fun K "_turns_at_places" "_turns_at_places" s_turns_at_places f_turns_at_places d_turns_at_places
  b_turns_at_places : Binds K d_turns_at_places ["corrections"] []
  g_turns_at_places : mg "_turns_at_places" = some (.ref f_turns_at_places)
  f_judged_corrections : Addr
  d_judged_corrections : FuncData
  F_judged_corrections : Fun K "_judged_corrections" "_judged_corrections" s_judged_corrections f_judged_corrections d_judged_corrections
  b_judged_corrections : Binds K d_judged_corrections ["corrections"] []
  g_judged_corrections : mg "_judged_corrections" = some (.ref f_judged_corrections)
  f_kept_correction : Addr
  d_kept_correction : FuncData
  F_kept_correction : Fun K "_kept_correction" "_kept_correction" s_kept_correction f_kept_correction d_kept_correction
  b_kept_correction : Binds K d_kept_correction ["thing"] []
  g_kept_correction : mg "_kept_correction" = some (.ref f_kept_correction)
  f_source : Addr
  d_source : FuncData
  F_source : Fun K "_law_source" "_law_source" s_source f_source d_source
  b_source : Binds K d_source ["_law_script", "_law_k"] []
  g_source : mg "_law_source" = some (.ref f_source)
  f_pick : Addr
  d_pick : FuncData
  F_pick : Fun K "_law_pick" "_law_pick" s_pick f_pick d_pick
  b_pick : Binds K d_pick ["_law_source_here", "_law_many"] []
  g_pick : mg "_law_pick" = some (.ref f_pick)
  f_law_is_integer : Addr
  d_law_is_integer : FuncData
  F_law_is_integer : Fun K "_law_is_integer" "_law_is_integer" s_law_is_integer f_law_is_integer d_law_is_integer
  b_law_is_integer : Binds K d_law_is_integer ["_law_actual"] []
  g_law_is_integer : mg "_law_is_integer" = some (.ref f_law_is_integer)
  f_is_book : Addr
  d_is_book : FuncData
  F_is_book : Fun K "_law_is_book" "_law_is_book" s_is_book f_is_book d_is_book
  b_is_book : Binds K d_is_book ["_law_actual", "_law_leaves"] []
  g_is_book : mg "_law_is_book" = some (.ref f_is_book)
  f_deep_tuple : Addr
  d_deep_tuple : FuncData
  F_deep_tuple : Fun K "_law_deep_tuple" "_law_deep_tuple" s_deep_tuple f_deep_tuple d_deep_tuple
  b_deep_tuple : Binds K d_deep_tuple ["_law_thing"] []
  g_deep_tuple : mg "_law_deep_tuple" = some (.ref f_deep_tuple)
  f_leaves_in : Addr
  d_leaves_in : FuncData
  F_leaves_in : Fun K "_law_leaves_in" "_law_leaves_in" s_leaves_in f_leaves_in d_leaves_in
  b_leaves_in : Binds K d_leaves_in ["_law_book_here"] []
  g_leaves_in : mg "_law_leaves_in" = some (.ref f_leaves_in)
  f_token : Addr
  d_token : FuncData
  F_token : Fun K "_law_token" "_law_token" s_token f_token d_token
  b_token : Binds K d_token ["_law_source_here", "_law_most"] []
  g_token : mg "_law_token" = some (.ref f_token)
  f_other : Addr
  d_other : FuncData
  F_other : Fun K "_law_other" "_law_other" s_other f_other d_other
  b_other : Binds K d_other ["_law_token_here"] []
  g_other : mg "_law_other" = some (.ref f_other)
  f_tokens_pool : Addr
  d_tokens_pool : FuncData
  F_tokens_pool : Fun K "_law_tokens_pool" "_law_tokens_pool" s_tokens_pool f_tokens_pool d_tokens_pool
  b_tokens_pool : Binds K d_tokens_pool ["_law_source_here", "_law_many"] []
  g_tokens_pool : mg "_law_tokens_pool" = some (.ref f_tokens_pool)
  f_label : Addr
  d_label : FuncData
  F_label : Fun K "_law_label" "_law_label" s_label f_label d_label
  b_label : Binds K d_label ["_law_source_here"] []
  g_label : mg "_law_label" = some (.ref f_label)
  f_paper_row : Addr
  d_paper_row : FuncData
  F_paper_row : Fun K "_law_paper_row" "_law_paper_row" s_paper_row f_paper_row d_paper_row
  b_paper_row : Binds K d_paper_row ["_law_source_here", "_law_pool"] []
  g_paper_row : mg "_law_paper_row" = some (.ref f_paper_row)
  f_side : Addr
  d_side : FuncData
  F_side : Fun K "_law_side" "_law_side" s_side f_side d_side
  b_side : Binds K d_side ["_law_source_here", "_law_pool", "_law_least"] []
  g_side : mg "_law_side" = some (.ref f_side)
  f_pen : Addr
  d_pen : FuncData
  F_pen : Fun K "_law_pen" "_law_pen" s_pen f_pen d_pen
  b_pen : Binds K d_pen ["_law_source_here", "_law_sides", "_law_pool"] []
  g_pen : mg "_law_pen" = some (.ref f_pen)
  f_paper : Addr
  d_paper : FuncData
  F_paper : Fun K "_law_paper" "_law_paper" s_paper f_paper d_paper
  b_paper : Binds K d_paper ["_law_source_here", "_law_many", "_law_pool"] []
  g_paper : mg "_law_paper" = some (.ref f_paper)
  f_spots : Addr
  d_spots : FuncData
  F_spots : Fun K "_law_spots" "_law_spots" s_spots f_spots d_spots
  b_spots : Binds K d_spots ["_law_leaves"] []
  g_spots : mg "_law_spots" = some (.ref f_spots)
  f_pens : Addr
  d_pens : FuncData
  F_pens : Fun K "_law_pens" "_law_pens" s_pens f_pens d_pens
  b_pens : Binds K d_pens ["_law_leaves"] []
  g_pens : mg "_law_pens" = some (.ref f_pens)
  f_says : Addr
  d_says : FuncData
  F_says : Fun K "_law_says" "_law_says" s_says f_says d_says
  b_says : Binds K d_says ["_law_spots_here", "_law_pens_here", "_law_spot_here"] []
  g_says : mg "_law_says" = some (.ref f_says)
  f_carry : Addr
  d_carry : FuncData
  F_carry : Fun K "_law_carry" "_law_carry" s_carry f_carry d_carry
  b_carry : Binds K d_carry ["_law_spots_here", "_law_pens_here", "_law_one"] []
  g_carry : mg "_law_carry" = some (.ref f_carry)
  f_after : Addr
  d_after : FuncData
  F_after : Fun K "_law_after" "_law_after" s_after f_after d_after
  b_after : Binds K d_after ["_law_leaves", "_law_pens_here"] []
  g_after : mg "_law_after" = some (.ref f_after)
  f_book : Addr
  d_book : FuncData
  F_book : Fun K "_law_book" "_law_book" s_book f_book d_book
  b_book : Binds K d_book ["_law_leaves"] []
  g_book : mg "_law_book" = some (.ref f_book)
  f_same : Addr
  d_same : FuncData
  F_same : Fun K "_law_same" "_law_same" s_same f_same d_same
  b_same : Binds K d_same ["_law_told", "_law_leaves"] []
  g_same : mg "_law_same" = some (.ref f_same)
  f_spot : Addr
  d_spot : FuncData
  F_spot : Fun K "_law_spot" "_law_spot" s_spot f_spot d_spot
  b_spot : Binds K d_spot ["_law_source_here", "_law_places"] []
  g_spot : mg "_law_spot" = some (.ref f_spot)
  f_correction : Addr
  d_correction : FuncData
  F_correction : Fun K "_law_correction" "_law_correction" s_correction f_correction d_correction
  b_correction : Binds K d_correction ["_law_source_here", "_law_places", "_law_spots_here", "_law_pens_here", "_law_pool"] []
  g_correction : mg "_law_correction" = some (.ref f_correction)
  f_second : Addr
  d_second : FuncData
  F_second : Fun K "_law_second" "_law_second" s_second f_second d_second
  b_second : Binds K d_second ["_law_source_here", "_law_leaves", "_law_pool"] []
  g_second : mg "_law_second" = some (.ref f_second)
  f_filed_on : Addr
  d_filed_on : FuncData
  F_filed_on : Fun K "_law_filed_on" "_law_filed_on" s_filed_on f_filed_on d_filed_on
  b_filed_on : Binds K d_filed_on ["_law_listed", "_law_rows", "_law_leaves"] []
  g_filed_on : mg "_law_filed_on" = some (.ref f_filed_on)
  f_law : Addr
  d_law : FuncData
  F_law : Fun K "law" "law" s_law f_law d_law
  b_law : Binds K d_law ["_law_script"] []
  g_law : mg "law" = some (.ref f_law)
  cg_Errata : mg "Errata" = some (.ref C_Errata)
  cg_Book : mg "Book" = some (.ref C_Book)
  cg_Leaf : mg "Leaf" = some (.ref C_Leaf)
  cl_Leaf : Cls K C_Leaf
  ms_Leaf : PySem.W.makesIn K C_Leaf = true
  kc_Leaf : PySem.W.keepIn K (.ref C_Leaf) = true
  ca_Leaf : PySem.W.findIn K (.ref C_Leaf) "__class__" = some (some (.builtin "object.__class__"))
  cn_Leaf : PySem.W.specialIn K (.builtin "object.__class__") "__get__" = some (some (.builtin "getset_descriptor.__get__"))
  ct_Leaf : PySem.W.takesIn K (.builtin "object.__class__") = some true
  cm_Leaf : PySem.W.mroIn K C_Leaf (.type "object") = some true
  ic_Leaf : PySem.W.isClsIn K C_Leaf = true
  tc_Leaf : PySem.W.typeIn K (.ref C_Leaf) = some (.type "type")
  na_Leaf_label : NoAttr K C_Leaf "label"
  na_Leaf_front : NoAttr K C_Leaf "front"
  na_Leaf_back : NoAttr K C_Leaf "back"
  na_Leaf_pen : NoAttr K C_Leaf "pen"
  na_Leaf__strokes : NoAttr K C_Leaf "_strokes"
  cl_Book : Cls K C_Book
  ms_Book : PySem.W.makesIn K C_Book = true
  kc_Book : PySem.W.keepIn K (.ref C_Book) = true
  ca_Book : PySem.W.findIn K (.ref C_Book) "__class__" = some (some (.builtin "object.__class__"))
  cn_Book : PySem.W.specialIn K (.builtin "object.__class__") "__get__" = some (some (.builtin "getset_descriptor.__get__"))
  ct_Book : PySem.W.takesIn K (.builtin "object.__class__") = some true
  cm_Book : PySem.W.mroIn K C_Book (.type "object") = some true
  ic_Book : PySem.W.isClsIn K C_Book = true
  tc_Book : PySem.W.typeIn K (.ref C_Book) = some (.type "type")
  na_Book_leaves : NoAttr K C_Book "leaves"
  na_Book__spots : NoAttr K C_Book "_spots"
  cl_Errata : Cls K C_Errata
  ms_Errata : PySem.W.makesIn K C_Errata = true
  kc_Errata : PySem.W.keepIn K (.ref C_Errata) = true
  ca_Errata : PySem.W.findIn K (.ref C_Errata) "__class__" = some (some (.builtin "object.__class__"))
  cn_Errata : PySem.W.specialIn K (.builtin "object.__class__") "__get__" = some (some (.builtin "getset_descriptor.__get__"))
  ct_Errata : PySem.W.takesIn K (.builtin "object.__class__") = some true
  cm_Errata : PySem.W.mroIn K C_Errata (.type "object") = some true
  ic_Errata : PySem.W.isClsIn K C_Errata = true
  tc_Errata : PySem.W.typeIn K (.ref C_Errata) = some (.type "type")
  na_Errata_corrections : NoAttr K C_Errata "corrections"
  na_Errata__turns : NoAttr K C_Errata "_turns"
  fn_Leaf_init : PySem.W.isFn K (.ref f_Leaf_init) = true
  fn_Leaf_side_rows : PySem.W.isFn K (.ref f_Leaf_side_rows) = true
  fn_Leaf_says : PySem.W.isFn K (.ref f_Leaf_says) = true
  fn_Leaf_penned : PySem.W.isFn K (.ref f_Leaf_penned) = true
  fn_Book_init : PySem.W.isFn K (.ref f_Book_init) = true
  fn_Book_iter : PySem.W.isFn K (.ref f_Book_iter) = true
  fn_Errata_init : PySem.W.isFn K (.ref f_Errata_init) = true
  fn_Errata_call : PySem.W.isFn K (.ref f_Errata_call) = true
  fi_Errata_call : PySem.W.fnIn K f_Errata_call = true
  fn_Errata_leaf_turns : PySem.W.isFn K (.ref f_Errata_leaf_turns) = true
  fn_Errata_turned : PySem.W.isFn K (.ref f_Errata_turned) = true
  gf_Errata_turned : PySem.W.specialIn K (.ref f_Errata_turned) "__get__" = some (some (.builtin "function.__get__"))
  tk_Errata_turned : PySem.W.takesIn K (.ref f_Errata_turned) = some false
  fi_Errata_turned : PySem.W.fnIn K f_Errata_turned = true
  t_LONGEST_ROW : Tok
  c_LONGEST_ROW : mg "LONGEST_ROW" = some (.int 120 t_LONGEST_ROW)
  t_MOST_CORRECTIONS : Tok
  c_MOST_CORRECTIONS : mg "MOST_CORRECTIONS" = some (.int 60 t_MOST_CORRECTIONS)
  t_MOST_LEAVES : Tok
  c_MOST_LEAVES : mg "MOST_LEAVES" = some (.int 60 t_MOST_LEAVES)
  t_MOST_PARTS : Tok
  c_MOST_PARTS : mg "MOST_PARTS" = some (.int 3 t_MOST_PARTS)
  t_MOST_ROWS : Tok
  c_MOST_ROWS : mg "MOST_ROWS" = some (.int 12 t_MOST_ROWS)
  t_MOST_SIGNS : Tok
  c_MOST_SIGNS : mg "MOST_SIGNS" = some (.int 20 t_MOST_SIGNS)
  t_MOST_TOKENS : Tok
  c_MOST_TOKENS : mg "MOST_TOKENS" = some (.int 30 t_MOST_TOKENS)
  m_abs : mg "abs" = none
  m_all : mg "all" = none
  m_bool : mg "bool" = none
  m_enumerate : mg "enumerate" = none
  m_int : mg "int" = none
  m_isinstance : mg "isinstance" = none
  m_iter : mg "iter" = none
  m_len : mg "len" = none
  m_list : mg "list" = none
  m_max : mg "max" = none
  m_min : mg "min" = none
  m_range : mg "range" = none
  m_repr : mg "repr" = none
  m_set : mg "set" = none
  m_sorted : mg "sorted" = none
  m_str : mg "str" = none
  m_sum : mg "sum" = none
  m_tuple : mg "tuple" = none
  m_zip : mg "zip" = none
/-! ### heaps and sources -/
theorem un2 {k : Nat} {A : Around} (r : Room k A) : A.units + 65 < cLine := by have := r.un; omega
theorem same_upd {H : Hp} {p : Addr} {o : HO} (h : H p = none) : Same H (upd H p o) := fun b x e => by
  rw [upd_ne (ne_of_none e h)]
  exact e
/-- all but a stand as they stood -/
def But (a : Addr) (H H' : Hp) : Prop := ∀ b o, b ≠ a → H b = some o → H' b = some o
theorem But.refl (a : Addr) (H : Hp) : But a H H := fun _ _ _ e => e
theorem But.trans {a : Addr} {H H1 H2 : Hp} (x : But a H H1) (y : But a H1 H2) : But a H H2 := fun b o n e => y b o n (x b o n e)
theorem But.of {a : Addr} {H H1 : Hp} (x : Same H H1) : But a H H1 := fun b o _ e => x b o e
theorem But.upd {a : Addr} {H : Hp} (o : HO) : But a H (upd H a o) := fun b u n e => by
  rw [upd_ne n]
  exact e
/-- what changes is not there at first -/
theorem But.same {a : Addr} {H0 H H' : Hp} (n : H0 a = none) (s : Same H0 H) (x : But a H H') : Same H0 H' := fun b o e => x b o (ne_of_none e n) (s b o e)
/-- a source of numbers: three ints -/
def Src (H : Hp) (a : Addr) : Prop := ∃ g x c : Int, H a = some (.lst [.int g, .int x, .int c])
theorem cut_map (ns : List Int) (lo hi : Option Int) : ∃ ms : List Int, cutV (ns.map V.int) lo hi = ms.map V.int := by
  unfold cutV
  exact ⟨_, by rw [← List.map_drop, ← List.map_take]⟩
theorem at_of' {α : Type} {xs : List α} {z : Int} {j : Nat} {v : α} (e : z = (j : Int)) (h : xs[j]? = some v) : atI xs z = some v := by
  subst e
  exact atI_nat h
theorem str_len_snoc (z : Str) (c : Nat) : (z ++ (⟨#[c]⟩ : Str)).length = z.length + 1 := by
  show (z.cps ++ #[c]).size = z.cps.size + 1
  rw [Array.size_append]
  rfl
theorem But.none {a D : Addr} {H H3 : Hp} (x : But a H H3) (n : H3 D = .none) (h : D ≠ a) : H D = .none := by
  cases e : H D with
  | none => rfl
  | some o =>
    rw [x D o h e] at n
    cases n
theorem But.put {a D : Addr} {H H' : Hp} (x : But a H H') (n : H D = .none) (o : HO) : But a H (L2.upd H' D o) := fun b u nb e => by
  rw [upd_ne (ne_of_none e n)]
  exact x b u nb e
theorem Src.put {a D : Addr} {H : Hp} (x : Src H a) (n : a ≠ D) (o : HO) : Src (upd H D o) a := by
  obtain ⟨g, y, c, e⟩ := x
  exact ⟨g, y, c, by rw [upd_ne n]; exact e⟩
theorem Src.ne {a D : Addr} {H : Hp} (x : Src H a) (n : H D = .none) : a ≠ D := by
  obtain ⟨g, y, c, e⟩ := x
  exact ne_of_none e n
theorem get_map {xs : List Str} {i : Nat} {x : V} (h : (xs.map V.str)[i]? = some x) : ∃ z, x = .str z ∧ xs[i]? = some z := by
  rw [List.getElem?_map] at h
  cases e : xs[i]? with
  | none => rw [e] at h; cases h
  | some z => rw [e] at h; exact ⟨z, (Option.some.inj h).symm, rfl⟩
theorem get_mapR {xs : List Addr} {i : Nat} {x : V} (h : (xs.map V.ref)[i]? = some x) : ∃ z, x = .ref z ∧ z ∈ xs := by
  rw [List.getElem?_map] at h
  cases e : xs[i]? with
  | none => rw [e] at h; cases h
  | some z => rw [e] at h; exact ⟨z, (Option.some.inj h).symm, List.mem_of_getElem? e⟩
section
variable {X : Cx} {tg e : Expr} {w1 w2 : TI}
theorem pi_or (a : PI X tg e w1) (b : PI X tg e w2) : PI X tg e (fun σ H R => w1 σ H R ∨ w2 σ H R) :=
  ⟨fun pins s σ H R I h => h.elim (fun h => a.run pins s σ H R I h) (fun h => b.run pins s σ H R I h)⟩
theorem op_rep_str : OpR X (binaryOp .Mult) (fun x y H Q => ∃ z n, x = .str z ∧ y = .int n ∧ PySem.MulOk z n ∧ Q (.str (Txt.mul z n)) H) := by
  intro pins s σ H x y v u Q I rx ry h
  obtain ⟨z, n, rfl, rfl, hm, q⟩ := h
  obtain ⟨t, rfl⟩ := rx
  obtain ⟨t', rfl⟩ := ry
  exact PySem.SB.mul hm (fun t' tk => ⟨.str _, H, I.tok _, ⟨_, rfl⟩, q⟩)
end
theorem eq_strs {K : PySem.W.Frag} {H : Hp} : ∀ zs : List Str, Paired (EqV K H 1) (zs.map V.str) (zs.map V.str)
  | [] => .nil
  | z :: r => .cons (.inl ⟨rfl, rfl⟩) (eq_strs r)
theorem same_seqT {K : PySem.W.Frag} {H H' : Hp} {a : Addr} {xs : List V} (e : Same H H') (h : SqT K H a xs) : SqT K H' a xs :=
  h.elim (fun r => .inl (r.elim (fun e1 => .inl (e _ _ e1)) (fun ⟨o, e1⟩ => .inr ⟨o, e _ _ e1⟩))) .inr
theorem same_sq {K : PySem.W.Frag} {H H' : Hp} {a : Addr} {xs : List V} (e : Same H H') (h : SqL K H a xs ∨ SqT K H a xs) : SqL K H' a xs ∨ SqT K H' a xs :=
  h.elim (fun h => .inl (e.seq h)) (fun h => .inr (same_seqT e h))
theorem same_put {H H' : Hp} {b : Addr} (x : Same H H') (n : H b = .none) (o : HO) : Same H (upd H' b o) := fun c u e => by
  rw [upd_ne (ne_of_none e n)]
  exact x c u e
/-! ### == of rows of texts and of numbers -/
theorem dp_strs {K : PySem.W.Frag} {H : Hp} : ∀ zs : List Str, DpAll K H (zs.map V.str) (zs.map PyData.str)
  | [] => .nil
  | z :: r => .cons (.str z) (dp_strs r)
theorem dp_ints {K : PySem.W.Frag} {H : Hp} : ∀ zs : List Int, DpAll K H (zs.map V.int) (zs.map PyData.int)
  | [] => .nil
  | z :: r => .cons (.int z) (dp_ints r)
theorem can_strs : ∀ zs : List Str, (∀ z ∈ zs, PyData.strOk z = true) → PyData.canLayAll0 (zs.map PyData.str) = true
  | [], _ => rfl
  | z :: r, h => by
    show (PyData.strOk z && PyData.canLayAll0 (r.map PyData.str)) = true
    rw [can_strs r fun y hy => h y (List.mem_cons_of_mem _ hy), Bool.and_true]
    exact h z (List.mem_cons_self ..)
theorem can_ints : ∀ zs : List Int, PyData.canLayAll0 (zs.map PyData.int) = true
  | [] => rfl
  | z :: r => by
    show (true && PyData.canLayAll0 (r.map PyData.int)) = true
    rw [can_ints r]
    rfl
theorem depth_strs : ∀ zs : List Str, PyData.depthAll (zs.map PyData.str) = 0
  | [] => rfl
  | z :: r => by
    show max 0 (PyData.depthAll (r.map PyData.str)) = 0
    rw [depth_strs r]
    rfl
theorem depth_ints : ∀ zs : List Int, PyData.depthAll (zs.map PyData.int) = 0
  | [] => rfl
  | z :: r => by
    show max 0 (PyData.depthAll (r.map PyData.int)) = 0
    rw [depth_ints r]
    rfl
theorem shaped_l (zs : List Str) (h : ∀ z ∈ zs, PyData.strOk z = true) : SeqAt.shaped (.list (zs.map PyData.str)) = true := by
  unfold SeqAt.shaped
  rw [Bool.and_eq_true]
  refine ⟨can_strs zs h, decide_eq_true ?_⟩
  show PyData.depthAll (zs.map PyData.str) + 1 ≤ 64
  rw [depth_strs]
  decide
theorem shaped_t (zs : List Str) (h : ∀ z ∈ zs, PyData.strOk z = true) : SeqAt.shaped (.tuple (zs.map PyData.str)) = true := by
  unfold SeqAt.shaped
  rw [Bool.and_eq_true]
  refine ⟨can_strs zs h, decide_eq_true ?_⟩
  show PyData.depthAll (zs.map PyData.str) + 1 ≤ 64
  rw [depth_strs]
  decide
theorem shaped_il (zs : List Int) : SeqAt.shaped (.list (zs.map PyData.int)) = true := by
  unfold SeqAt.shaped
  rw [Bool.and_eq_true]
  refine ⟨can_ints zs, decide_eq_true ?_⟩
  show PyData.depthAll (zs.map PyData.int) + 1 ≤ 64
  rw [depth_ints]
  decide
theorem shaped_it (zs : List Int) : SeqAt.shaped (.tuple (zs.map PyData.int)) = true := by
  unfold SeqAt.shaped
  rw [Bool.and_eq_true]
  refine ⟨can_ints zs, decide_eq_true ?_⟩
  show PyData.depthAll (zs.map PyData.int) + 1 ≤ 64
  rw [depth_ints]
  decide
theorem eqv_strs : ∀ xs ys : List Str, PyData.eqvAll (xs.map PyData.str) (ys.map PyData.str) = decide (xs = ys)
  | [], [] => rfl
  | [], y :: s => rfl
  | x :: r, [] => rfl
  | x :: r, y :: s => by
    show ((x == y) && PyData.eqvAll (r.map PyData.str) (s.map PyData.str)) = decide (x :: r = y :: s)
    rw [eqv_strs r s]
    by_cases h : x = y
    · subst h
      simp
    · simp [h]
theorem eqv_ints : ∀ xs ys : List Int, PyData.eqvAll (xs.map PyData.int) (ys.map PyData.int) = decide (xs = ys)
  | [], [] => rfl
  | [], y :: s => rfl
  | x :: r, [] => rfl
  | x :: r, y :: s => by
    show ((x == y) && PyData.eqvAll (r.map PyData.int) (s.map PyData.int)) = decide (x :: r = y :: s)
    rw [eqv_ints r s]
    by_cases h : x = y
    · subst h
      simp
    · simp [h]
theorem ok_app (a b : Str) (ha : PyData.strOk a = true) (hb : PyData.strOk b = true) : PyData.strOk (a ++ b) = true := by
  show (a.cps ++ b.cps).all (· < 0x110000) = true
  rw [Array.all_append]
  exact Bool.and_eq_true_iff.mpr ⟨ha, hb⟩
/-! ### labels, pages, ranges as words -/
def rdN : List Nat → Option Int
  | [a] => if 48 ≤ a ∧ a ≤ 57 then some ((a : Int) - 48) else none
  | [a, b] => if (48 < a ∧ a ≤ 57) ∧ (48 ≤ b ∧ b ≤ 57) then some (((a : Int) - 48) * 10 + ((b : Int) - 48)) else none
  | _ => none
def rdI (z : Str) : Option Int := rdN z.cps.toList
def allSome : List (Option Int) → Option (List Int)
  | [] => some []
  | none :: _ => none
  | some i :: r => match allSome r with | some L => some (i :: L) | none => none
def keep (os : List (Option Int)) : Option (List Int) :=
  match allSome os with
  | some L => if L.length ≤ 3 ∧ L.getLastD 0 ≠ 0 then some L else none
  | none => none
def rdL (z : Str) : Option (List Int) := keep ((Txt.split z ".").map rdI)
abbrev Pg := List Int × Int
def rdP (z : Str) : Option Pg :=
  match z.cps.toList.getLast? with
  | some c => if c = 97 ∨ c = 98 then (match rdL (cutS z none (some (-1))) with | some L => some (L, (c : Int) - 97) | none => none) else none
  | none => none
def rdR (z : Str) : Option (Pg × Pg) :=
  match (Txt.split z "-").map rdP with
  | [some p] => some (p, p)
  | [some p, some q] => some (p, q)
  | _ => none
def rdR2 : List (Option Pg) → Option (Pg × Pg)
  | [some p] => some (p, p)
  | [some p, some q] => some (p, q)
  | _ => none
theorem rdR_eq (z : Str) : rdR z = rdR2 ((Txt.split z "-").map rdP) := by
  unfold rdR
  generalize (Txt.split z "-").map rdP = ps
  match ps with
  | [] => rfl
  | [none] => rfl
  | [some p] => rfl
  | [none, b] => rfl
  | [some p, none] => rfl
  | [some p, some q] => rfl
  | none :: b :: c :: r => rfl
  | some a :: none :: c :: r => rfl
  | some a :: some b :: c :: r => rfl
def okL (L : List Int) : Prop := L.length ≤ 3 ∧ L.getLastD 0 ≠ 0 ∧ ∀ i ∈ L, 0 ≤ i ∧ i ≤ 99
def okP (p : Pg) : Prop := okL p.1 ∧ (p.2 = 0 ∨ p.2 = 1)
def fL (L : List Int) : Str := Txt.join "." (L.map fun i => (toString i : Str))
def fP (p : Pg) : Str := fL p.1 ++ (if p.2 = 0 then ("a" : Str) else "b")
def fR (p q : Pg) : Str := if fP p = fP q then fP p else fP p ++ "-" ++ fP q
def dL (L : List Int) : PyData := .tuple (L.map PyData.int)
def dP (p : Pg) : PyData := .tuple [dL p.1, .int p.2]
def dR (r : Pg × Pg) : PyData := .tuple [dP r.1, dP r.2]
def oD {α : Type} (f : α → PyData) : Option α → PyData
  | none => .none
  | some x => f x
def optI : Option Int → V
  | none => .non
  | some i => .int i
theorem num_all : ((List.range 100).all fun i => decide (((toString (i : Int) : Str)).length ≤ 2) && decide (1 ≤ ((toString (i : Int) : Str)).length) && ((toString (i : Int) : Str)).cps.toList.all (fun c => decide (48 ≤ c ∧ c ≤ 57)) && decide (rdI (toString (i : Int)) = some (i : Int))) = true := by decide +kernel
theorem num_ok {i : Int} (h0 : 0 ≤ i) (h1 : i ≤ 99) : ((toString i : Str)).length ≤ 2 ∧ 1 ≤ ((toString i : Str)).length ∧ (∀ c ∈ ((toString i : Str)).cps.toList, 48 ≤ c ∧ c ≤ 57) ∧ rdI (toString i) = some i := by
  have h := List.all_eq_true.mp num_all i.toNat (List.mem_range.mpr (by omega))
  rw [Int.toNat_of_nonneg h0] at h
  simp only [Bool.and_eq_true, decide_eq_true_eq, List.all_eq_true] at h
  exact ⟨h.1.1.1, h.1.1.2, h.1.2, h.2⟩
theorem int_all : ((List.range 10).all fun i => decide (PySem.intText? (⟨#[48 + i]⟩ : Str) = some (i : Int)) && (List.range 10).all fun j => decide (PySem.intText? (⟨#[48 + i, 48 + j]⟩ : Str) = some ((i : Int) * 10 + (j : Int)))) = true := by decide +kernel
theorem int1 {a : Nat} (h : 48 ≤ a ∧ a ≤ 57) : PySem.intText? (⟨#[a]⟩ : Str) = some ((a : Int) - 48) := by
  have h1 := List.all_eq_true.mp int_all (a - 48) (List.mem_range.mpr (by omega))
  simp only [Bool.and_eq_true, decide_eq_true_eq] at h1
  have h2 := h1.1
  rw [show 48 + (a - 48) = a by omega] at h2
  rw [h2]
  congr 1
  omega
theorem int2 {a b : Nat} (h : 48 ≤ a ∧ a ≤ 57) (hb : 48 ≤ b ∧ b ≤ 57) : PySem.intText? (⟨#[a, b]⟩ : Str) = some (((a : Int) - 48) * 10 + ((b : Int) - 48)) := by
  have h1 := List.all_eq_true.mp int_all (a - 48) (List.mem_range.mpr (by omega))
  simp only [Bool.and_eq_true, decide_eq_true_eq] at h1
  have h2 := List.all_eq_true.mp h1.2 (b - 48) (List.mem_range.mpr (by omega))
  simp only [decide_eq_true_eq] at h2
  rw [show 48 + (a - 48) = a by omega, show 48 + (b - 48) = b by omega] at h2
  rw [h2]
  congr 1
  omega
theorem rd_bound {z : Str} {i : Int} (h : rdI z = some i) : 0 ≤ i ∧ i ≤ 99 := by
  unfold rdI at h
  match e : z.cps.toList with
  | [] => rw [e] at h; cases h
  | [a] =>
    rw [e] at h
    simp only [rdN] at h
    split at h
    · injection h with h; omega
    · cases h
  | [a, b] =>
    rw [e] at h
    simp only [rdN] at h
    split at h
    · injection h with h; omega
    · cases h
  | a :: b :: c :: r => rw [e] at h; cases h
theorem allSome_map (L : List Int) : allSome (L.map some) = some L := by
  induction L with
  | nil => rfl
  | cons i r ih => rw [List.map_cons]; unfold allSome; rw [ih]
theorem keep_ok {L : List Int} (h : okL L) : keep (L.map some) = some L := by
  unfold keep
  rw [allSome_map]
  simp only
  rw [if_pos ⟨h.1, h.2.1⟩]
theorem okL_ne {L : List Int} (h : okL L) : L ≠ [] := fun e => by
  subst e
  exact h.2.1 rfl
theorem rdL_fL {L : List Int} (h : okL L) : rdL (fL L) = some L := by
  unfold rdL fL
  rw [TL.split_join (s := 46) (S := []) (by rfl) (by decide +kernel) (fun e => okL_ne h (List.map_eq_nil_iff.mp e)) fun p hp => ?_]
  · rw [List.map_map]
    have e : L.map (rdI ∘ fun i => (toString i : Str)) = L.map some := List.map_congr_left fun i hi => (num_ok (h.2.2 i hi).1 (h.2.2 i hi).2).2.2.2
    rw [e, keep_ok h]
  · obtain ⟨i, hi, rfl⟩ := List.mem_map.mp hp
    intro hc
    have := (num_ok (h.2.2 i hi).1 (h.2.2 i hi).2).2.2.1 46 hc
    omega
theorem cut_m1 (z : Str) (c : Nat) : cutS (z ++ (⟨#[c]⟩ : Str)) none (some (-1)) = z := by
  unfold cutS
  have e : (z ++ (⟨#[c]⟩ : Str)).cps.toList = z.cps.toList ++ [c] := cps_toList_append z _
  have l : (z ++ (⟨#[c]⟩ : Str)).length = z.length + 1 := str_len_snoc z c
  rw [e, HT.sIx_none, List.drop_zero, l]
  rw [show HT.sIx (z.length + 1) (z.length + 1) (some (-1)) = z.length by
    show ((-1 : Int) + ((z.length + 1 : Nat) : Int)).toNat = z.length
    omega]
  rw [Nat.sub_zero, List.take_left' (show z.cps.toList.length = z.length from rfl)]
theorem rdP_fP {p : Pg} (h : okP p) : rdP (fP p) = some p := by
  obtain ⟨L, s⟩ := p
  obtain ⟨hL, hs⟩ := h
  have key : ∀ c : Nat, rdP (fL L ++ (⟨#[c]⟩ : Str)) = if c = 97 ∨ c = 98 then some (L, (c : Int) - 97) else none := fun c => by
    unfold rdP
    rw [show (fL L ++ (⟨#[c]⟩ : Str)).cps.toList = (fL L).cps.toList ++ [c] from cps_toList_append _ _, List.getLast?_append, cut_m1, rdL_fL hL]
    rfl
  rcases hs with rfl | rfl
  · exact key 97
  · exact key 98
theorem fP_inj {p q : Pg} (hp : okP p) (hq : okP q) (e : fP p = fP q) : p = q := by
  have h := rdP_fP hp
  rw [e, rdP_fP hq] at h
  exact (Option.some.inj h).symm
theorem fL_free {L : List Int} (h : okL L) : ∀ c ∈ (fL L).cps.toList, c ≠ 45 := by
  intro c hc e
  subst e
  unfold fL at hc
  rw [TL.join_eq] at hc
  rcases (mem_join _ _ _).mp hc with ⟨t, ht, h1⟩ | ⟨_, h1⟩
  · obtain ⟨i, hi, rfl⟩ := List.mem_map.mp ht
    have := (num_ok (h.2.2 i hi).1 (h.2.2 i hi).2).2.2.1 45 h1
    omega
  · revert h1
    decide +kernel
theorem fP_free {p : Pg} (h : okP p) : 45 ∉ TL.tl (fP p) := by
  intro hc
  have hc2 : 45 ∈ (fP p).cps.toList := hc
  unfold fP at hc2
  rw [cps_toList_append] at hc2
  rcases List.mem_append.mp hc2 with h1 | h1
  · exact fL_free h.1 45 h1 rfl
  · split at h1 <;> (revert h1; decide +kernel)
theorem rdR_two {p q : Pg} (hp : okP p) (hq : okP q) : rdR (fP p ++ "-" ++ fP q) = some (p, q) := by
  unfold rdR
  have e : fP p ++ "-" ++ fP q = Txt.join "-" [fP p, fP q] := by rw [TL.join_eq]; rfl
  rw [e, TL.split_join (s := 45) (S := []) (by rfl) (by decide +kernel) (by simp) fun z hz => ?_]
  · simp only [List.map_cons, List.map_nil, rdP_fP hp, rdP_fP hq]
  · rcases List.mem_cons.mp hz with h | h
    · rw [h]; exact fP_free hp
    · rw [List.mem_singleton.mp h]; exact fP_free hq
theorem rdR_one {p : Pg} (hp : okP p) : rdR (fP p) = some (p, p) := by
  unfold rdR
  have e : fP p = Txt.join "-" [fP p] := by rw [TL.join_eq]; rfl
  rw [e, TL.split_join (s := 45) (S := []) (by rfl) (by decide +kernel) (by simp) fun z hz => ?_]
  · simp only [List.map_cons, List.map_nil]
    rw [rdP_fP hp]
  · rw [List.mem_singleton.mp hz]; exact fP_free hp
theorem rdR_fR {p q : Pg} (hp : okP p) (hq : okP q) : rdR (fR p q) = some (p, q) := by
  unfold fR
  split
  · rename_i e
    rw [← fP_inj hp hq e]
    exact rdR_one hp
  · exact rdR_two hp hq
theorem fL_len {L : List Int} (h : okL L) : (fL L).length ≤ 8 ∧ 1 ≤ (fL L).length := by
  have hn := okL_ne h
  have l1 : ("." : Str).length = 1 := by decide +kernel
  have ap : ∀ x y : Str, (x ++ y).length = x.length + y.length := fun x y => by
    show (x.cps ++ y.cps).size = _
    rw [Array.size_append]; rfl
  have nn := fun i hi => num_ok (h.2.2 i hi).1 (h.2.2 i hi).2
  unfold fL
  rw [TL.join_eq]
  match L, h, hn, nn with
  | [a], _, _, nn =>
    have := nn a (List.mem_singleton.mpr rfl)
    show ((toString a : Str)).length ≤ 8 ∧ 1 ≤ ((toString a : Str)).length
    omega
  | [a, b], _, _, nn =>
    have h1 := nn a (by simp)
    have h2 := nn b (by simp)
    show ((toString a : Str) ++ "." ++ (toString b : Str)).length ≤ 8 ∧ 1 ≤ ((toString a : Str) ++ "." ++ (toString b : Str)).length
    rw [ap, ap, l1]
    omega
  | [a, b, c], _, _, nn =>
    have h1 := nn a (by simp)
    have h2 := nn b (by simp)
    have h3 := nn c (by simp)
    show ((toString a : Str) ++ "." ++ ((toString b : Str) ++ "." ++ (toString c : Str))).length ≤ 8 ∧ 1 ≤ ((toString a : Str) ++ "." ++ ((toString b : Str) ++ "." ++ (toString c : Str))).length
    rw [ap, ap, ap, ap, l1]
    omega
  | a :: b :: c :: d :: r, h, _, _ => have := h.1; simp only [List.length_cons] at this; omega
theorem fP_len {p : Pg} (h : okP p) : (fP p).length ≤ 9 ∧ 2 ≤ (fP p).length := by
  have h1 := fL_len h.1
  have ap : ∀ x y : Str, (x ++ y).length = x.length + y.length := fun x y => by
    show (x.cps ++ y.cps).size = _
    rw [Array.size_append]; rfl
  unfold fP
  rw [ap]
  have : (if p.2 = 0 then ("a" : Str) else "b").length = 1 := by split <;> decide +kernel
  omega
/-! ### data in the heap -/
def Seq (K : PySem.W.Frag) (H : Hp) (a : Addr) (xs : List V) : Prop := SqL K H a xs ∨ SqT K H a xs
def PageAt (K : PySem.W.Frag) (H : Hp) (v : V) (p : Pg) : Prop := ∃ a l : Addr, v = .ref a ∧ Seq K H a [.ref l, .int p.2] ∧ Seq K H l (p.1.map V.int)
theorem ty_L {K : PySem.W.Frag} {H : Hp} {a : Addr} {xs : List V} (h : SqL K H a xs) : TyX K H (.ref a) (.type "list") := by
  rcases h with (h | ⟨o, h⟩) | ⟨o, its, n, h, c, _⟩
  · exact .base (.lst h)
  · exact .base (.frz h)
  · exact .kList h c
theorem ty_T {K : PySem.W.Frag} {H : Hp} {a : Addr} {xs : List V} (h : SqT K H a xs) : TyX K H (.ref a) (.type "tuple") := by
  rcases h with (h | ⟨o, h⟩) | ⟨o, its, n, h, c, _⟩
  · exact .base (.tup h)
  · exact .fTuple h
  · exact .kTuple h c
theorem kit2_T {K : PySem.W.Frag} : PySem.W.kitAny K (.type "tuple") [.type "tuple", .type "list"] = some true :=
  kitAny_cons (kit_ty (r := true) (by decide +kernel)) (fun h => nomatch h) (fun _ => rfl)
theorem kit2_L {K : PySem.W.Frag} : PySem.W.kitAny K (.type "list") [.type "tuple", .type "list"] = some true :=
  kitAny_cons (kit_ty (r := false) (by decide +kernel)) (fun _ => kitAny_cons (kit_ty (r := true) (by decide +kernel)) (fun h => nomatch h) (fun _ => rfl)) (fun h => nomatch h)
mutual
theorem dp_same {K : PySem.W.Frag} {H H' : Hp} (e : Same H H') : ∀ {v : V} {d : PyData}, Dp K H v d → Dp K H' v d
  | _, _, .non => .non
  | _, _, .bl b => .bl b
  | _, _, .int i => .int i
  | _, _, .str x => .str x
  | _, _, .lst h a => .lst (e.seq h) (dpAll_same e a)
  | _, _, .tup h a => .tup (same_seqT e h) (dpAll_same e a)
theorem dpAll_same {K : PySem.W.Frag} {H H' : Hp} (e : Same H H') : ∀ {vs : List V} {ds : List PyData}, DpAll K H vs ds → DpAll K H' vs ds
  | _, _, .nil => .nil
  | _, _, .cons h a => .cons (dp_same e h) (dpAll_same e a)
end
theorem dpL {K : PySem.W.Frag} {H : Hp} {a : Addr} {L : List Int} (h : SqT K H a (L.map V.int)) : Dp K H (.ref a) (dL L) := .tup h (dp_ints L)
theorem dp_ints_inv {K : PySem.W.Frag} {H : Hp} : ∀ {L : List Int} {vs : List V}, DpAll K H vs (L.map PyData.int) → vs = L.map V.int
  | [], _, .nil => rfl
  | i :: r, _, .cons h a => by
    cases h
    rw [dp_ints_inv a]
    rfl
theorem dL_inv {K : PySem.W.Frag} {H : Hp} {v : V} {L : List Int} (h : Dp K H v (dL L)) : ∃ a, v = .ref a ∧ SqT K H a (L.map V.int) := by
  cases h with
  | tup h a =>
    rw [dp_ints_inv a] at h
    exact ⟨_, rfl, h⟩
theorem dP_inv {K : PySem.W.Frag} {H : Hp} {v : V} {p : Pg} (h : Dp K H v (dP p)) : ∃ a l, v = .ref a ∧ SqT K H a [.ref l, .int p.2] ∧ SqT K H l (p.1.map V.int) := by
  cases h with
  | tup h a =>
    cases a with
    | cons h1 a =>
      cases a with
      | cons h2 a =>
        cases a
        cases h2
        obtain ⟨l, rfl, hl⟩ := dL_inv h1
        exact ⟨_, l, rfl, h, hl⟩
theorem dR_inv {K : PySem.W.Frag} {H : Hp} {v : V} {r : Pg × Pg} (h : Dp K H v (dR r)) : ∃ a x y, v = .ref a ∧ SqT K H a [x, y] ∧ Dp K H x (dP r.1) ∧ Dp K H y (dP r.2) := by
  cases h with
  | tup h a =>
    cases a with
    | cons h1 a =>
      cases a with
      | cons h2 a =>
        cases a
        exact ⟨_, _, _, rfl, h, h1, h2⟩
theorem pageAt_of {K : PySem.W.Frag} {H : Hp} {v : V} {p : Pg} (h : Dp K H v (dP p)) : PageAt K H v p := by
  obtain ⟨a, l, rfl, h1, h2⟩ := dP_inv h
  exact ⟨a, l, rfl, .inr h1, .inr h2⟩
theorem pageAt_same {K : PySem.W.Frag} {H H' : Hp} (e : Same H H') {v : V} {p : Pg} (h : PageAt K H v p) : PageAt K H' v p := by
  obtain ⟨a, l, rfl, h1, h2⟩ := h
  exact ⟨a, l, rfl, same_sq e h1, same_sq e h2⟩
theorem dp_opt {K : PySem.W.Frag} {H : Hp} {v : V} {α : Type} {f : α → PyData} (h : Dp K H v (oD f none)) : v = .non := by
  cases h
  rfl
theorem log_small {n : Nat} (h : n ≤ 99) : n.log2 < 1920 := Nat.lt_of_le_of_lt (Nat.log2_le_self n) (by omega)
section
variable {X : Cx} {e : Expr} {t u : TG}
theorem pg_or (a : PG X e t) (b : PG X e u) : PG X e (fun v σ H Q => t v σ H Q ∨ u v σ H Q) :=
  ⟨fun pins s σ H v w Q I r h => h.elim (fun h => a.run pins s σ H v w Q I r h) (fun h => b.run pins s σ H v w Q I r h)⟩
end
def dg (c : Nat) : Bool := decide (48 ≤ c ∧ c ≤ 57)
theorem dig_in (c : Nat) : decide (c ∈ ("0123456789" : Str).cps.toList) = dg c := by
  have e : ("0123456789" : Str).cps.toList = [48, 49, 50, 51, 52, 53, 54, 55, 56, 57] := by decide +kernel
  unfold dg
  rw [e]
  apply decide_eq_decide.mpr
  simp only [List.mem_cons, List.not_mem_nil, or_false]
  omega
theorem str1 {z : Str} {a : Nat} (h : z.cps.toList = [a]) : z = ⟨#[a]⟩ := TL.ext_tl h
theorem str2 {z : Str} {a b : Nat} (h : z.cps.toList = [a, b]) : z = ⟨#[a, b]⟩ := TL.ext_tl h
theorem len_cps (z : Str) : z.length = z.cps.toList.length := rfl
theorem zero_ne2 (a b : Nat) : (V.str ⟨#[a, b]⟩ = V.str "0") = False := by
  apply propext
  refine ⟨fun h => ?_, False.elim⟩
  injection h with h
  have := congrArg (fun s : Str => s.cps.size) h
  cases this
theorem zero_eq1 (a : Nat) : (V.str ⟨#[a]⟩ = V.str "0") = (a = 48) := by
  apply propext
  refine ⟨fun h => ?_, fun h => by subst h; rfl⟩
  injection h with h
  injection h with h
  exact (List.cons.inj (congrArg Array.toList h)).1
theorem split_cnt (x y : Str) (hy : 1 ≤ y.length) : (Txt.split x y).length ≤ x.length + 1 := by
  have := split_weight x y hy
  omega
theorem mem_sum {zs : List Str} {z : Str} (h : z ∈ zs) : z.length + zs.length ≤ (zs.map (·.length)).sum + zs.length := by
  have : z.length ≤ (zs.map (·.length)).sum := by
    induction zs with
    | nil => cases h
    | cons y r ih =>
      rw [List.map_cons, List.sum_cons]
      rcases List.mem_cons.mp h with e | e
      · rw [e]; omega
      · have := ih e; omega
  omega
theorem split_part (x y : Str) (hy : 1 ≤ y.length) {z : Str} (h : z ∈ Txt.split x y) : z.length ≤ x.length := by
  have h1 := split_weight x y hy
  have h2 := mem_sum h
  have h3 : 1 ≤ (Txt.split x y).length := List.length_pos_of_mem h
  omega
theorem rdI_some {os : List Str} {i : Int} (h : some i ∈ os.map rdI) : 0 ≤ i ∧ i ≤ 99 := by
  obtain ⟨z, _, e⟩ := List.mem_map.mp h
  exact rd_bound e
theorem some_bound {L : List Int} (h : okL L) {i : Int} (hi : some i ∈ L.map some) : 0 ≤ i ∧ i ≤ 99 := by
  obtain ⟨j, hj, e⟩ := List.mem_map.mp hi
  injection e with e
  subst e
  exact h.2.2 _ hj
theorem optI_map (L : List Int) : (L.map some).map optI = L.map V.int := by
  rw [List.map_map]
  rfl
theorem num_fit {L : List Int} (h : okL L) : ((L.map fun i => (toString i : Str)).map (·.length)).sum + (L.map fun i => (toString i : Str)).length * ("." : Str).length ≤ 16777216 := by
  have l1 : ("." : Str).length = 1 := by decide +kernel
  have h1 : ((L.map fun i => (toString i : Str)).map (·.length)).sum ≤ 2 * L.length := by
    have hb := h.2.2
    clear h
    induction L with
    | nil => exact Nat.le_refl _
    | cons i r ih =>
      have hi := num_ok (hb i (List.mem_cons_self ..)).1 (hb i (List.mem_cons_self ..)).2
      have := ih fun j hj => hb j (List.mem_cons_of_mem _ hj)
      simp only [List.map_cons, List.sum_cons, List.length_cons]
      omega
  have h2 := h.1
  rw [l1, List.length_map]
  omega
theorem split_ne (x y : Str) : Txt.split x y ≠ [] := by
  unfold Txt.split
  split
  · simp
  · split
    · simp
    · rw [StrLaws.partsBetween_eq]
      intro h
      generalize Builtin.Str.occurrences x y 0 x.length (x.length + 1) = cuts at h
      cases cuts with
      | nil => cases h
      | cons c r => cases h
theorem seqT_but {K : PySem.W.Frag} {H H' : Hp} {a p : Addr} {xs ys : List V} (ha : H a = some (.lst xs)) (b : But a H H') (h : SqT K H p ys) : SqT K H' p ys :=
  h.elim (fun r => .inl (r.elim (fun e => .inl (b p _ (ne_of e ha (by intro z; cases z)) e)) (fun ⟨o, e⟩ => .inr ⟨o, b p _ (ne_of e ha (by intro z; cases z)) e⟩))) .inr
/-- nothing, ints, tuples -/
def Pn : Nat → PyData → Prop
  | _, .none => True
  | _, .int _ => True
  | n + 1, .tuple ds => ∀ d ∈ ds, Pn n d
  | _, _ => False
mutual
theorem dp_but {K : PySem.W.Frag} {H H' : Hp} {a : Addr} {xs : List V} (ha : H a = some (.lst xs)) (b : But a H H') : ∀ {v : V} {d : PyData}, Dp K H v d → (∃ n, Pn n d) → Dp K H' v d
  | _, _, .non, _ => .non
  | _, _, .bl b, _ => .bl b
  | _, _, .int i, _ => .int i
  | _, _, .str x, _ => .str x
  | _, _, .lst _ _, ⟨n, h⟩ => by cases n <;> exact h.elim
  | _, _, .tup h k, ⟨0, z⟩ => z.elim
  | _, _, .tup h k, ⟨n + 1, z⟩ => .tup (seqT_but ha b h) (dpAll_but ha b k fun d hd => ⟨n, z d hd⟩)
theorem dpAll_but {K : PySem.W.Frag} {H H' : Hp} {a : Addr} {xs : List V} (ha : H a = some (.lst xs)) (b : But a H H') : ∀ {vs : List V} {ds : List PyData}, DpAll K H vs ds → (∀ d ∈ ds, ∃ n, Pn n d) → DpAll K H' vs ds
  | _, _, .nil, _ => .nil
  | _, _, .cons h k, z => .cons (dp_but ha b h (z _ (List.mem_cons_self ..))) (dpAll_but ha b k fun d hd => z d (List.mem_cons_of_mem _ hd))
end
theorem dpAll_snoc {K : PySem.W.Frag} {H : Hp} : ∀ {vs : List V} {ds : List PyData} {v : V} {d : PyData}, DpAll K H vs ds → Dp K H v d → DpAll K H (vs ++ [v]) (ds ++ [d])
  | _, _, _, _, .nil, h => .cons h .nil
  | _, _, _, _, .cons k r, h => .cons k (dpAll_snoc r h)
theorem dpAll_len {K : PySem.W.Frag} {H : Hp} : ∀ {vs : List V} {ds : List PyData}, DpAll K H vs ds → vs.length = ds.length
  | _, _, .nil => rfl
  | _, _, .cons _ r => congrArg (· + 1) (dpAll_len r)
theorem pn_L (L : List Int) : Pn 1 (dL L) := fun d hd => by
  obtain ⟨i, _, rfl⟩ := List.mem_map.mp hd
  trivial
theorem pn_P (p : Pg) : Pn 2 (dP p) := fun d hd => by
  rcases List.mem_cons.mp hd with h | h
  · rw [h]; exact pn_L p.1
  · rw [List.mem_singleton.mp h]; trivial
theorem pn_oL : ∀ o : Option (List Int), Pn 1 (oD dL o)
  | none => trivial
  | some L => pn_L L
theorem pn_oP : ∀ o : Option Pg, Pn 2 (oD dP o)
  | none => trivial
  | some p => pn_P p
theorem lay_pn : ∀ (n : Nat) (d : PyData), Pn n d → d.canLay0 = true ∧ d.depth ≤ n
  | _, .none, _ => ⟨rfl, Nat.zero_le _⟩
  | _, .int _, _ => ⟨rfl, Nat.zero_le _⟩
  | 0, .tuple ds, h => h.elim
  | n + 1, .tuple ds, h => by
    have key : ∀ es : List PyData, (∀ d ∈ es, Pn n d) → PyData.canLayAll0 es = true ∧ PyData.depthAll es ≤ n := by
      intro es
      induction es with
      | nil => exact fun _ => ⟨rfl, Nat.zero_le _⟩
      | cons d r ih =>
        intro hh
        have h1 := lay_pn n d (hh d (List.mem_cons_self ..))
        have h2 := ih fun e he => hh e (List.mem_cons_of_mem _ he)
        refine ⟨?_, ?_⟩
        · show (d.canLay0 && PyData.canLayAll0 r) = true
          rw [h1.1, h2.1]
          rfl
        · show max d.depth (PyData.depthAll r) ≤ n
          omega
    have := key ds h
    exact ⟨this.1, Nat.succ_le_succ this.2⟩
  | _, .bool _, h => by simp [Pn] at h
  | _, .str _, h => by simp [Pn] at h
  | _, .list _, h => by simp [Pn] at h
  | _, .dict _, h => by simp [Pn] at h
theorem shaped_pn {n : Nat} {d : PyData} (h : Pn n d) (hn : n ≤ 64) : SeqAt.shaped d = true := by
  have := lay_pn n d h
  unfold SeqAt.shaped
  rw [Bool.and_eq_true]
  exact ⟨this.1, decide_eq_true (by omega)⟩
theorem shaped_pnl {n : Nat} {ds : List PyData} (h : ∀ d ∈ ds, Pn n d) (hn : n ≤ 63) : SeqAt.shaped (.list ds) = true := by
  have := lay_pn (n + 1) (.tuple ds) h
  unfold SeqAt.shaped
  rw [Bool.and_eq_true]
  exact ⟨this.1, decide_eq_true (by have := this.2; show PyData.depthAll ds + 1 ≤ 64; have e : (PyData.tuple ds).depth = PyData.depthAll ds + 1 := rfl; omega)⟩
theorem none_in (os : List (Option Pg)) : ((os.map (oD dP)).any fun z => PyData.eqv z .none) = os.any (·.isNone) := by
  induction os with
  | nil => rfl
  | cons o r ih =>
    rw [List.map_cons, List.any_cons, List.any_cons, ih]
    cases o <;> rfl
theorem cut_end (z : Str) : (z.cps.toList = [] ∧ cutS z (some (-1)) none = Str.empty) ∨ ∃ c, z.cps.toList.getLast? = some c ∧ cutS z (some (-1)) none = ⟨#[c]⟩ := by
  cases e : z.cps.toList.getLast? with
  | none =>
    have h := List.getLast?_eq_none_iff.mp e
    refine .inl ⟨h, ?_⟩
    unfold cutS
    rw [h]
    simp [Str.empty]
  | some c =>
    refine .inr ⟨c, rfl, ?_⟩
    obtain ⟨l, hl⟩ := List.getLast?_eq_some_iff.mp e
    unfold cutS
    have hz : z.length = l.length + 1 := by
      show z.cps.toList.length = _
      rw [hl, List.length_append]
      rfl
    rw [hz, HT.sIx_none, show HT.sIx (l.length + 1) 0 (some (-1)) = l.length by
      show ((-1 : Int) + ((l.length + 1 : Nat) : Int)).toNat = l.length
      omega, hl, List.drop_left' rfl]
    rw [show l.length + 1 - l.length = 1 by omega]
    rfl
theorem ab_in (y : Str) : inV (.str y) [.str "a", .str "b"] = decide (y = ⟨#[97]⟩ ∨ y = ⟨#[98]⟩) := by
  show ((("a" : Str) == y) || ((("b" : Str) == y) || false)) = _
  have ea : ("a" : Str) = ⟨#[97]⟩ := rfl
  have eb : ("b" : Str) = ⟨#[98]⟩ := rfl
  rw [ea, eb, Bool.or_false]
  by_cases h1 : y = ⟨#[97]⟩
  · subst h1; simp
  · by_cases h2 : y = ⟨#[98]⟩
    · subst h2; simp
    · have h1' : ¬ (⟨#[97]⟩ : Str) = y := fun e => h1 e.symm
      have h2' : ¬ (⟨#[98]⟩ : Str) = y := fun e => h2 e.symm
      simp [h1, h2, h1', h2']
theorem one_inj {a b : Nat} (h : (⟨#[a]⟩ : Str) = ⟨#[b]⟩) : a = b := by
  injection h with h
  exact (List.cons.inj (congrArg Array.toList h)).1
theorem eqv_dP (p q : Pg) : PyData.eqv (dP p) (dP q) = decide (p = q) := by
  show (PyData.eqvAll (p.1.map PyData.int) (q.1.map PyData.int) && ((p.2 == q.2) && true)) = _
  rw [eqv_ints, Bool.and_true]
  obtain ⟨a, b⟩ := p
  obtain ⟨c, d⟩ := q
  by_cases h1 : a = c
  · by_cases h2 : b = d
    · subst h1; subst h2; simp
    · simp [h1, h2]
  · simp [h1]
theorem allSome_none {os : List (Option Int)} (h : none ∈ os) : allSome os = none := by
  induction os with
  | nil => cases h
  | cons o r ih =>
    rcases o with _ | i
    · rfl
    · have h2 : none ∈ r := (List.mem_cons.mp h).resolve_left (by simp)
      unfold allSome
      rw [ih h2]
theorem keep_none {os : List (Option Int)} (h : none ∈ os) : keep os = none := by
  unfold keep
  rw [allSome_none h]
theorem keep_map (L : List Int) : keep (L.map some) = if L.length ≤ 3 ∧ L.getLastD 0 ≠ 0 then some L else none := by
  unfold keep
  rw [allSome_map]
/-! ### data that was laid since -/
mutual
inductive Fd (H0 H : Hp) : V → PyData → Prop
  | int (i : Int) : Fd H0 H (.int i) (.int i)
  | lst {a : Addr} {vs : List V} {ds : List PyData} (h : H a = some (.lst vs)) (n : H0 a = none) (r : FdAll H0 H vs ds) : Fd H0 H (.ref a) (.list ds)
inductive FdAll (H0 H : Hp) : List V → List PyData → Prop
  | nil : FdAll H0 H [] []
  | cons {v : V} {vs : List V} {d : PyData} {ds : List PyData} (h : Fd H0 H v d) (r : FdAll H0 H vs ds) : FdAll H0 H (v :: vs) (d :: ds)
end
mutual
theorem fd_to {H0 H H0' H' : Hp} (hm : ∀ a o, H0 a = none → H a = some o → H0' a = none ∧ H' a = some o) : ∀ {v : V} {d : PyData}, Fd H0 H v d → Fd H0' H' v d
  | _, _, .int i => .int i
  | _, _, .lst h n r => .lst (hm _ _ n h).2 (hm _ _ n h).1 (fdAll_to hm r)
theorem fdAll_to {H0 H H0' H' : Hp} (hm : ∀ a o, H0 a = none → H a = some o → H0' a = none ∧ H' a = some o) : ∀ {vs : List V} {ds : List PyData}, FdAll H0 H vs ds → FdAll H0' H' vs ds
  | _, _, .nil => .nil
  | _, _, .cons h r => .cons (fd_to hm h) (fdAll_to hm r)
end
mutual
theorem fd_dp {K : PySem.W.Frag} {H0 H : Hp} : ∀ {v : V} {d : PyData}, Fd H0 H v d → Dp K H v d
  | _, _, .int i => .int i
  | _, _, .lst h _ r => .lst (.inl (.inl h)) (fdAll_dp r)
theorem fdAll_dp {K : PySem.W.Frag} {H0 H : Hp} : ∀ {vs : List V} {ds : List PyData}, FdAll H0 H vs ds → DpAll K H vs ds
  | _, _, .nil => .nil
  | _, _, .cons h r => .cons (fd_dp h) (fdAll_dp r)
end
theorem fdAll_snoc {H0 H : Hp} : ∀ {vs : List V} {ds : List PyData} {v : V} {d : PyData}, FdAll H0 H vs ds → Fd H0 H v d → FdAll H0 H (vs ++ [v]) (ds ++ [d])
  | _, _, _, _, .nil, h => .cons h .nil
  | _, _, _, _, .cons k r, h => .cons k (fdAll_snoc r h)
theorem fdAll_len {H0 H : Hp} : ∀ {vs : List V} {ds : List PyData}, FdAll H0 H vs ds → vs.length = ds.length
  | _, _, .nil => rfl
  | _, _, .cons _ r => congrArg (· + 1) (fdAll_len r)
theorem fdAll_same {H0 H H' : Hp} (s : Same H H') {vs : List V} {ds : List PyData} (h : FdAll H0 H vs ds) : FdAll H0 H' vs ds := fdAll_to (fun a o n e => ⟨n, s a o e⟩) h
theorem dpAll_get {K : PySem.W.Frag} {H : Hp} : ∀ {vs : List V} {ds : List PyData} {i : Nat} {v : V}, DpAll K H vs ds → vs[i]? = some v → ∃ d, ds[i]? = some d ∧ Dp K H v d
  | _, _, _, _, .nil, e => nomatch e
  | _, _, 0, _, .cons h r, e => by
    injection e with e
    subst e
    exact ⟨_, rfl, h⟩
  | _, _, i + 1, _, .cons h r, e => by
    obtain ⟨d, e1, e2⟩ := dpAll_get (i := i) r e
    exact ⟨d, e1, e2⟩
theorem dpAll_get2 {K : PySem.W.Frag} {H : Hp} {vs : List V} {ds : List PyData} {i : Nat} {d : PyData} (h : DpAll K H vs ds) (e : ds[i]? = some d) : ∃ v, vs[i]? = some v ∧ Dp K H v d := by
  have hi := (List.getElem?_eq_some_iff.mp e).1
  rw [← dpAll_len h] at hi
  have e1 := List.getElem?_eq_getElem hi
  obtain ⟨d', e2, e3⟩ := dpAll_get h e1
  rw [e] at e2
  injection e2 with e2
  subst e2
  exact ⟨_, e1, e3⟩
theorem ixN_end (R : List Int) (x : Int) : ixN ((R ++ [x]).map V.int).length (-1) = some R.length := by
  unfold ixN
  rw [List.length_map, List.length_append, List.length_singleton, if_neg (by decide), if_pos (by omega)]
  congr 1
  omega
theorem set_end (R : List Int) (x v : Int) : ((R ++ [x]).map V.int).set R.length (.int v) = (R ++ [v]).map V.int := by
  rw [List.map_append, List.map_append, List.set_append_right _ _ (by rw [List.length_map]; exact Nat.le_refl _), List.length_map, Nat.sub_self]
  rfl
theorem at_end (R : List Int) (x : Int) : atI ((R ++ [x]).map V.int) (-1) = some (.int x) := by
  rw [List.map_append]
  exact atI_last _ _
/-- a page that was laid apart from a -/
def PT (a : Addr) (H : Hp) (o : Addr) (p : Pg) : Prop := ∃ l, l ≠ a ∧ o ≠ a ∧ H o = some (.tup [.ref l, .int p.2]) ∧ H l = some (.tup (p.1.map V.int))
theorem PT.but {a o : Addr} {H H' : Hp} {p : Pg} (h : PT a H o p) (b : But a H H') : PT a H' o p := by
  obtain ⟨l, h1, h2, h3, h4⟩ := h
  exact ⟨l, h1, h2, b _ _ h2 h3, b _ _ h1 h4⟩
theorem PT.dp {K : PySem.W.Frag} {a o : Addr} {H : Hp} {p : Pg} (h : PT a H o p) : Dp K H (.ref o) (dP p) := by
  obtain ⟨l, h1, h2, h3, h4⟩ := h
  exact .tup (.inl (.inl h3)) (.cons (dpL (.inl (.inl h4))) (.cons (.int _) .nil))
theorem cut_to (z : Str) (k : Int) (h0 : 0 ≤ k) (h1 : k ≤ (z.length : Int)) : (cutS z none (some k)).length = k.toNat := by
  obtain ⟨n, rfl⟩ := Int.eq_ofNat_of_zero_le h0
  show (((z.cps.toList.drop 0).take (HT.sIx z.length z.length (some (n : Int)) - 0)).toArray).size = _
  rw [HT.sIx_nat, List.size_toArray, List.length_take, List.drop_zero, Array.length_toList]
  show min (min n z.length - 0) z.length = _
  omega
theorem cut_from (z : Str) (k : Int) (h0 : 0 ≤ k) : (cutS z (some k) none).length = z.length - k.toNat := by
  obtain ⟨n, rfl⟩ := Int.eq_ofNat_of_zero_le h0
  show (((z.cps.toList.drop (HT.sIx z.length 0 (some (n : Int)))).take (z.length - HT.sIx z.length 0 (some (n : Int)))).toArray).size = _
  rw [HT.sIx_nat, List.size_toArray, List.length_take, List.length_drop, Array.length_toList]
  show min (z.length - min n z.length) (z.length - min n z.length) = _
  omega
theorem at_some {α : Type} (xs : List α) (k : Int) (h0 : 0 ≤ k) (h1 : k < (xs.length : Int)) : ∃ c, atI xs k = some c := by
  obtain ⟨n, rfl⟩ := Int.eq_ofNat_of_zero_le h0
  exact ⟨_, atI_nat (List.getElem?_eq_getElem (show n < xs.length by omega))⟩
/-! ### == and != of lists of plain values that are the same -/
section
variable {X : Cx}
/-- two lists of the same plain values -/
def rSameL (K : PySem.W.Frag) (b : Bool) : R2 := fun x y H Q => ∃ (p q : Addr) (zs : List V), x = .ref p ∧ y = .ref q ∧ H p = some (.lst zs) ∧ H q = some (.lst zs) ∧ (∀ z ∈ zs, flatB z = true) ∧ Q (.bl b) H
theorem same_items {A : Around} {s : Shared} : ∀ {zs : List V} {us ws : List Value}, Vals zs us → Vals zs ws → (∀ z ∈ zs, flatB z = true) → ∀ j (h1 : j < us.length) (h2 : j < ws.length), SeqAt.EqAt A s us[j] ws[j] true
  | [], _, _, .nil, _, _, j, h1, _ => absurd h1 (Nat.not_lt_zero j)
  | z :: r, _, _, .cons a1 b1, .cons a2 b2, f, j, h1, h2 => by
    cases j with
    | zero => exact eqAt_same a1 a2 (f z (List.mem_cons_self ..))
    | succ j => exact same_items b1 b2 (fun y hy => f y (List.mem_cons_of_mem _ hy)) j (Nat.lt_of_succ_lt_succ h1) (Nat.lt_of_succ_lt_succ h2)
theorem op_neS (hu : X.A.units + 64 < cLine) : OpR X (compareOp .NotEq) (rSameL X.K false) := by
  intro pins s σ H x y v u Q I rx ry h
  obtain ⟨p, q, zs, rfl, rfl, hp, hq, hf, k⟩ := h
  obtain rfl : v = Value.ref p := rx
  obtain rfl : u = Value.ref q := ry
  obtain ⟨us, r1, p1, _⟩ := I.list (.inl (.inl hp))
  obtain ⟨ws, r2, p2, _⟩ := I.list (.inl (.inl hq))
  have hsz : us.toArray.size = ws.toArray.size := by
    rw [List.size_toArray, List.size_toArray, ← r1.length, ← r2.length]
  refine SeqAt.RcNeAt.lists (e := fun _ => true) p1.isList p2.isList hsz (by omega) (fun j h1 h2 => ?_) _ _ _ _ ?_
  · have k := same_items (A := X.A.in1) (s := s) r1 r2 hf j (by simpa using h1) (by simpa using h2)
    simpa using k
  · rw [show ((List.range us.toArray.size).all fun _ => true) = true from List.all_eq_true.mpr fun _ _ => rfl]
    exact ⟨.bl false, H, I, rfl, k⟩
end
/-! ### a def that is called where no object is being shown: its promise may count on that (repr) -/
structure GnOk (P : Program) (w : World) (K : PySem.W.Frag) (mg : Str → Option Value) (base : Heap) (CX : CXT) (k : Nat) (f : Addr) (fd : FuncData) (ps : List Str) (sp : Sp) : Prop where
  size : ∀ vs H Q E, sp vs H Q E → vs.length = ps.length
  go : ∀ (A : Around) (outer : List Env) (s : Shared) (H : Hp) (args : Args) (us : List Value) (vs : List V) (Q : VK) (E : XK), Room k A → A.guards = some [] → Env0 P w K mg base A outer s H →
    BindsTo s fd args (ps.zip us) → Vals vs us → sp vs H Q E → codeAny (model P w) A (.call (.ref f) args) (CR CX outer P w H s Q E) s
section
variable {P : Program} {w : World} {K : PySem.W.Frag} {mg : Str → Option Value} {base : Heap}
theorem ce_of {X : Cx} {Q : VK} {σ : L2.St} {H H1 : Hp} {s s1 : Shared} {v : V} {u : Value} (J : Inv X [] σ H1 s1) (r : RelV v u) (q : Q v H1) (e1 : s1.os = s.os) (e2 : Un (frs X.outer) [] H H1 s.heap s1.heap) :
    CE X.outer X.prog X.w H s Q u s1 := ⟨v, H1, e1, J.bare, e2, J.hok, r, q⟩
theorem gn_of {CX : CXT} {k : Nat} {x qual : Str} {st : Stmt} {f : Addr} {fd : FuncData} {N ps : List Str} {sp : Sp} (F : Fun K x qual st f fd) (S : FnScope N ps (defScope st)) (len : ∀ vs H Q E, sp vs H Q E → vs.length = ps.length)
    (body : ∀ (cdv : Value) (A : Around) (outer : List Env) (s : Shared) (H : Hp) (vs : List V) (Q : VK) (E : XK), Room k (A.deeper (envOfC qual (defScope st) s.heap.objs.size f cdv)) → A.guards = some [] → sp vs H Q E →
      ∃ t, PSs (cxOf CX P w K mg base N qual (defScope st) f cdv A outer s H E) (defBody st) t ∧ t { nx := fun _ H' => Q .non H', rt := Q } (start N vs) H) : GnOk P w K mg base CX (k + 1) f fd ps sp := by
  obtain ⟨oc, od, kV, doc, pm, an, cdv, ct, osl, rfl, lk, hcd⟩ := F.ex
  constructor
  · exact len
  intro A outer s H args us vs Q E hr hg env0 bind rel hsp
  have up := env0.bs
  have KX : K.In s.heap := env0.mod.kin.keeps (fun b o e => (up b o e).1)
  refine codeAny_call_function (hroom := hr.depth) (KX _ _ lk) rfl S.co S.gen rfl (PySem.W.codeRec_of KX hcd) (bind _ _ _ _ ?_)
  have kinds : ∀ y ∈ ps.zip us, (defScope st).names.lookup y.1 = some .local ∨
      ((defScope st).names.lookup y.1 = some .cell ∧ ((cellsFrom (s.heap.objs.size + 1) (defScope st).names []).lookup y.1).isSome = true) := by
    rintro ⟨n, v⟩ hy
    exact (S.par n (List.of_mem_zip hy).1).elim .inl (fun q => .inr ⟨q, PySem.W.cellsFrom_some _ _ _ (.inl q)⟩)
  refine wpAny_newFunctionEnv_cells S.kind kinds (fun env he s1 fresh => ?_)
  subst he
  refine ⟨(env0.mod.nolimit.keeps (fun b o e => (up b o e).1)).keeps fresh.toInCall.keep, codeAny_func ?_⟩
  obtain ⟨t, walk, want⟩ := body cdv A outer s H vs Q E (hr.deeper _) hg hsp
  have J := inv_start (CX := CX) (E := E) S hr.hd env0 (len _ _ _ _ hsp) rel fresh
  refine wpAny_mono (walk.run [] s1 (start N vs) H _ J want) ?_ (fun _ _ z => z)
  rintro (_ | _ | _ | u) s2 h
  · obtain ⟨σ2, H2, J2, q⟩ := h
    exact ⟨.non, H2, J2.os, J2.bare, J2.base, J2.hok, rfl, q⟩
  · obtain ⟨_, _, _, q⟩ := h
    exact q.elim
  · obtain ⟨_, _, _, q⟩ := h
    exact q.elim
  · obtain ⟨v, σ2, H2, J2, r, q⟩ := h
    exact ⟨v, H2, J2.os, J2.bare, J2.base, J2.hok, r, q⟩
end
section
variable {X : Cx} {CX : CXT} {k : Nat} {f : Addr} {fd : FuncData} {ps : List Str} {sp : Sp} {E : XK} {x : Str} {p pos : Pos} {e : Expr} {es : List Expr} {t : TA}
/-- such a def is called by its name -/
theorem pe_callG (F : GnOk X.prog X.w X.K X.mg X.base CX k f fd ps sp) (hr : Room k X.A) (hg : X.A.guards = some []) (gl : Gl X x) (hm : X.mg x = some (.ref f)) (hk : PySem.W.keepIn X.K (.ref f) = true) (hb : Binds X.K fd ps []) (hx : Passes CX X E)
    (ha : PA X (e :: es) t) (hdb : (x == ("__debug__" : Str)) = false := by decide) (he : starEach (e :: es) X.env = (false, eval e X.env) :: starEach es X.env := by rfl) (hpl : (backTo pos (starEach es X.env)).any (·.1) = false := by rfl) :
    PE X (.Call (.Name x p) (e :: es) [] pos) (tCall sp [] E t) := by
  constructor
  intro pins s σ H Q I h
  refine wpAny_Call_Name_kw (ld_glob I gl hm ?_ hdb)
  refine PySem.W.callWith_K (h₀ := X.base) I.ok.mod.kin hk ?_ he hpl
  refine thn (ha.run pos pins s σ H _ I h) ?_
  rintro us s1 ⟨vs, H1, I1, rel, q⟩
  refine ⟨I1.kIn, ?_⟩
  have q : sp vs H1 Q E := by rw [List.append_nil] at q; exact q
  have bd := hb s1 us I1.kIn (by rw [List.append_nil, ← rel.length]; exact F.size _ _ _ _ q)
  rw [List.append_nil] at bd
  refine wpAny_call (codeAny_mono (F.go X.A X.stack s1 H1 _ us vs Q E hr hg I1.env0 bd rel q) ?_)
  rintro (er | fl) s2 h2
  · exact hx pins σ H1 s1 er s2 I1 h2
  · rcases fl with _ | _ | _ | u
    · exact h2.elim
    · exact h2.elim
    · exact h2.elim
    · exact I1.after h2
end
section
variable {P : Program} {w : World} {K : PySem.W.Frag} {mg mb : Str → Option Value} {CX : CXT} {k : Nat} {fa a : Addr} {fd : FuncData} {x : Str} {sp : Sp} {s₁ : Shared} {vs : List Value} {ns : List Int}
/-- what the top asks of the law's call -/
def Ended (s₁ : Shared) (r : Result) (s' : Shared) : Prop := r = .ok (.ret (.bool true)) ∧ OldK s₁.heap s'.heap ∧ s'.os = s₁.os ∧ AllBare s'.gens
theorem only_at {H : Hp} (hA : ∀ b, H b ≠ none → b = a) {b : Addr} {u : HO} (q : H b = some u) : b = a := hA b (fun z => by rw [q] at z; cases z)
theorem go_with {H : Hp} (KX : K.In s₁.heap) (hns : s₁.heap.Ns mainGlobals mg) (hb : s₁.heap.Ns builtinsNs mb) (hbb : ∀ x : Str, x ≠ "__name__" → mb x = bootBuiltins x) (hlim : s₁.heap.NoLimit) (hg : s₁.gens = #[])
    (ha : s₁.heap.get? a = some { cls := .type "list", data := .seq vs.toArray }) (hr : Room k callerA) (F : ∀ base : Heap, K.In base → base.Ns mainGlobals mg → GnOk P w K mg base CX k fa fd [x] sp)
    (hbind : ∀ (s : Shared) (u : Value), BindsTo s fd ⟨[u], []⟩ [(x, u)]) (hO : Only H) (hok : HOk P w H s₁.heap) (hA : ∀ b, H b ≠ none → b = a) (hK : H a ≠ none → K.lookup a = none)
    (hsp : sp [.ref a] H (fun v _ => v = .bl true) fun _ _ _ => False) (hCX : ∀ e s', CX [] H s₁ (fun _ _ _ => False) e s' → False) : codeAny (model P w) callerA (.call (.ref fa) ⟨[.ref a], []⟩) (Ended s₁) s₁ := by
  -- a dict, and what is written, is not the script: it stands in the rest too
  have dicts : ∀ {b : Addr} {m : Str → Option Value}, s₁.heap.Ns b m → (hidT s₁.heap H).Ns b m := by
    rintro b m ⟨o, es, ep, e, d, r⟩
    refine ⟨o, es, ep, hidT_get e ?_, d, r⟩
    cases q : H b with
    | none => rfl
    | some u =>
      have z := only_at hA q
      rw [z, ha] at e
      cases e
      have d2 : Data.seq vs.toArray _ = Data.dict es ep := d
      cases d2
  have written : K.In (hidT s₁.heap H) := by
    intro b o e
    refine hidT_get (KX b o e) ?_
    cases q : H b with
    | none => rfl
    | some u =>
      have z := only_at hA q
      subst z
      rw [hK (fun z => by rw [q] at z; cases z)] at e
      cases e
  obtain ⟨mc, l1, l2⟩ := hlim
  have M : Mod K mg (hidT s₁.heap H) := ⟨written, dicts hns, ⟨mb, dicts hb, hbb⟩, ⟨mc, dicts l1, l2⟩⟩
  have env0 : Env0 P w K mg (hidT s₁.heap H) callerA [] s₁ H := { frames := rfl, mod := M, bs := fun b o e => of_hidT e, bsz := Nat.le_of_eq (hidT_size _ _), funs := trivial, frf := (fun b z => by cases z), hok := hok, bare := .of_eq hg }
  have run := (F _ written (dicts hns)).go callerA [] s₁ H ⟨[.ref a], []⟩ [.ref a] [.ref a] _ _ hr rfl env0 (hbind s₁ (.ref a)) (.cons rfl .nil) hsp
  refine codeAny_mono run ?_
  rintro (e | _ | _ | _ | u) s' h
  · exact (hCX e s' h).elim
  · exact h.elim
  · exact h.elim
  · exact h.elim
  obtain ⟨v, H', os, bare, un, hok', r', q⟩ := h
  obtain rfl : v = .bl true := q
  obtain rfl : u = Value.bool true := r'
  refine ⟨rfl, OldK.of_keep ?_, os, bare⟩
  intro b o e
  cases q : H b with
  | none => exact un.keep b o e q (fun z => by cases z) (fun z => by cases z)
  | some u =>
    rcases hO b with z | ⟨ob, xs, z⟩
    · rw [q] at z
      cases z
    · obtain ⟨e1, _⟩ := hok b _ z
      obtain ⟨e2, _⟩ := hok' b _ (un.frzs b ob _ z)
      rw [e] at e1
      cases e1
      exact e2
/-- the script alone is tracked -/
def script (a : Addr) (vs : List Value) (ns : List Int) : Hp := fun b => if b = a then some (.frz { cls := .type "list", data := .seq vs.toArray } (.lst (ns.map V.int))) else Option.none
theorem script_at : script a vs ns a = some (.frz { cls := .type "list", data := .seq vs.toArray } (.lst (ns.map V.int))) := if_pos rfl
theorem script_ne {b : Addr} (h : b ≠ a) : script a vs ns b = Option.none := if_neg h
theorem law_goG (KX : K.In s₁.heap) (hns : s₁.heap.Ns mainGlobals mg) (hb : s₁.heap.Ns builtinsNs mb) (hbb : ∀ x : Str, x ≠ "__name__" → mb x = bootBuiltins x) (hlim : s₁.heap.NoLimit) (hg : s₁.gens = #[])
    (ha : s₁.heap.get? a = some { cls := .type "list", data := .seq vs.toArray }) (hi : IntsAre vs ns) (hl : ns.length ≤ sizeLine) (hr : Room k callerA) (F : ∀ base : Heap, K.In base → base.Ns mainGlobals mg → GnOk P w K mg base CX k fa fd [x] sp)
    (hbind : ∀ (s : Shared) (u : Value), BindsTo s fd ⟨[u], []⟩ [(x, u)]) (hsp : ∀ H : Hp, Only H → SqL K H a (ns.map V.int) → sp [.ref a] H (fun v _ => v = .bl true) fun _ _ _ => False)
    (hCX : ∀ H e s', CX [] H s₁ (fun _ _ _ => False) e s' → False) : codeAny (model P w) callerA (.call (.ref fa) ⟨[.ref a], []⟩) (Ended s₁) s₁ := by
  have rv := vals_ints hi
  cases hk : K.lookup a with
  | some o =>
    have e := (KX a o hk).symm.trans ha
    cases e
    have hO : Only (fun _ => Option.none) := fun _ => .inl rfl
    have hS : SqL K (fun _ => Option.none) a (ns.map V.int) := .inr ⟨_, vs.toArray, _, hk, rfl, rfl, rfl, by rw [List.size_toArray, hi.length]; exact hl, by simpa using rv⟩
    exact go_with KX hns hb hbb hlim hg ha hr F hbind hO (fun b u z => by have z' : (Option.none : Option HO) = some u := z; cases z') (fun b z => absurd rfl z) (fun z => absurd rfl z) (hsp _ hO hS) (hCX _)
  | none =>
    have hO : Only (script a vs ns) := fun b => by
      by_cases q : b = a
      · subst q
        exact .inr ⟨_, _, script_at⟩
      · exact .inl (script_ne q)
    refine go_with KX hns hb hbb hlim hg ha hr F hbind hO ?_ ?_ (fun _ => hk) (hsp _ hO (.inl (.inr ⟨_, script_at⟩))) (hCX _)
    · intro b u z
      by_cases q : b = a
      · subst q
        rw [script_at] at z
        cases z
        exact ⟨ha, by rw [List.length_map]; exact hl, vs, _, rv, ha⟩
      · rw [script_ne q] at z
        cases z
    · intro b z
      by_cases q : b = a
      · exact q
      · exact absurd (script_ne q) z
end
/-- the goal behind k_head, for a law whose def counts on it -/
theorem walk_ofG {l : PySem.W.OpenLaw} {n k : Nat} {q : Program} {loose : List Str} {XP : (Str → Option Value) → Heap → Prop} {YP : World → Heap → Prop} {d : DefRec} {K : Params → PySem.W.Frag} {CX : World → CXT} {sp : World → Sp} {x : Str}
    (hn : l.most = some n) (hn2 : n ≤ sizeLine) (hdf : d.params.defaults = []) (hr : Room k callerA) (hY : ∀ (w : World) (h : Heap), YP w h → (K w.params).In h)
    (F : ∀ (w : World) (mg : Str → Option Value) (fa : Addr) (h : Heap), (K w.params).In h → h.Ns mainGlobals mg → mg d.name = some (.ref fa) → ∃ fd : FuncData, (∀ (s : Shared) (u : Value), BindsTo s fd ⟨[u], []⟩ [(x, u)]) ∧
      ∀ base : Heap, (K w.params).In base → base.Ns mainGlobals mg → GnOk l.prog w (K w.params) mg base (CX w) k fa fd [x] (sp w))
    (hsp : ∀ (w : World) (H : Hp) (a : Addr) (ns : List Int), ns.length ≤ n → Only H → SqL (K w.params) H a (ns.map V.int) → sp w [.ref a] H (fun v _ => v = .bl true) fun _ _ _ => False)
    (hCX : ∀ (w : World) (H : Hp) (s : Shared) (e : Value) (s' : Shared), CX w [] H s (fun _ _ _ => False) e s' → False) : PySem.W.WalkO q loose XP YP l.row.toRowW d [] (fun f vs => PySem.call f vs) := by
  refine Att.attach_call hn hdf ?_
  intro w s₀ s₁ mg mb fa o pm cd doc a vs ns G Y ho hd hcd hmg hobj hints hlen hg
  obtain ⟨fd, hb, hF⟩ := F w mg fa _ (hY w _ Y) G.T.g hmg
  exact law_goG (hY w _ Y) G.T.g G.T.b G.T.builtins G.T.nolimit hg hobj hints (Nat.le_trans hlen hn2) hr hF hb (fun H h1 h2 => hsp w H a ns hlen h1 h2) (fun H e s' => hCX w H s₁ e s')
/-- for a def that nothing leaves -/
theorem gn_ok {P : Program} {w : World} {K : PySem.W.Frag} {mg : Str → Option Value} {base : Heap} {k : Nat} {x qual : Str} {st : Stmt} {f : Addr} {fd : FuncData} {N ps : List Str} {sp : Sp} (F : Fun K x qual st f fd) (S : FnScope N ps (defScope st))
    (len : ∀ vs H Q E, sp vs H Q E → vs.length = ps.length) (body : ∀ (cdv : Value) (A : Around) (outer : List Env) (s : Shared) (H : Hp) (vs : List V) (Q : VK) (E : XK), Room k (A.deeper (envOfC qual (defScope st) s.heap.objs.size f cdv)) → A.guards = some [] → sp vs H Q E →
      ∃ t, PSs (cxOf CX0 P w K mg base N qual (defScope st) f cdv A outer s H E).nox (defBody st) t ∧ t { nx := fun _ H' => Q .non H', rt := Q } (start N vs) H) : GnOk P w K mg base CX0 (k + 1) f fd ps sp :=
  gn_of F S len (fun cdv A outer s H vs Q E hr hg h => (body cdv A outer s H vs Q E hr hg h).elim fun t z => ⟨t, z.1.nox, z.2⟩)
theorem un20 {k : Nat} {A : Around} (r : Room k A) : A.units + 20 < cLine := by have := r.un; omega
/-! ### repr of data, where no object is being shown -/
def rReprD (K : PySem.W.Frag) : List V → Hp → VK → Prop := fun xs H Q => ∃ (v : V) (d : PyData), xs = [v] ∧ Dp K H v d ∧ d.showable = true ∧ d.hasDict = false ∧ d.depth ≤ 8 ∧ d.shown.length ≤ sizeLine ∧ Q (.str d.shown) H
theorem call_reprD {X : Cx} (hg : X.A.guards = some []) (hu : X.A.units + 20 < cLine) : CallR X (.builtin "repr") (rReprD X.K) := by
  intro pins s σ H xs us Q I r h
  obtain ⟨v, d, rfl, hd, h1, h2, h3, h4, q⟩ := h
  obtain ⟨u, rfl, ru⟩ := vals1 r
  obtain ⟨as, R⟩ := Dp.reads I d v u hd ru
  cases v with
  | ref a =>
    obtain rfl : u = Value.ref a := ru
    refine repr_of_reads' R h1 (fun z => by rw [h2] at z; cases z) hg (by omega) (fun _ _ z => z) (fun h' u tk hk => ?_) h4
    exact ⟨.str _, H, I.kept (t' := tk) hk, ⟨_, rfl⟩, q⟩
  | non =>
    cases hd
    cases ru
    exact PySem.P.repr_of_none ⟨.str _, H, I.tok _, ⟨_, rfl⟩, q⟩
  | bl b =>
    cases hd
    cases ru
    exact PySem.P.repr_of_bool ⟨.str _, H, I.tok _, ⟨_, rfl⟩, q⟩
  | int i =>
    cases hd
    obtain ⟨t, rfl⟩ := ru
    have hz : i.natAbs.log2 < 1920 := of_decide_eq_true h1
    exact PySem.P.repr_of_int hz ⟨.str _, H, I.tok _, ⟨_, rfl⟩, q⟩
  | str z =>
    cases hd
    obtain ⟨t, rfl⟩ := ru
    exact PySem.P.repr_of_str ⟨.str _, H, I.tok _, ⟨_, rfl⟩, q⟩ h4
  | _ => cases hd
theorem call_reprS {X : Cx} {a : Addr} {oe : Obj} {pn : List (Addr × Obj)} (hg : X.A.guards = some []) (hu : X.A.units + 20 < cLine) : CallR (X.suite a ((a, oe) :: pn)) (.builtin "repr") (rReprD X.K) := call_reprD (X := X.suite a ((a, oe) :: pn)) hg hu
/-! ### what is kept of a thing as a label -/
def ok99 (L : List Int) : Prop := ∀ i ∈ L, 0 ≤ i ∧ i ≤ 99
theorem getD_99 {L : List Int} (h : ok99 L) (n : Nat) : 0 ≤ L.getD n 0 ∧ L.getD n 0 ≤ 99 := by
  rw [List.getD_eq_getElem?_getD]
  cases e : L[n]? with
  | none => exact ⟨by decide, by decide⟩
  | some i => exact h i (List.mem_of_getElem? e)
def items : PyData → Option (List PyData)
  | .list ds => some ds
  | .tuple ds => some ds
  | _ => none
def isI : PyData → Bool
  | .int _ => true
  | _ => false
def toO : PyData → Option Int
  | .int i => if 0 ≤ i ∧ i ≤ 99 then some i else none
  | _ => none
def keptD (d : PyData) : Option (List Int) := match items d with
  | some ds => keep (ds.map toO)
  | none => none
def wI (l m : Int) : PyData → Bool
  | .int i => decide (l ≤ i ∧ i ≤ m)
  | _ => false
theorem toO_some (d : PyData) : (toO d).isSome = wI 0 99 d := by
  cases d with
  | int i =>
    show (if 0 ≤ i ∧ i ≤ 99 then some i else none).isSome = decide (0 ≤ i ∧ i ≤ 99)
    by_cases h : 0 ≤ i ∧ i ≤ 99
    · rw [if_pos h, decide_eq_true h]; rfl
    · rw [if_neg h, decide_eq_false h]; rfl
  | _ => rfl
theorem toO_ints {L : List Int} (h : ok99 L) : (L.map PyData.int).map toO = L.map some := by
  rw [List.map_map]
  exact List.map_congr_left fun i hi => if_pos (h i hi)

/-- no lists in it -/
def Nl : Nat → PyData → Prop
  | _, .none => True
  | _, .int _ => True
  | _, .bool _ => True
  | _, .str _ => True
  | n + 1, .tuple ds => ∀ d ∈ ds, Nl n d
  | _, _ => False
mutual
theorem dp_butN {K : PySem.W.Frag} {H H' : Hp} {a : Addr} {xs : List V} (ha : H a = some (.lst xs)) (b : But a H H') : ∀ {v : V} {d : PyData}, Dp K H v d → (∃ n, Nl n d) → Dp K H' v d
  | _, _, .non, _ => .non
  | _, _, .bl b, _ => .bl b
  | _, _, .int i, _ => .int i
  | _, _, .str x, _ => .str x
  | _, _, .lst _ _, ⟨n, h⟩ => by cases n <;> exact h.elim
  | _, _, .tup h k, ⟨0, z⟩ => z.elim
  | _, _, .tup h k, ⟨n + 1, z⟩ => .tup (seqT_but ha b h) (dpAll_butN ha b k fun d hd => ⟨n, z d hd⟩)
theorem dpAll_butN {K : PySem.W.Frag} {H H' : Hp} {a : Addr} {xs : List V} (ha : H a = some (.lst xs)) (b : But a H H') : ∀ {vs : List V} {ds : List PyData}, DpAll K H vs ds → (∀ d ∈ ds, ∃ n, Nl n d) → DpAll K H' vs ds
  | _, _, .nil, _ => .nil
  | _, _, .cons h k, z => .cons (dp_butN ha b h (z _ (List.mem_cons_self ..))) (dpAll_butN ha b k fun d hd => z d (List.mem_cons_of_mem _ hd))
end
theorem kit2_no {K : PySem.W.Frag} {t : String} (h1 : kitB t "tuple" = some false) (h2 : kitB t "list" = some false) : PySem.W.kitAny K (.type t) [.type "tuple", .type "list"] = some false :=
  kitAny_cons (kit_ty h1) (fun _ => kitAny_cons (kit_ty h2) (fun _ => rfl) (fun z => by cases z)) (fun z => by cases z)
theorem allSome_all : ∀ {os : List (Option Int)} {L : List Int}, allSome os = some L → os = L.map some
  | [], L, h => by
    cases h
    rfl
  | none :: r, L, h => by cases h
  | some i :: r, L, h => by
    unfold allSome at h
    split at h
    · rename_i L' e
      cases h
      rw [allSome_all e]
      rfl
    · cases h
theorem map_bl (ds : List PyData) : (ds.map fun d => V.bl (wI 0 99 d)) = (ds.map (wI 0 99)).map V.bl := (List.map_map ..).symm
theorem all_bl (ds : List PyData) : (ds.map (wI 0 99)).all id = ds.all (wI 0 99) := by
  rw [List.all_map]
  rfl
theorem all_ints : ∀ {ds : List PyData}, ds.all (wI 0 99) = true → ∃ L : List Int, ds = L.map PyData.int ∧ ok99 L
  | [], _ => ⟨[], rfl, fun _ h => nomatch h⟩
  | d :: r, h => by
    rw [List.all_cons, Bool.and_eq_true] at h
    obtain ⟨L, e, hL⟩ := all_ints h.2
    cases d with
    | int i =>
      have hi := of_decide_eq_true h.1
      refine ⟨i :: L, by rw [e]; rfl, fun j hj => ?_⟩
      rcases List.mem_cons.mp hj with z | z
      · rw [z]; exact hi
      · exact hL j z
    | _ => cases h.1
theorem not_all {ds : List PyData} (h : ds.all (wI 0 99) = false) : none ∈ ds.map toO := by
  obtain ⟨d, hd, e⟩ := List.all_eq_false.mp h
  refine List.mem_map.mpr ⟨d, hd, ?_⟩
  cases q : toO d with
  | none => rfl
  | some i =>
    have := toO_some d
    rw [q] at this
    exact absurd this.symm e
/-- what stands behind an own error that was made: its dict alone is new -/
theorem toO_bd {d : PyData} {i : Int} (h : toO d = some i) : 0 ≤ i ∧ i ≤ 99 := by
  cases d with
  | int j =>
    have h : (if 0 ≤ j ∧ j ≤ 99 then some j else none) = some i := h
    by_cases hj : 0 ≤ j ∧ j ≤ 99
    · rw [if_pos hj] at h
      cases h
      exact hj
    · rw [if_neg hj] at h
      cases h
  | _ => cases h
theorem keep_some {os : List (Option Int)} {L : List Int} (h : keep os = some L) : os = L.map some ∧ L.length ≤ 3 ∧ L.getLastD 0 ≠ 0 := by
  unfold keep at h
  cases e : allSome os with
  | none => rw [e] at h; cases h
  | some M =>
    rw [e] at h
    simp only at h
    split at h
    · rename_i hM
      cases h
      exact ⟨allSome_all e, hM⟩
    · cases h
theorem kept_okL {d : PyData} {L : List Int} (h : keptD d = some L) : okL L := by
  unfold keptD at h
  cases e : items d with
  | none => rw [e] at h; cases h
  | some ds =>
    rw [e] at h
    simp only at h
    obtain ⟨h1, h2, h3⟩ := keep_some h
    refine ⟨h2, h3, fun i hi => ?_⟩
    have : some i ∈ ds.map toO := by rw [h1]; exact List.mem_map_of_mem hi
    obtain ⟨d, _, q⟩ := List.mem_map.mp this
    exact toO_bd q
theorem kept_ok {d : PyData} {L : List Int} (h : keptD d = some L) : ok99 L ∧ L.length ≤ 3 ∧ L ≠ [] := by
  have := kept_okL h
  exact ⟨this.2.2, this.1, okL_ne this⟩
theorem cutV_to (xs : List V) (n : Nat) : cutV xs none (some (n : Int)) = xs.take n := by
  unfold cutV
  rw [HT.sIx_none, HT.sIx_nat, List.drop_zero, Nat.sub_zero]
  by_cases h : n ≤ xs.length
  · rw [Nat.min_eq_left h]
  · rw [Nat.min_eq_right (by omega), List.take_length, List.take_of_length_le (by omega)]
theorem okL_snoc {R : List Int} {z : Int} (h : ok99 R) (l : R.length ≤ 2) (h1 : 1 ≤ z) (h9 : z ≤ 99) : okL (R ++ [z]) := by
  refine ⟨by rw [List.length_append]; show R.length + 1 ≤ 3; omega, ?_, fun i hi => ?_⟩
  · rw [List.getLastD_eq_getLast?, List.getLast?_append]
    show z ≠ 0
    omega
  · rcases List.mem_append.mp hi with e | e
    · exact h i e
    · rw [List.mem_singleton.mp e]; omega
theorem okL_split {L : List Int} (h : okL L) : ∃ R z, L = R ++ [z] ∧ ok99 R ∧ R.length ≤ 2 ∧ 1 ≤ z ∧ z ≤ 99 := by
  have hne := okL_ne h
  obtain ⟨R, z, rfl⟩ : ∃ R z, L = R ++ [z] := ⟨_, _, (List.dropLast_concat_getLast hne).symm⟩
  have hz := h.2.2 z (by simp)
  have hz0 : z ≠ 0 := by
    have := h.2.1
    rw [List.getLastD_eq_getLast?, List.getLast?_append] at this
    exact this
  have hl := h.1
  rw [List.length_append] at hl
  exact ⟨R, z, rfl, fun i hi => h.2.2 i (List.mem_append_left _ hi), by have : R.length + 1 ≤ 3 := hl; omega, by omega, hz.2⟩
theorem src_lst {H : Hp} {a : Addr} (s : Src H a) : ∃ xs, H a = some (.lst xs) := by
  obtain ⟨g, x, c, e⟩ := s
  exact ⟨_, e⟩
theorem sqT_src {K : PySem.W.Frag} {H H' : Hp} {a p : Addr} {ys : List V} (s : Src H a) (b : But a H H') (h : SqT K H p ys) : SqT K H' p ys := by
  obtain ⟨xs, e⟩ := src_lst s
  exact seqT_but e b h
theorem dpN_src {K : PySem.W.Frag} {H H' : Hp} {a : Addr} {v : V} {d : PyData} (s : Src H a) (b : But a H H') (h : Dp K H v d) (n : ∃ n, Nl n d) : Dp K H' v d := by
  obtain ⟨xs, e⟩ := src_lst s
  exact dp_butN e b h n
theorem nl_L (L : List Int) : ∃ n, Nl n (dL L) := ⟨1, fun d hd => by
  obtain ⟨i, _, rfl⟩ := List.mem_map.mp hd
  trivial⟩
theorem nl_O (o : Option (List Int)) : ∃ n, Nl n (oD dL o) := by
  cases o with
  | none => exact ⟨0, trivial⟩
  | some L => exact nl_L L
theorem srcN {H : Hp} {a p : Addr} (s : Src H a) (n : H p = none) (o : HO) : Src (upd H p o) a := s.put (s.ne n) o
theorem sIx_m1 (n : Nat) : HT.sIx n n (some (-1)) = n - 1 := by
  show ((-1 : Int) + (n : Int)).toNat = n - 1
  omega
theorem cut_last (xs : List V) : cutV xs none (some (-1)) = xs.dropLast := by
  unfold cutV
  rw [sIx_m1, HT.sIx_none, List.drop_zero, Nat.sub_zero, List.dropLast_eq_take]
/-! ### refused things: short, without lists -/
theorem cat_go {K : PySem.W.Frag} {H : Hp} {Q : VK} {a b : Addr} {xs ys : List V} (ha : SqT K H a xs) (hb : SqT K H b ys) (hl : xs.length + ys.length ≤ 1000) (h : ∀ c H', Same H H' → SqT K H' c (xs ++ ys) → Q (.ref c) H') : rCatA K (.ref a) (.ref b) H Q :=
  ⟨a, b, xs, ys, rfl, rfl, ha, hb, Nat.le_of_lt (small1000 hl), fun e => h b H (Same.refl H) (by rw [e]; exact hb), fun _ e => h a H (Same.refl H) (by rw [e, List.append_nil]; exact ha), fun _ _ p np => h p _ (same_upd np) (.inl (.inl upd_same))⟩
theorem cut_whole {xs : List V} {lo hi : Option Int} (h : HT.sIx xs.length 0 lo = 0 ∧ HT.sIx xs.length xs.length hi = xs.length) : cutV xs lo hi = xs := by
  unfold cutV
  rw [h.1, h.2, List.drop_zero, Nat.sub_zero, List.take_length]
theorem sl_go {K : PySem.W.Frag} {H : Hp} {Q : VK} {a : Addr} {xs : List V} {lo hi : Option Int} (ha : SqT K H a xs) (h : ∀ c H', Same H H' → SqT K H' c (cutV xs lo hi) → Q (.ref c) H') : rSlA K (.ref a) lo hi H Q :=
  ⟨a, xs, rfl, ha, fun e => h a H (Same.refl H) (by rw [cut_whole e]; exact ha), fun _ p np => h p _ (same_upd np) (.inl (.inl upd_same))⟩
theorem cutV_from (xs : List V) (k : Nat) : cutV xs (some (k : Int)) none = xs.drop k := by
  unfold cutV
  rw [HT.sIx_nat]
  have e : HT.sIx xs.length xs.length none = xs.length := HT.sIx_none ..
  rw [e]
  by_cases h : k ≤ xs.length
  · rw [Nat.min_eq_left h, List.take_of_length_le]
    rw [List.length_drop]
    omega
  · rw [Nat.min_eq_right (by omega), Nat.sub_self, List.take_zero, List.drop_eq_nil_of_le (by omega)]
theorem dpAll_app {K : PySem.W.Frag} {H : Hp} : ∀ {vs ws : List V} {ds es : List PyData}, DpAll K H vs ds → DpAll K H ws es → DpAll K H (vs ++ ws) (ds ++ es)
  | _, _, _, _, .nil, h => h
  | _, _, _, _, .cons k r, h => .cons k (dpAll_app r h)
/-! ### own errors: made with nothing, asked for their classes -/
section
variable {X : Cx} {C : Addr} {bmB : List Value} {B newId initId : String}
/-- X() -/
theorem pmk_own0 {x : Str} {p pos : Pos} (F : ExcBaseFacts B newId initId bmB) (q : PySem.W.excIn X.K C bmB newId = true) (gC : X.mg x = some (.ref C)) (kC : PySem.W.keepIn X.K (.ref C) = true) (r : Raises X (.ref C)) (hg : Gl X x)
    (hdb : (x == ("__debug__" : Str)) = false := by decide) : PMk X (.Call (.Name x p) [] [] pos) (fun _ H Q => Q (.ref C) none H) := by
  intro pins s σ H Q I h
  refine wpAny_Call_Name_kw (ld_glob I hg gC ?_ hdb)
  refine PySem.W.callWith_K0 I.kIn kC ?_
  obtain ⟨bm, N, nm, qn, bs, hdct, sn, sub, ab, col, dd, k0, k1, k2, k3, k5, mN, hC, hN, hni, T⟩ := exc_obj I.kIn q
  obtain ⟨hp, g, dr, tk, os⟩ := s
  refine wpAny_call_exc_subT F T hC hN hni ?_ (by decide)
  exact fun h' e hm => mk_of I hm r h (I.hok.gone hm.new)
end
/-- isinstance(e, c), e the error that the suite holds, with a dict of its own or without -/
def rIsX (K : PySem.W.Frag) (cls : Value) (a : Addr) (d : Option Addr) : List V → Hp → VK → Prop := fun xs H Q => ∃ (D : Addr) (c : V) (cv : Value) (b : Bool), xs = [.ref a, c] ∧ cls = .ref D ∧ ExcC K D ∧ (∀ u, RelV c u → u = cv) ∧
  (d = Option.none ∨ ∃ dd fs, d = some dd ∧ H dd = some (.xd fs)) ∧ PySem.W.kitOne K (.ref D) cv = some b ∧ Q (.bl b) H
theorem call_isX {X : Cx} {a : Addr} {cls : Value} {d : Option Addr} {oe : Obj} {pn : List (Addr × Obj)} (hz : Zc cls d oe) (hf : ∃ vs, oe.data = .fields vs) : CallR (X.suite a ((a, oe) :: pn)) (.builtin "isinstance") (rIsX X.K cls a d) := by
  intro pins s σ H xs us Q I r h
  obtain ⟨D, c, cv, b, rfl, rfl, C, hcv, hd, e, q⟩ := h
  obtain ⟨u1, u2, rfl, r1, r2⟩ := vals2 r
  obtain rfl : u1 = Value.ref a := r1
  obtain rfl := hcv _ r2
  obtain ⟨at_, _⟩ := I.pin (a, oe) (List.mem_append_left _ List.mem_cons_self)
  obtain ⟨vs, hv⟩ := hf
  have fin : ∀ {od : Option Obj}, PySem.W.InstAt s.heap a oe D od → wpAny (model X.prog X.w) (X.suite a ((a, oe) :: pn)).A (call (.builtin "isinstance") [.ref a, u2]) (EP (X.suite a ((a, oe) :: pn)) pins σ Q) (X.suite a ((a, oe) :: pn)).xe s := fun J =>
    PySem.W.kia_one (PySem.W.kitx_exc (PySem.W.any_some C.hd |>.elim fun _ z => by rw [z.1]; rfl) C.hg C.hk C.hs C.ha C.hn C.ht C.hm) I.kIn J e (fun z => nomatch z) fun tk => ⟨.bl b, H, I.kept (t' := tk) (fun _ _ z => z), rfl, q⟩
  have nc : PySem.W.notCls oe = true := by
    unfold PySem.W.notCls
    rw [hv] <;> rfl
  rcases hd with rfl | ⟨dd, fs, rfl, hdd⟩
  · exact fin (od := Option.none) ⟨at_, hz.1, nc, by rw [hz.2]; trivial⟩
  · obtain ⟨mA, hns, _⟩ := I.hok dd _ hdd
    obtain ⟨od, ho, _⟩ := lookIn_ns hns
    exact fin (od := some od) ⟨at_, hz.1, nc, by rw [hz.2]; exact ho⟩
theorem kit_ref {K : PySem.W.Frag} {D C : Addr} {b : Bool} (h1 : PySem.W.isClsIn K C = true) (h2 : PySem.W.typeIn K (.ref C) = some (.type "type")) (h3 : PySem.W.subIn K (.ref D) (.ref C) = some b) (h4 : D = C → b = true) : PySem.W.kitOne K (.ref D) (.ref C) = some b := by
  unfold PySem.W.kitOne
  by_cases q : (Value.ref D == Value.ref C) = true
  · rw [if_pos q, h4 (Value.ref.inj (beq_iff_eq.mp q))]
  · rw [if_neg q]
    unfold PySem.W.kitCls
    have h1' : (PySem.W.clsIn K C).isSome = true := h1
    simp only [h1', h2, beq_self_eq_true, Bool.and_self, if_true]
    exact h3
theorem kit_rty {K : PySem.W.Frag} {D : Addr} {T : String} {b : Bool} (h3 : PySem.W.subIn K (.ref D) (.type T) = some b) (h : PySem.W.kitMeta T = true) : PySem.W.kitOne K (.ref D) (.type T) = some b := by
  unfold PySem.W.kitOne
  rw [if_neg (by simp)]
  unfold PySem.W.kitCls
  simp only [h, if_true]
  exact h3
theorem relRef {a : Addr} : ∀ u : Value, RelV (.ref a) u → u = .ref a := fun _ h => h
theorem relTy {s : String} : ∀ u : Value, RelV (.ty s) u → u = .type s := fun _ h => h
/-- what isinstance must know of the class -/
theorem excC_of {K : PySem.W.Frag} {D : Addr} (h1 : PySem.W.findIn K (.ref D) "__getattribute__" = some (some (.builtin "BaseException.__getattribute__"))) (h2 : PySem.W.findIn K (.ref D) "__getattr__" = some none) (h3 : PySem.W.subIn K (.ref D) (.type "BaseException") = some true)
    (h4 : PySem.W.hasDictIn K D = true) (h5 : PySem.W.findIn K (.ref D) "__class__" = some (some (.builtin "object.__class__"))) (h6 : PySem.W.specialIn K (.builtin "object.__class__") "__get__" = some (some (.builtin "getset_descriptor.__get__"))) (h7 : PySem.W.takesIn K (.builtin "object.__class__") = some true)
    (h8 : PySem.W.mroIn K D (.type "object") = some true) : ExcC K D := ⟨h1, h2, h3, h4, h5, h6, h7, h8⟩
/-! ### xs[::-1], xs a list -/
section
variable {X : Cx} {e st : Expr} {te : TE} {tq : TO} {p2 pos : Pos}
def tRevL (K : PySem.W.Frag) (te : TE) (tq : TO) : TE := fun σ H Q => te σ H fun x H1 => tq σ H1 fun k H2 => ∃ a xs, k = some (-1) ∧ x = .ref a ∧ SqL K H2 a xs ∧ ∀ p, H2 p = none → Q (.ref p) (upd H2 p (.lst xs.reverse))
theorem pe_revL (he : PE X e te) (hk : PO X (some st) tq) : PE X (.Subscript e (.Slice none none (some st) p2) pos) (tRevL X.K te tq) := by
  constructor
  intro pins s σ H Q I h
  refine Subscript_ (thn (he.run pins s σ H _ I h) ?_)
  rintro v s1 ⟨x, H1, I1, r1, q1⟩
  refine wpAny_Slice ?_
  rw [evalPart_none]
  refine wpAny_pure ?_
  refine wpAny_pure (thn (hk.run pins s1 σ H1 _ I1 q1) ?_)
  rintro vk s2 ⟨k, H2, I2, pk, a, xs, rfl, rfl, hx, q⟩
  cases r1
  have J : Inv X pins σ H2 { s2 with heap := s2.heap.push { cls := .type "slice", data := .fields #[.none, .none, vk] } } := I2.kept (t' := s2.toks) (fun b ob q => Heap.get?_push_of_some _ q)
  obtain ⟨its, r, isl, hz⟩ := J.list hx
  have hlen := r.length
  have step : wpAny (model X.prog X.w) X.A (getItem (.ref a) (.ref s2.heap.objs.size)) (EP X pins σ Q) X.xe { s2 with heap := s2.heap.push { cls := .type "slice", data := .fields #[.none, .none, vk] } } := by
    refine wpAny_getItem_list_slice isl.isList (Heap.IsSliceOf.new ..) .none .none pk (by decide) ?_ (by rw [List.size_toArray]; omega)
    have er : slicePick its.toArray none none (some (-1)) = its.reverse.toArray := PySem.W.krv_pick its.toArray
    rw [er]
    refine ⟨.ref (s2.heap.push { cls := .type "slice", data := .fields #[.none, .none, vk] }).objs.size, _, J.laid (t' := s2.toks) (o := .lst xs.reverse) (fun b ob q => Heap.get?_push_of_some _ q) (Nat.le_refl _) ?_, rfl, q _ (J.hok.fresh (Nat.le_refl _))⟩
    exact ⟨by rw [List.length_reverse]; exact hz, _, 0, r.reverse, Heap.get?_push_size _ rfl⟩
  exact tail_any (ops := [.ref a, .ref s2.heap.objs.size]) isl.isList.typeIs slot_list_getitem.lookup step (by with_unfolding_all rfl)
end
theorem ix_listK {X : Cx} {K : PySem.W.Frag} (h : X.K = K) : IxR X (rIxL K) := h ▸ ix_list
theorem ix_tupK {X : Cx} {K : PySem.W.Frag} (h : X.K = K) : IxR X (rIxT K) := h ▸ ix_tup
/-! ### objects: == by an own __eq__, whatever stands at its right; objects made within a try -/
section
variable {X : Cx}
def rEqOwn (K : PySem.W.Frag) (C : Addr) (sp : Sp) : R2 := fun x y H Q => ∃ (a dx : Addr) (fs : List (Str × V)) (t : Value), x = .ref a ∧ H a = some (.ins C dx fs) ∧ TyX K H y t ∧ PySem.W.notFirst K C t = true ∧ sp [.ref a, y] H (fun v H' => (∃ b, v = .bl b) ∧ Q v H') E0
theorem op_eqOwn {C f : Addr} {fd : FuncData} {ps : List Str} {sp : Sp} {n : Nat} (F : FnOk X.prog X.w X.K X.mg X.base CX0 n f fd ps sp) (hs : PySem.W.findIn X.K (.ref C) "__eq__" = some (some (.ref f))) (hf : PySem.W.isFn X.K (.ref f) = true) (hb : Binds X.K fd ps []) (hr : Room n X.A) :
    OpR X (compareOp .Eq) (rEqOwn X.K C sp) := by
  intro pins s σ H x y v u Q I rx ry h
  obtain ⟨a, dx, fs, t, rfl, ha, ty, nf, hsp⟩ := h
  obtain rfl : v = Value.ref a := rx
  obtain ⟨mA, J, _⟩ := ins_get I.hok ha
  obtain ⟨od, J, _⟩ := J.look
  obtain ⟨m, hF⟩ := I.fr
  obtain ⟨Pk, Z, hP, _⟩ := kit_of I ry ty
  show wpAny (model X.prog X.w) X.A (richCompare .Eq (.ref a) u) (EP X pins σ Q) X.xe s
  refine PySem.W.cmp_K (op := .Eq) (tb := t) hr.units0 hF I.ok.mod.kin J (Z.ty (model X.prog X.w) s.heap I.kIn hP) nf hs hf ?_
  have run := run_fn (Q := fun v H' => (∃ b, v = .bl b) ∧ Q v H') (dvs := []) (us := [.ref a, u]) (vs := [V.ref a, y]) F hr hb .nil pass0 I (show Vals [V.ref a, y] [Value.ref a, u] from .cons rfl (.cons ry .nil)) (by rw [List.append_nil]; exact hsp)
  refine wpAny_mono run ?_ (fun _ _ z => z)
  rintro w s' ⟨z, H', I', rz, ⟨b, rfl⟩, q⟩
  cases rz
  exact ⟨.bl b, H', I', rfl, q⟩
end
section
variable {X : Cx} {CX : CXT} {k : Nat} {f C : Addr} {fd : FuncData} {ps : List Str} {sp : Sp} {dvs : List V} {ds : List Value} {E : L2.St → XK} {x : Str} {p pos : Pos} {e : Expr} {es : List Expr} {t : TA}
/-- C(e, ..) within a try -/
def tMakeS (C : Addr) (sp : Sp) (dvs : List V) (E : L2.St → XK) (t : TA) : TE := fun σ H Q => t σ H fun vs H1 => ∀ x dx, H1 x = Option.none → H1 dx = Option.none → dx ≠ x → sp (.ref x :: (vs ++ dvs)) (upd (upd H1 dx (.own x)) x (.ins C dx [])) (fun v H2 => v = .non ∧ Q (.ref x) H2) (E σ)
theorem pe_makeS (M : Mk X.K C f) (F : FnOk X.prog X.w X.K X.mg X.base CX k f fd ps sp) (hr : Room (k + 1) X.A) (hg : Gl X x) (hm : X.mg x = some (.ref C)) (hb : Binds X.K fd ps ds) (hd : Vals dvs ds) (hx : ∀ σ, PassesAt CX X σ (E σ)) (ha : PA X (e :: es) t)
    (hdb : (x == ("__debug__" : Str)) = false := by decide) (he : starEach (e :: es) X.env = (false, eval e X.env) :: starEach es X.env := by rfl) (hpl : (backTo pos (starEach es X.env)).any (·.1) = false := by rfl) :
    PE X (.Call (.Name x p) (e :: es) [] pos) (tMakeS C sp dvs E t) := by
  constructor
  intro pins s σ H Q I h
  refine wpAny_Call_Name_kw (ld_glob I hg hm ?_ hdb)
  refine PySem.W.callWith_K (h₀ := X.base) I.ok.mod.kin M.kp ?_ he hpl
  refine thn (ha.run pos pins s σ H _ I h) ?_
  rintro us s1 ⟨vs, H1, I1, r, q⟩
  refine ⟨I1.kIn, ?_⟩
  have new := q (s1.heap.objs.size + 1) s1.heap.objs.size (I1.hok.fresh (Nat.le_succ _)) (I1.hok.fresh (Nat.le_refl _)) (Nat.ne_of_lt (Nat.lt_succ_self _))
  have J := Inv.made (C := C) I1
  have rel : Vals (V.ref (s1.heap.objs.size + 1) :: (vs ++ dvs)) (Value.ref (s1.heap.objs.size + 1) :: (us ++ ds)) := .cons rfl (r.append hd)
  have size : (Value.ref (s1.heap.objs.size + 1) :: us ++ ds).length = ps.length := rel.length.symm.trans (F.len _ _ _ _ new)
  refine wpAny_call (make_map (f := f) (kw := []) I1.kIn M.makes M.init (beq_iff_eq.mp M.fn) ?_)
  refine codeAny_mono (F.run _ X.stack _ _ ⟨Value.ref (s1.heap.objs.size + 1) :: us, []⟩ (Value.ref (s1.heap.objs.size + 1) :: (us ++ ds)) _ _ (E σ) (hr.make C us []) (J.env0.make C us []) (hb _ (Value.ref (s1.heap.objs.size + 1) :: us) J.kIn size) rel new) ?_
  rintro (er | fl) s2 h2
  · exact hx σ pins _ _ er s2 J h2
  · rcases fl with _ | _ | _ | u
    · exact h2.elim
    · exact h2.elim
    · exact h2.elim
    · obtain ⟨v, H', I3, rv, ev, q3⟩ := J.after h2
      subst ev
      exact ⟨rv, ⟨V.ref (s1.heap.objs.size + 1), H', I3, rfl, q3⟩⟩
end
/-! ### own methods that the language calls: len(o), x in o, o[i] -/
section
variable {X : Cx} {C f : Addr} {fd : FuncData} {ps : List Str} {sp : Sp} {n : Nat} {CX : CXT} {E : XK}
theorem env0_in1 {P : Program} {w : World} {K : PySem.W.Frag} {mg : Str → Option Value} {base : Heap} {A : Around} {outer : List Env} {s : Shared} {H : Hp} (e : Env0 P w K mg base A outer s H) : Env0 P w K mg base A.in1 outer s H :=
  ⟨e.frames, e.mod, e.bs, e.bsz, e.funs, e.frf, e.hok, e.bare⟩
theorem run_fn1 {pins : List (Addr × Obj)} {σ : L2.St} {H : Hp} {s : Shared} {Q : VK} {us : List Value} {vs : List V} (F : FnOk X.prog X.w X.K X.mg X.base CX n f fd ps sp) (hr : Room (n + 1) X.A) (hb : Binds X.K fd ps []) (hx : Passes CX X E)
    (I : Inv X pins σ H s) (r : Vals vs us) (h : sp vs H Q E) : wpAny (model X.prog X.w) X.A.in1 (call (.ref f) us) (EP X pins σ Q) X.xe s := by
  have hl : us.length = ps.length := by rw [← r.length]; exact F.len _ _ _ _ h
  have b := hb s us I.kIn (by rw [List.append_nil]; exact hl)
  rw [List.append_nil] at b
  refine wpAny_call (codeAny_mono (F.run X.A.in1 X.stack s H ⟨us, []⟩ us vs Q E hr.in1 (env0_in1 I.env0) b r h) fun r s' hq => ?_)
  cases r with
  | error e => exact hx pins σ H s e s' I hq
  | ok fl =>
    cases fl with
    | ret u => exact I.after hq
    | next => exact False.elim hq
    | brk => exact False.elim hq
    | cont => exact False.elim hq
def rLenOwn (C : Addr) (sp : Sp) (E : XK) : List V → Hp → VK → Prop := fun xs H Q => ∃ (a dx : Addr) (fs : List (Str × V)), xs = [.ref a] ∧ H a = some (.ins C dx fs) ∧ sp [.ref a] H (fun v H' => ∃ i : Int, v = .int i ∧ 0 ≤ i ∧ i < 2 ^ 63 ∧ Q (.int i) H') E
theorem call_lenOwn (F : FnOk X.prog X.w X.K X.mg X.base CX n f fd ps sp) (hs : PySem.W.findIn X.K (.ref C) "__len__" = some (some (.ref f))) (hf : PySem.W.isFn X.K (.ref f) = true) (hb : Binds X.K fd ps []) (hr : Room (n + 1) X.A) (hx : Passes CX X E) : CallR X (.builtin "len") (rLenOwn C sp E) := by
  intro pins s σ H xs us Q I r h
  obtain ⟨a, dx, fs, rfl, ha, hsp⟩ := h
  obtain ⟨u, rfl, ru⟩ := vals1 r
  obtain rfl : u = Value.ref a := ru
  obtain ⟨mA, J, _⟩ := ins_get I.hok ha
  obtain ⟨od, J, _⟩ := J.look
  obtain ⟨m, hF⟩ := I.fr
  refine PySem.W.len_K hF I.ok.mod.kin J hs hf (wpAny_mono (run_fn1 (vs := [V.ref a]) F hr hb hx I (.cons rfl .nil) hsp) ?_ (fun _ _ z => z))
  rintro w s' ⟨z, H', I', rz, i, rfl, i0, i1, q⟩
  obtain ⟨t, rfl⟩ := rz
  exact ⟨⟨i0, i1⟩, .int i, H', I'.tok _, ⟨_, rfl⟩, q⟩
def rInOwn (C : Addr) (sp : Sp) (E : XK) (neg : Bool) : R2 := fun x y H Q => ∃ (a dx : Addr) (fs : List (Str × V)), y = .ref a ∧ H a = some (.ins C dx fs) ∧ sp [.ref a, x] H (fun v H' => ∃ b : Bool, v = .bl b ∧ Q (.bl (b != neg)) H') E
theorem op_inOwn (F : FnOk X.prog X.w X.K X.mg X.base CX n f fd ps sp) (hs : PySem.W.findIn X.K (.ref C) "__contains__" = some (some (.ref f))) (hf : PySem.W.isFn X.K (.ref f) = true) (hb : Binds X.K fd ps []) (hr : Room n X.A) (hx : Passes CX X E) : OpR X (compareOp .In) (rInOwn C sp E false) := by
  intro pins s σ H x y v u Q I rx ry h
  obtain ⟨a, dx, fs, rfl, ha, hsp⟩ := h
  obtain rfl : u = Value.ref a := ry
  obtain ⟨mA, J, _⟩ := ins_get I.hok ha
  obtain ⟨od, J, _⟩ := J.look
  obtain ⟨m, hF⟩ := I.fr
  refine PySem.W.in_K hF I.ok.mod.kin J hs hf (wpAny_mono (run_fn (dvs := []) (us := [.ref a, v]) (vs := [V.ref a, x]) F hr hb .nil hx I (.cons rfl (.cons rx .nil)) (by rw [List.append_nil]; exact hsp)) ?_ (fun _ _ z => z))
  rintro w s' ⟨z, H', I', rz, b, rfl, q⟩
  cases rz
  exact wpAny_truthy_bool ⟨.bl b, H', I', rfl, by rw [Bool.bne_false] at q; exact q⟩
theorem op_notInOwn (F : FnOk X.prog X.w X.K X.mg X.base CX n f fd ps sp) (hs : PySem.W.findIn X.K (.ref C) "__contains__" = some (some (.ref f))) (hf : PySem.W.isFn X.K (.ref f) = true) (hb : Binds X.K fd ps []) (hr : Room n X.A) (hx : Passes CX X E) : OpR X (compareOp .NotIn) (rInOwn C sp E true) := by
  intro pins s σ H x y v u Q I rx ry h
  obtain ⟨a, dx, fs, rfl, ha, hsp⟩ := h
  obtain rfl : u = Value.ref a := ry
  obtain ⟨mA, J, _⟩ := ins_get I.hok ha
  obtain ⟨od, J, _⟩ := J.look
  obtain ⟨m, hF⟩ := I.fr
  refine PySem.W.notIn_K hF I.ok.mod.kin J hs hf (wpAny_mono (run_fn (dvs := []) (us := [.ref a, v]) (vs := [V.ref a, x]) F hr hb .nil hx I (.cons rfl (.cons rx .nil)) (by rw [List.append_nil]; exact hsp)) ?_ (fun _ _ z => z))
  rintro w s' ⟨z, H', I', rz, b, rfl, q⟩
  cases rz
  exact wpAny_truthy_bool ⟨.bl (!b), H', I', rfl, by rw [Bool.bne_true] at q; exact q⟩
def rIxOwn (C : Addr) (sp : Sp) (E : XK) : R2 := fun x y H Q => ∃ (a dx : Addr) (fs : List (Str × V)), x = .ref a ∧ H a = some (.ins C dx fs) ∧ sp [.ref a, y] H Q E
theorem pe_ixOwn {a b : Expr} {ta tb : TE} {pos : Pos} (F : FnOk X.prog X.w X.K X.mg X.base CX n f fd ps sp) (hs : PySem.W.findIn X.K (.ref C) "__getitem__" = some (some (.ref f))) (hi : PySem.W.fnIn X.K f = true) (hf : PySem.W.isFn X.K (.ref f) = true) (hb : Binds X.K fd ps []) (hr : Room (n + 1) X.A) (hx : Passes CX X E)
    (pa : PE X a ta) (pb : PE X b tb) (hsl : ∀ (x : Addr) (i : Value), subscripted b true (.ref x) i = runValue (.builtin "lifetime.subscript" ⟨[.ref x, i], []⟩) := by intros; rfl) : PE X (.Subscript a b pos) (tOp (rIxOwn C sp E) ta tb) := by
  refine ⟨fun pins s σ H Q I h => ?_⟩
  refine Subscript_ (binT pa pb I h fun v u s2 x y H2 I2 rx ry q => ?_)
  obtain ⟨p, dx, fs, rfl, ha, hsp⟩ := q
  obtain rfl : v = Value.ref p := rx
  obtain ⟨mA, J, _⟩ := ins_get I2.hok ha
  obtain ⟨od, J, _⟩ := J.look
  obtain ⟨m, hF⟩ := I2.fr
  exact PySem.W.sub_K hF I2.ok.mod.kin J hs hi hf (run_fn1 (us := [.ref p, u]) (vs := [V.ref p, y]) F hr hb hx I2 (.cons rfl (.cons ry .nil)) hsp) (hsl _ _)
end
/-! ### sorted of a list of tuples of ints, of any lengths -/
section
variable {prog : Program} {w : World} {A : Around} {s : Shared}
def IsIT (h : Heap) (v : Value) (ns : List Int) : Prop := ∃ (a : Addr) (o : Obj) (its : Array Value) (n : Nat), v = .ref a ∧ h.get? a = some o ∧ o.cls = .type "tuple" ∧ o.data = .seq its n ∧ IntsAre its.toList ns
theorem IsIT.keeps {h h' : Heap} {v : Value} {ns : List Int} (x : IsIT h v ns) (k : ∀ b o, h.get? b = some o → o.cls = .type "tuple" → h'.get? b = some o) : IsIT h' v ns := by
  obtain ⟨a, o, its, n, e, ho, hc, r⟩ := x
  exact ⟨a, o, its, n, e, k a o ho hc, hc, r⟩
theorem ints_length {us : List Value} {ns : List Int} (h : IntsAre us ns) : us.length = ns.length := by
  have := (vals_of_ints h).length
  rw [List.length_map] at this
  exact this.symm
theorem kat_ints {Q : Bool → Shared → Prop} : ∀ (xs ys : List Value) (ns ms : List Int) (i : Nat), IntsAre xs ns → IntsAre ys ms → Q (HT.lexLt ns ms) s → PySem.W.KatLex prog w A true (decide (ns.length < ms.length)) Q (xs.zip ys) i s
  | [], ys, ns, ms, i, h1, h2, q => by
    cases h1
    · cases ms with
      | nil => exact PySem.W.kat_nil q
      | cons m ms => exact PySem.W.kat_nil q
  | x :: xs, [], ns, ms, i, h1, h2, q => by
    cases h2
    · cases ns with
      | nil => cases h1
      | cons n ns =>
        rw [HT.lexLt_cons_nil] at q
        exact PySem.W.kat_nil q
  | x :: xs, y :: ys, ns, ms, i, h1, h2, q => by
    cases ns with
    | nil => cases h1
    | cons n ns =>
    cases ms with
    | nil => cases h2
    | cons m ms =>
    cases h1 with
    | cons _ t h1 =>
    cases h2 with
    | cons _ u h2 =>
    rw [HT.lexLt_cons] at q
    have z : decide ((n :: ns).length < (m :: ms).length) = decide (ns.length < ms.length) := by simp
    rw [z]
    show PySem.W.KatLex prog w A true (decide (ns.length < ms.length)) Q ((.int n t, .int m u) :: xs.zip ys) i s
    refine PySem.W.kat_cons (SeqAt.EqAt.int_int n t m u prog w _ _ ?_)
    refine PySem.W.kat_go (fun e1 => ?_) (fun e1 => ?_)
    · have e : n = m := by simpa using e1
      rw [if_pos e] at q
      exact PySem.W.kat_yes (kat_ints xs ys ns ms (i + 1) h1 h2 q)
    · have e : ¬ n = m := by simpa using e1
      rw [if_neg e] at q
      refine PySem.W.kat_no ?_
      cases i with
      | zero => exact TS.oneLt_ints true q
      | succ i => exact PySem.W.kat_one _ _ (PyProof.Rows.lt_int q)
theorem it_cmp {vs : List Value} {k : Value → List Int} (hp : ∀ v ∈ vs, IsIT s.heap v (k v)) : SrtO.Cmp prog w A s (tuples' true) (fun p => p.1 ∈ vs) (SrtO.lt2 fun v u => HT.lexLt (k v) (k u)) := by
  intro p q hm hm'
  obtain ⟨a, o, its, n, e, ho, hc, hd, hi⟩ := hp _ hm
  obtain ⟨a', o', its', n', e', ho', hc', hd', hi'⟩ := hp _ hm'
  show wpAny (model prog w) A (keyLt' (tuples' true) p.1 q.1) (fun r s' => s' = s ∧ r = HT.lexLt (k p.1) (k q.1)) (fun _ _ => False) s
  rw [e, e']
  rw [e] at hi
  rw [e'] at hi'
  refine PySem.W.kat_lt ho hd ho' hd' ?_
  have l1 : its.size = (k (.ref a)).length := by rw [← Array.length_toList]; exact ints_length hi
  have l2 : its'.size = (k (.ref a')).length := by rw [← Array.length_toList]; exact ints_length hi'
  rw [l1, l2]
  exact kat_ints _ _ _ _ 0 hi hi' ⟨rfl, rfl⟩
theorem it_firsts {h : Heap} : ∀ {vs : List Value} {k : Value → List Int}, (∀ v ∈ vs, IsIT h v (k v) ∧ k v ≠ []) → ∃ fs, PySem.W.KatTups h vs fs ∧ fs.length = vs.length ∧ ∀ f ∈ fs, ∃ x t, f = .int x t
  | [], _, _ => ⟨[], trivial, rfl, fun _ h => nomatch h⟩
  | v :: vs, k, hp => by
    obtain ⟨fs, t, l, r⟩ := it_firsts (vs := vs) (k := k) fun u hu => hp u (List.mem_cons_of_mem _ hu)
    obtain ⟨⟨a, o, its, n, rfl, ho, hc, hd, hi⟩, ne⟩ := hp v (List.mem_cons_self ..)
    cases ek : k (.ref a) with
    | nil => exact absurd ek ne
    | cons m ms =>
      rw [ek] at hi
      cases ei : its.toList with
      | nil => rw [ei] at hi; cases hi
      | cons x xs =>
        rw [ei] at hi
        cases hi with
        | cons _ t' hi =>
        have h0 : its[0]? = some (.int m t') := by rw [← Array.getElem?_toList, ei]; rfl
        refine ⟨.int m t' :: fs, PySem.W.KatTups.cons ho hc hd h0 t, by simp [l], fun f hf => ?_⟩
        rcases List.mem_cons.mp hf with e | hf
        · exact ⟨m, t', e⟩
        · exact r f hf
theorem it_sortable {a : Addr} {vs : List Value} {k : Value → List Int} (h0 : 0 < vs.length) (hp : ∀ v ∈ vs, IsIT s.heap v (k v) ∧ k v ≠ []) (ha : ∀ o, s.heap.get? a = some o → o.cls ≠ .type "tuple") : SrtO.SortableO prog w A s a vs fun v u => HT.lexLt (k v) (k u) := by
  intro h' keep
  have hp' : ∀ v ∈ vs, IsIT h' v (k v) ∧ k v ≠ [] := fun v hm => ⟨(hp v hm).1.keeps fun b o e c => keep b o (fun z => by subst z; exact ha o e c) e, (hp v hm).2⟩
  obtain ⟨fs, h1, h2, h3⟩ := it_firsts hp'
  refine ⟨tuples' true, fun Q E hq => ?_, it_cmp fun v hm => (hp' v hm).1⟩
  refine PySem.W.kat_kind (T := .type "int") h1 (by omega) (fun f hm => ?_) (by rfl) ?_
  · obtain ⟨x, t, rfl⟩ := h3 f hm
    exact PySem.W.Looks.now
  · have e : (Value.type "int" != Value.type "tuple") = true := by first | decide +kernel | rfl | decide
    rw [e]
    exact hq
end
section
variable {X : Cx}
def rSortedT3 (K : PySem.W.Frag) : List V → Hp → VK → Prop := fun vs H Q => ∃ (a : Addr) (xs : List V) (k : V → List Int), vs = [V.ref a] ∧ SqL K H a xs ∧ (∀ x ∈ xs, ∃ t, x = V.ref t ∧ SqT K H t ((k x).map V.int) ∧ k x ≠ []) ∧
  ∀ ys p, SrtO.Srtd (fun v u => HT.lexLt (k v) (k u)) ys → ys.Perm xs → H p = none → Q (.ref p) (upd H p (.lst ys))
theorem cr_sortedT3 : CallR X (.builtin "sorted") (rSortedT3 X.K) := by
  intro pins s σ H vs us Q I r h
  obtain ⟨a, xs, k, rfl, hs, hx, q⟩ := h
  obtain ⟨its, rv, hl, hz⟩ := I.list hs
  obtain ⟨u, rfl, ru⟩ := vals1 r
  obtain rfl : u = Value.ref a := ru
  obtain ⟨e1, e2⟩ := refs_back rv fun x m => by
    obtain ⟨t, e, _⟩ := hx x m
    exact ⟨t, e⟩
  have hit : ∀ v ∈ its, IsIT s.heap v (k (backV v)) ∧ k (backV v) ≠ [] := fun v hv => by
    obtain ⟨t, rfl⟩ := e2 v hv
    have hm : V.ref t ∈ xs := by rw [e1]; exact List.mem_map.mpr ⟨_, hv, rfl⟩
    obtain ⟨t', e, ht, ne⟩ := hx _ hm
    cases e
    obtain ⟨its2, r2, ⟨o, ho, hc, n, hd⟩, _⟩ := I.tuple ht
    exact ⟨⟨t, o, _, n, rfl, ho, hc, hd, intsAre_of r2⟩, ne⟩
  refine SrtO.sorted_ord (NtL.swo_lexL fun u => k (backV u)) hl.isList (by rw [← rv.length]; exact hz) (fun h2 h₁ a' ha' kk => ?_) fun out h1 h2 => ?_
  · refine it_sortable (s := { s with heap := h₁ }) (by omega) (fun v hm => ⟨(hit v hm).1.keeps fun b o e _ => (kk b o e).2, (hit v hm).2⟩) fun o e => ?_
    have e' : some o = some (seqObj "list" its.toArray 0) := e.symm.trans ha'
    cases e'
    intro c
    exact absurd (Value.type.inj c) (by decide)
  · have h3 : ∀ u ∈ out, ∃ a, u = Value.ref a := fun u hu => e2 u (h2.perm.mem_iff.mp hu)
    have hp : (out.map backV).Perm xs := by rw [e1]; exact h2.perm.map _
    obtain ⟨n, hn⟩ := sortedAll_at s.heap its out.toArray
    refine ⟨.ref (s.heap.objs.size + 1), upd H (s.heap.objs.size + 1) (.lst (out.map backV)), I.laid (t' := s.toks) (fun b o e => sortedAll_old e) (Nat.le_succ _) ⟨?_, out, n, vals_back h3, hn⟩, rfl, q _ _ (SrtO.srtd_map h1) hp (I.hok.fresh (Nat.le_succ _))⟩
    rw [hp.length_eq]
    exact hz
theorem op_inDK {K : PySem.W.Frag} (h : X.K = K) (hu : X.A.units + 65 < cLine) : OpR X (compareOp .In) (rInD K) := h ▸ op_inD hu
theorem op_notInDK {K : PySem.W.Frag} (h : X.K = K) (hu : X.A.units + 65 < cLine) : OpR X (compareOp .NotIn) (rNotInD K) := h ▸ op_notInD hu
theorem call_list_ofK {K : PySem.W.Frag} (h : X.K = K) : CallR X (.type "list") (fun xs H Q => ∃ p ys, xs = [.ref p] ∧ (SqL K H p ys ∨ SqT K H p ys) ∧ ∀ l, H l = none → Q (.ref l) (upd H l (.lst ys))) := h ▸ call_list_of
end
/-! ### a list of labels, sorted -/
def toIv : V → Int
  | .int i => i
  | _ => 0
def labK (H : Hp) : V → List Int
  | .ref t => match H t with | some (.tup xs) => xs.map toIv | _ => []
  | _ => []
theorem labK_at {H : Hp} {t : Addr} {L : List Int} (h : H t = some (.tup (L.map V.int))) : labK H (.ref t) = L := by
  show (match H t with | some (.tup xs) => xs.map toIv | _ => []) = L
  rw [h]
  show (L.map V.int).map toIv = L
  rw [List.map_map]
  exact List.map_id _
theorem lexLt_total : ∀ a b : List Int, HT.lexLt a b = false → HT.lexLt b a = false → a = b
  | [], [], _, _ => rfl
  | [], y :: s, h, _ => by rw [HT.lexLt_nil_cons] at h; cases h
  | x :: r, [], _, h => by rw [HT.lexLt_nil_cons] at h; cases h
  | x :: r, y :: s, h1, h2 => by
    rw [HT.lexLt_cons] at h1 h2
    by_cases e : x = y
    · subst e
      rw [if_pos rfl] at h1 h2
      rw [lexLt_total r s h1 h2]
    · rw [if_neg e] at h1
      rw [if_neg (fun z => e z.symm)] at h2
      have := of_decide_eq_false h1
      have := of_decide_eq_false h2
      omega
/-! ### order of data that are alike, and x in a tuple of data -/
section
variable {X : Cx}
def rCmpD (K : PySem.W.Frag) (f : PyData → PyData → Bool) : R2 := fun x y H Q => ∃ d e, Dp K H x d ∧ Dp K H y e ∧ PySem.W.alike d e = true ∧ d ≠ .none ∧ d.depth ≤ 60 ∧ Q (.bl (f d e)) H
theorem op_ltD (hu : X.A.units + 65 < cLine) : OpR X (compareOp .Lt) (rCmpD X.K fun d e => PySem.W.dataLt d e) := by
  intro pins s σ H x y v u Q I rx ry h
  obtain ⟨d, e, hd, he, al, nn, dep, q⟩ := h
  obtain ⟨as, r1⟩ := Dp.reads I d x v hd rx
  obtain ⟨bs, r2⟩ := Dp.reads I e y u he ry
  exact PySem.W.lt_data r1 r2 al nn (by omega) ⟨.bl _, H, I, rfl, q⟩
theorem op_leD (hu : X.A.units + 65 < cLine) : OpR X (compareOp .LtE) (rCmpD X.K fun d e => !PySem.W.dataLt e d) := by
  intro pins s σ H x y v u Q I rx ry h
  obtain ⟨d, e, hd, he, al, nn, dep, q⟩ := h
  obtain ⟨as, r1⟩ := Dp.reads I d x v hd rx
  obtain ⟨bs, r2⟩ := Dp.reads I e y u he ry
  exact PySem.W.le_data r1 r2 al nn (by omega) ⟨.bl _, H, I, rfl, q⟩
theorem op_gtD (hu : X.A.units + 65 < cLine) : OpR X (compareOp .Gt) (rCmpD X.K fun d e => PySem.W.dataLt e d) := by
  intro pins s σ H x y v u Q I rx ry h
  obtain ⟨d, e, hd, he, al, nn, dep, q⟩ := h
  obtain ⟨as, r1⟩ := Dp.reads I d x v hd rx
  obtain ⟨bs, r2⟩ := Dp.reads I e y u he ry
  exact PySem.W.gt_data r1 r2 al nn (by omega) ⟨.bl _, H, I, rfl, q⟩
theorem op_geD (hu : X.A.units + 65 < cLine) : OpR X (compareOp .GtE) (rCmpD X.K fun d e => !PySem.W.dataLt d e) := by
  intro pins s σ H x y v u Q I rx ry h
  obtain ⟨d, e, hd, he, al, nn, dep, q⟩ := h
  obtain ⟨as, r1⟩ := Dp.reads I d x v hd rx
  obtain ⟨bs, r2⟩ := Dp.reads I e y u he ry
  exact PySem.W.ge_data r1 r2 al nn (by omega) ⟨.bl _, H, I, rfl, q⟩
/-- x in c, c a list or a tuple of data -/
def rInDD (K : PySem.W.Frag) (neg : Bool) : R2 := fun x y H Q => ∃ d ds, Dp K H x d ∧ (Dp K H y (.list ds) ∨ Dp K H y (.tuple ds)) ∧ SeqAt.shaped d = true ∧ SeqAt.shaped (.list ds) = true ∧ Q (.bl (neg != ds.any fun z => PyData.eqv z d)) H
theorem op_inDD (hu : X.A.units + 65 < cLine) : OpR X (compareOp .In) (rInDD X.K false) := by
  intro pins s σ H x y v u Q I rx ry h
  obtain ⟨d, ds, hd, he, sd, se, q⟩ := h
  obtain ⟨as, r1⟩ := Dp.reads I d x v hd rx
  rw [Bool.false_bne] at q
  rcases he with he | he
  · obtain ⟨bs, r2⟩ := Dp.reads I (.list ds) y u he ry
    exact SeqAt.in_list_reads r2 r1 (SeqAt.canLay_of_shaped se) (SeqAt.canLay_of_shaped sd) (room_in_shaped sd hu) ⟨.bl _, H, I, rfl, q⟩
  · obtain ⟨bs, r2⟩ := Dp.reads I (.tuple ds) y u he ry
    exact SeqAt.in_tuple_reads r2 r1 (SeqAt.canLay_of_shaped se) (SeqAt.canLay_of_shaped sd) (room_in_shaped sd hu) ⟨.bl _, H, I, rfl, q⟩
theorem op_notInDD (hu : X.A.units + 65 < cLine) : OpR X (compareOp .NotIn) (rInDD X.K true) := by
  intro pins s σ H x y v u Q I rx ry h
  obtain ⟨d, ds, hd, he, sd, se, q⟩ := h
  obtain ⟨as, r1⟩ := Dp.reads I d x v hd rx
  rw [Bool.true_bne] at q
  rcases he with he | he
  · obtain ⟨bs, r2⟩ := Dp.reads I (.list ds) y u he ry
    exact SeqAt.notIn_list_reads r2 r1 (SeqAt.canLay_of_shaped se) (SeqAt.canLay_of_shaped sd) (room_in_shaped sd hu) ⟨.bl _, H, I, rfl, q⟩
  · obtain ⟨bs, r2⟩ := Dp.reads I (.tuple ds) y u he ry
    exact SeqAt.notIn_tuple_reads r2 r1 (SeqAt.canLay_of_shaped se) (SeqAt.canLay_of_shaped sd) (room_in_shaped sd hu) ⟨.bl _, H, I, rfl, q⟩
end
abbrev TO := PyProof.Rows.listOrd PyProof.Rows.itemOrd
theorem dlt_trans {a b c : PyData} (h1 : PySem.W.dataLt a b = true) (h2 : PySem.W.dataLt b c = true) : PySem.W.dataLt a c = true := TO.trans _ _ _ h1 h2
theorem dle_trans {a b c : PyData} (h1 : PySem.W.dataLt b a = false) (h2 : PySem.W.dataLt c b = false) : PySem.W.dataLt c a = false := by
  cases e : PySem.W.dataLt c a with
  | false => rfl
  | true =>
    rcases TO.negTrans _ (PySem.W.keyToks b) _ e with h | h
    · exact h.symm.trans h2
    · exact h.symm.trans h1
theorem dlt_irrefl (a : PyData) : PySem.W.dataLt a a = false := TO.irrefl _
/-- what the order of a label's signs says -/
theorem dlt_ints : ∀ L M : List Int, PyProof.Rows.lexLt PyProof.Rows.itemOrd (PySem.W.keyToksAll (L.map PyData.int)) (PySem.W.keyToksAll (M.map PyData.int)) = HT.lexLt L M
  | [], [] => by decide +kernel
  | [], y :: s => by
    show PyProof.Rows.lexLt PyProof.Rows.itemOrd (PySem.W.keyToksAll []) (PySem.W.keyToksAll (PyData.int y :: s.map PyData.int)) = true
    rw [PySem.W.toks_all_cons, PySem.W.keyToksAll, PySem.W.lex_atom (by simp), PySem.W.lex_one]
    decide +kernel
  | x :: r, [] => by
    show PyProof.Rows.lexLt PyProof.Rows.itemOrd (PySem.W.keyToksAll (PyData.int x :: r.map PyData.int)) (PySem.W.keyToksAll []) = false
    rw [PySem.W.toks_all_cons, PySem.W.keyToksAll, PySem.W.lex_atom (by simp), PySem.W.lex_one]
    decide +kernel
  | x :: r, y :: s => by
    show PyProof.Rows.lexLt PyProof.Rows.itemOrd (PySem.W.keyToksAll (PyData.int x :: r.map PyData.int)) (PySem.W.keyToksAll (PyData.int y :: s.map PyData.int)) = HT.lexLt (x :: r) (y :: s)
    rw [HT.lexLt_cons]
    have al : PySem.W.alike (.int x) (.int y) = true := rfl
    by_cases e : x = y
    · subst e
      rw [if_pos rfl, PySem.W.dataLt_all_yes al (by show (x == x) = true; exact beq_self_eq_true x)]
      exact dlt_ints r s
    · rw [if_neg e, PySem.W.dataLt_all_no al (by show (x == y) = false; exact beq_eq_false_iff_ne.mpr e), PySem.W.dataLt_int]
theorem dlt_L (L M : List Int) : PySem.W.dataLt (dL L) (dL M) = HT.lexLt L M := by
  unfold dL
  rw [PySem.W.dataLt_tuple, dlt_ints]
theorem alike_ints : ∀ L M : List Int, PySem.W.alikeAll (L.map PyData.int) (M.map PyData.int) = true
  | [], _ => by rw [List.map_nil, PySem.W.alikeAll]
  | _ :: _, [] => by rw [List.map_nil, List.map_cons, PySem.W.alikeAll]
  | _ :: r, _ :: s => by rw [List.map_cons, List.map_cons, PySem.W.alikeAll, alike_ints r s]; rfl
theorem alike_L (L M : List Int) : PySem.W.alike (dL L) (dL M) = true := by
  unfold dL
  rw [PySem.W.alike]
  exact alike_ints L M
theorem alike_P (p q : Pg) : PySem.W.alike (dP p) (dP q) = true := by
  unfold dP
  rw [PySem.W.alike, PySem.W.alikeAll, alike_L, PySem.W.alikeAll, PySem.W.alikeAll]
  rfl
theorem depthL (L : List Int) : (dL L).depth ≤ 1 := (lay_pn 1 _ (pn_L L)).2
theorem depthP (p : Pg) : (dP p).depth ≤ 2 := (lay_pn 2 _ (pn_P p)).2
theorem eqv_L (L M : List Int) : PyData.eqv (dL L) (dL M) = decide (L = M) := eqv_ints L M
theorem eqv_P (p q : Pg) : PyData.eqv (dP p) (dP q) = decide (p = q) := by
  show (PyData.eqv (dL p.1) (dL q.1) && ((p.2 == q.2) && true)) = _
  rw [eqv_L]
  by_cases h : p.1 = q.1
  · by_cases h2 : p.2 = q.2
    · have e : p = q := Prod.ext h h2
      subst e
      simp
    · have e : p ≠ q := fun z => h2 (by rw [z])
      simp [h, h2, e]
  · have e : p ≠ q := fun z => h (by rw [z])
    simp [h, e]
/-- pages in their order -/
def ltP (p q : Pg) : Bool := PySem.W.dataLt (dP p) (dP q)
def leP (p q : Pg) : Bool := !ltP q p
theorem leP_trans {p q r : Pg} (h1 : leP p q = true) (h2 : leP q r = true) : leP p r = true := by
  unfold leP ltP at *
  rw [Bool.not_eq_true'] at *
  exact dle_trans h1 h2
/-! ### the rules that speak of what is written, their fragment told (within a comprehension) -/
section
variable {X : Cx} {K : PySem.W.Frag}
theorem call_len_seqK (h : X.K = K) : CallR X (.builtin "len") (fun xs H Q => ∃ p ys, xs = [.ref p] ∧ (SqL K H p ys ∨ SqT K H p ys) ∧ Q (.int ys.length) H) := h ▸ call_len_seq
theorem cr_allK (h : X.K = K) (hc : X.calm = true) : CallR X (.builtin "all") (rAll K) := h ▸ cr_all hc
theorem cr_anyK (h : X.K = K) (hc : X.calm = true) : CallR X (.builtin "any") (rAny K) := h ▸ cr_any hc
theorem sl_listK (h : X.K = K) : SlR X (rSlL K) := h ▸ sl_list
theorem sl_tupAK (h : X.K = K) : SlR X (rSlA K) := h ▸ sl_tupA
theorem op_in_seqK (h : X.K = K) : OpR X (compareOp .In) (rIn K false) := h ▸ op_in_seq
theorem op_notIn_seqK (h : X.K = K) : OpR X (compareOp .NotIn) (rIn K true) := h ▸ op_notIn_seq
theorem op_eqDK (h : X.K = K) (hu : X.A.units + 64 < cLine) : OpR X (compareOp .Eq) (rEqD K) := h ▸ op_eqD hu
theorem op_neDK (h : X.K = K) (hu : X.A.units + 64 < cLine) : OpR X (compareOp .NotEq) (rNeD K) := h ▸ op_neD hu
theorem op_catAK (h : X.K = K) : OpR X (binaryOp .Add) (rCatA K) := h ▸ op_catA
theorem call_tuple_ofK (h : X.K = K) : CallR X (.type "tuple") (fun xs H Q => ∃ p ys, xs = [.ref p] ∧ ((SqL K H p ys ∧ ∀ l, H l = none → Q (.ref l) (upd H l (.tup ys))) ∨ (SqT K H p ys ∧ Q (.ref p) H))) := h ▸ call_tuple_of
theorem call_isiK' (h : X.K = K) : CallR X (.builtin "isinstance") (rIsi K) := h ▸ call_isi
theorem call_isiTK (h : X.K = K) : CallR X (.builtin "isinstance") (rIsiT K) := h ▸ call_isiT
theorem cr_sumK (h : X.K = K) (hc : X.calm = true) : CallR X (.builtin "sum") (rSum K) := h ▸ cr_sum hc
theorem cr_maxK (h : X.K = K) (hc : X.calm = true) : CallR X (.builtin "max") (rMax K) := h ▸ cr_max hc
theorem cr_minK (h : X.K = K) (hc : X.calm = true) : CallR X (.builtin "min") (rMin K) := h ▸ cr_min hc
theorem op_ltDK (h : X.K = K) (hu : X.A.units + 65 < cLine) : OpR X (compareOp .Lt) (rCmpD K fun d e => PySem.W.dataLt d e) := h ▸ op_ltD hu
theorem op_leDK (h : X.K = K) (hu : X.A.units + 65 < cLine) : OpR X (compareOp .LtE) (rCmpD K fun d e => !PySem.W.dataLt e d) := h ▸ op_leD hu
theorem op_gtDK (h : X.K = K) (hu : X.A.units + 65 < cLine) : OpR X (compareOp .Gt) (rCmpD K fun d e => PySem.W.dataLt e d) := h ▸ op_gtD hu
theorem op_geDK (h : X.K = K) (hu : X.A.units + 65 < cLine) : OpR X (compareOp .GtE) (rCmpD K fun d e => !PySem.W.dataLt d e) := h ▸ op_geD hu
theorem op_inDDK (h : X.K = K) (hu : X.A.units + 65 < cLine) : OpR X (compareOp .In) (rInDD K false) := h ▸ op_inDD hu
theorem op_notInDDK (h : X.K = K) (hu : X.A.units + 65 < cLine) : OpR X (compareOp .NotIn) (rInDD K true) := h ▸ op_notInDD hu
variable {tg l : Expr} {tl : TE}
theorem pi_listK (h : X.K = K) (hl : PE X l tl) : PI X tg l (iList K tl) := h ▸ pi_list hl
theorem pi_tupK (h : X.K = K) (hl : PE X l tl) : PI X tg l (iTup K tl) := h ▸ pi_tup hl
def tTru (K : PySem.W.Frag) (ta : TE) : TT := fun σ H Q => ta σ H fun x H' => ∃ k, TruV K x H' k ∧ Q k H'
theorem pt_truthK {a : Expr} {ta : TE} (h : X.K = K) (ha : PE X a ta) (he : ∀ whole, isTrue a X.env whole = (do let v ← whole; standAt a.pos; holding [v] (truthy v))) : L2.PT X a (tTru K ta) := h ▸ pt_truth ha he
theorem pe_fldK {e : Expr} {f : Str} {pos : Pos} {ta : TE} (h : X.K = K) (he : PE X e ta) (hb : attributeBase e f X.env (eval e X.env) = eval e X.env) : PE X (.Attribute e f pos) (tFld K ta f) := h ▸ pe_fld he hb
end
/-! ### what stays: all but lists; data of tracked tuples -/
def NL (H H' : Hp) : Prop := ∀ b o, H b = some o → (∀ ys, o ≠ .lst ys) → H' b = some o
theorem NL.refl (H : Hp) : NL H H := fun _ _ e _ => e
theorem NL.trans {H H1 H2 : Hp} (x : NL H H1) (y : NL H1 H2) : NL H H2 := fun b o e n => y b o (x b o e n) n
theorem NL.of {H H' : Hp} (x : Same H H') : NL H H' := fun b o e _ => x b o e
theorem NL.but {a : Addr} {H H' : Hp} {ys : List V} (x : But a H H') (h : H a = some (.lst ys)) : NL H H' := fun b o e n => x b o (fun z => by
  rw [z, h] at e
  exact n ys (Option.some.inj e).symm) e
theorem Src.nl {a : Addr} {H H' : Hp} (s : Src H a) (x : But a H H') : NL H H' := by
  obtain ⟨g, y, c, e⟩ := s
  exact NL.but x e
theorem NL.put {D : Addr} {H H' : Hp} {ys : List V} (x : NL H H') (h : H' D = some (.lst ys)) (o : HO) : NL H (upd H' D o) := fun b u e n => by
  have e' := x b u e n
  rw [upd_ne (fun z => by rw [z, h] at e'; exact n ys (Option.some.inj e').symm)]
  exact e'
theorem NL.new {D : Addr} {H H' : Hp} (x : NL H H') (h : H' D = none) (o : HO) : NL H (upd H' D o) := fun b u e n => by
  have e' := x b u e n
  rw [upd_ne (ne_of_none e' h)]
  exact e'
theorem NL.seqT {K : PySem.W.Frag} {H H' : Hp} {p : Addr} {xs : List V} (x : NL H H') (h : SqT K H p xs) : SqT K H' p xs :=
  h.elim (fun r => .inl (r.elim (fun e => .inl (x p _ e (fun _ z => nomatch z))) (fun ⟨o, e⟩ => .inr ⟨o, x p _ e (fun _ z => nomatch z)⟩))) .inr
mutual
inductive Tp (H : Hp) : V → PyData → Prop
  | non : Tp H .non .none
  | bl (b : Bool) : Tp H (.bl b) (.bool b)
  | int (i : Int) : Tp H (.int i) (.int i)
  | str (z : Str) : Tp H (.str z) (.str z)
  | tup {a : Addr} {vs : List V} {ds : List PyData} (h : H a = some (.tup vs)) (r : TpAll H vs ds) : Tp H (.ref a) (.tuple ds)
inductive TpAll (H : Hp) : List V → List PyData → Prop
  | nil : TpAll H [] []
  | cons {v : V} {vs : List V} {d : PyData} {ds : List PyData} (h : Tp H v d) (r : TpAll H vs ds) : TpAll H (v :: vs) (d :: ds)
end
mutual
theorem Tp.nl {H H' : Hp} (m : NL H H') : ∀ {v : V} {d : PyData}, Tp H v d → Tp H' v d
  | _, _, .non => .non
  | _, _, .bl b => .bl b
  | _, _, .int i => .int i
  | _, _, .str z => .str z
  | _, _, .tup h r => .tup (m _ _ h (fun _ z => nomatch z)) (TpAll.nl m r)
theorem TpAll.nl {H H' : Hp} (m : NL H H') : ∀ {vs : List V} {ds : List PyData}, TpAll H vs ds → TpAll H' vs ds
  | _, _, .nil => .nil
  | _, _, .cons h r => .cons (Tp.nl m h) (TpAll.nl m r)
end
mutual
theorem Tp.dp {K : PySem.W.Frag} {H : Hp} : ∀ {v : V} {d : PyData}, Tp H v d → Dp K H v d
  | _, _, .non => .non
  | _, _, .bl b => .bl b
  | _, _, .int i => .int i
  | _, _, .str z => .str z
  | _, _, .tup h r => .tup (.inl (.inl h)) (TpAll.dp r)
theorem TpAll.dp {K : PySem.W.Frag} {H : Hp} : ∀ {vs : List V} {ds : List PyData}, TpAll H vs ds → DpAll K H vs ds
  | _, _, .nil => .nil
  | _, _, .cons h r => .cons (Tp.dp h) (TpAll.dp r)
end
theorem TpAll.len {H : Hp} : ∀ {vs : List V} {ds : List PyData}, TpAll H vs ds → vs.length = ds.length
  | _, _, .nil => rfl
  | _, _, .cons _ r => congrArg (· + 1) (TpAll.len r)
theorem TpAll.snoc {H : Hp} : ∀ {vs : List V} {ds : List PyData} {v : V} {d : PyData}, TpAll H vs ds → Tp H v d → TpAll H (vs ++ [v]) (ds ++ [d])
  | _, _, _, _, .nil, h => .cons h .nil
  | _, _, _, _, .cons k r, h => .cons k (TpAll.snoc r h)
theorem TpAll.app {H : Hp} : ∀ {vs : List V} {ds : List PyData} {us : List V} {es : List PyData}, TpAll H vs ds → TpAll H us es → TpAll H (vs ++ us) (ds ++ es)
  | _, _, _, _, .nil, h => h
  | _, _, _, _, .cons k r, h => .cons k (TpAll.app r h)
theorem TpAll.get {H : Hp} : ∀ {vs : List V} {ds : List PyData} {i : Nat} {v : V}, TpAll H vs ds → vs[i]? = some v → ∃ d, ds[i]? = some d ∧ Tp H v d
  | _, _, _, _, .nil, e => nomatch e
  | _, _, 0, _, .cons h r, e => by
    injection e with e
    subst e
    exact ⟨_, rfl, h⟩
  | _, _, i + 1, _, .cons h r, e => by
    obtain ⟨d, e1, e2⟩ := TpAll.get (i := i) r e
    exact ⟨d, e1, e2⟩
theorem TpAll.get2 {H : Hp} {vs : List V} {ds : List PyData} {i : Nat} {d : PyData} (h : TpAll H vs ds) (e : ds[i]? = some d) : ∃ v, vs[i]? = some v ∧ Tp H v d := by
  have hi := (List.getElem?_eq_some_iff.mp e).1
  rw [← h.len] at hi
  have e1 := List.getElem?_eq_getElem hi
  obtain ⟨d', e2, e3⟩ := h.get e1
  rw [e] at e2
  injection e2 with e2
  subst e2
  exact ⟨_, e1, e3⟩
theorem TpAll.drop {H : Hp} : ∀ {vs : List V} {ds : List PyData} (n : Nat), TpAll H vs ds → TpAll H (vs.drop n) (ds.drop n)
  | _, _, 0, h => h
  | _, _, _ + 1, .nil => .nil
  | _, _, n + 1, .cons _ r => TpAll.drop n r
theorem TpAll.take {H : Hp} : ∀ {vs : List V} {ds : List PyData} (n : Nat), TpAll H vs ds → TpAll H (vs.take n) (ds.take n)
  | _, _, 0, _ => .nil
  | _, _, _ + 1, .nil => .nil
  | _, _, n + 1, .cons h r => .cons h (TpAll.take n r)
theorem TpAll.ints {H : Hp} : ∀ L : List Int, TpAll H (L.map V.int) (L.map PyData.int)
  | [] => .nil
  | i :: r => .cons (.int i) (TpAll.ints r)
theorem TpAll.strs {H : Hp} : ∀ L : List Str, TpAll H (L.map V.str) (L.map PyData.str)
  | [] => .nil
  | i :: r => .cons (.str i) (TpAll.strs r)
theorem TpAll.ints_inv {H : Hp} : ∀ {L : List Int} {vs : List V}, TpAll H vs (L.map PyData.int) → vs = L.map V.int
  | [], _, .nil => rfl
  | i :: r, _, .cons h a => by
    cases h
    rw [TpAll.ints_inv a]
    rfl
theorem TpAll.strs_inv {H : Hp} : ∀ {L : List Str} {vs : List V}, TpAll H vs (L.map PyData.str) → vs = L.map V.str
  | [], _, .nil => rfl
  | i :: r, _, .cons h a => by
    cases h
    rw [TpAll.strs_inv a]
    rfl
def dS (zs : List Str) : PyData := .tuple (zs.map PyData.str)
theorem tpL {H : Hp} {a : Addr} {L : List Int} (h : H a = some (.tup (L.map V.int))) : Tp H (.ref a) (dL L) := .tup h (.ints L)
theorem tpS {H : Hp} {a : Addr} {L : List Str} (h : H a = some (.tup (L.map V.str))) : Tp H (.ref a) (dS L) := .tup h (.strs L)
theorem tpL_inv {H : Hp} {v : V} {L : List Int} (h : Tp H v (dL L)) : ∃ a, v = .ref a ∧ H a = some (.tup (L.map V.int)) := by
  cases h with
  | tup h r => exact ⟨_, rfl, by rw [r.ints_inv] at h; exact h⟩
theorem tpS_inv {H : Hp} {v : V} {L : List Str} (h : Tp H v (dS L)) : ∃ a, v = .ref a ∧ H a = some (.tup (L.map V.str)) := by
  cases h with
  | tup h r => exact ⟨_, rfl, by rw [r.strs_inv] at h; exact h⟩
theorem tpP_inv {H : Hp} {v : V} {p : Pg} (h : Tp H v (dP p)) : ∃ a l, v = .ref a ∧ H a = some (.tup [.ref l, .int p.2]) ∧ H l = some (.tup (p.1.map V.int)) := by
  cases h with
  | tup h r =>
    cases r with
    | cons h1 r =>
      cases r with
      | cons h2 r =>
        cases r
        cases h2
        obtain ⟨l, rfl, hl⟩ := tpL_inv h1
        exact ⟨_, l, rfl, h, hl⟩
theorem tpP {H : Hp} {a l : Addr} {p : Pg} (h : H a = some (.tup [.ref l, .int p.2])) (hl : H l = some (.tup (p.1.map V.int))) : Tp H (.ref a) (dP p) := .tup h (.cons (tpL hl) (.cons (.int _) .nil))
theorem tpR_inv {H : Hp} {v : V} {r : Pg × Pg} (h : Tp H v (dR r)) : ∃ a x y, v = .ref a ∧ H a = some (.tup [x, y]) ∧ Tp H x (dP r.1) ∧ Tp H y (dP r.2) := by
  cases h with
  | tup h r =>
    cases r with
    | cons h1 r =>
      cases r with
      | cons h2 r =>
        cases r
        exact ⟨_, _, _, rfl, h, h1, h2⟩
theorem tpR {H : Hp} {a : Addr} {x y : V} {p q : Pg} (h : H a = some (.tup [x, y])) (h1 : Tp H x (dP p)) (h2 : Tp H y (dP q)) : Tp H (.ref a) (dR (p, q)) := .tup h (.cons h1 (.cons h2 .nil))
theorem smallM {n : Nat} (h : n < 1000000) : n < sizeLine := by rw [sizeLine_eq]; omega
theorem seqT_butI {K : PySem.W.Frag} {H H' : Hp} {x C dx p : Addr} {fs : List (Str × V)} {ys : List V} (hx : H x = some (.ins C dx fs)) (b : But x H H') (h : SqT K H p ys) : SqT K H' p ys :=
  h.elim (fun r => .inl (r.elim (fun e => .inl (b p _ (ne_of e hx (by intro z; cases z)) e)) (fun ⟨o, e⟩ => .inr ⟨o, b p _ (ne_of e hx (by intro z; cases z)) e⟩))) .inr
theorem tpAll_labs {H : Hp} : ∀ {us : List V} {Ls : List (List Int)}, TpAll H us (Ls.map dL) → us.map (labK H) = Ls ∧ ∀ u ∈ us, ∃ t, u = V.ref t ∧ H t = some (.tup ((labK H u).map V.int))
  | [], [], .nil => ⟨rfl, fun _ h => nomatch h⟩
  | _ :: _, L :: r, .cons h t => by
    obtain ⟨e1, e2⟩ := tpAll_labs t
    obtain ⟨a, rfl, ha⟩ := tpL_inv h
    have e3 := labK_at ha
    refine ⟨by rw [List.map_cons, e1, e3], fun u hu => ?_⟩
    rcases List.mem_cons.mp hu with h | h
    · rw [h]; exact ⟨a, rfl, by rw [e3]; exact ha⟩
    · exact e2 u h
theorem labs_tpAll {H : Hp} : ∀ {us : List V}, (∀ u ∈ us, ∃ t, u = V.ref t ∧ H t = some (.tup ((labK H u).map V.int))) → TpAll H us ((us.map (labK H)).map dL)
  | [], _ => .nil
  | u :: r, h => by
    obtain ⟨t, rfl, ht⟩ := h u (List.mem_cons_self ..)
    exact .cons (tpL ht) (labs_tpAll fun v hv => h v (List.mem_cons_of_mem _ hv))
theorem pn_Ls {Ls : List (List Int)} : SeqAt.shaped (.list (Ls.map dL)) = true := shaped_pnl (n := 1) (fun d hd => by obtain ⟨p, _, rfl⟩ := List.mem_map.mp hd; exact pn_L p) (by decide)
theorem shaped_L (L : List Int) : SeqAt.shaped (dL L) = true := shaped_pn (pn_L L) (by decide)
theorem in_L (L : List Int) (Ls : List (List Int)) : ((Ls.map dL).any fun z => PyData.eqv z (dL L)) = decide (L ∈ Ls) := by
  induction Ls with
  | nil => simp
  | cons q r ih =>
    rw [List.map_cons, List.any_cons, ih, eqv_L]
    by_cases h : q = L
    · subst h; simp
    · have : L ≠ q := fun z => h z.symm
      simp [h, this]
/-! ### data whose tuples and lists are tracked, its lists new since H0 -/
mutual
inductive Td (H0 H : Hp) : V → PyData → Prop
  | non : Td H0 H .non .none
  | bl (b : Bool) : Td H0 H (.bl b) (.bool b)
  | int (i : Int) : Td H0 H (.int i) (.int i)
  | str (z : Str) : Td H0 H (.str z) (.str z)
  | lst {a : Addr} {vs : List V} {ds : List PyData} (h : H a = some (.lst vs)) (n : H0 a = none) (r : TdAll H0 H vs ds) : Td H0 H (.ref a) (.list ds)
  | tup {a : Addr} {vs : List V} {ds : List PyData} (h : H a = some (.tup vs)) (r : TdAll H0 H vs ds) : Td H0 H (.ref a) (.tuple ds)
inductive TdAll (H0 H : Hp) : List V → List PyData → Prop
  | nil : TdAll H0 H [] []
  | cons {v : V} {vs : List V} {d : PyData} {ds : List PyData} (h : Td H0 H v d) (r : TdAll H0 H vs ds) : TdAll H0 H (v :: vs) (d :: ds)
end
mutual
theorem Td.to {H0 H H0' H' : Hp} (hm : ∀ a o, H0 a = none → H a = some o → H0' a = none ∧ H' a = some o) (ht : ∀ a ys, H a = some (.tup ys) → H' a = some (.tup ys)) : ∀ {v : V} {d : PyData}, Td H0 H v d → Td H0' H' v d
  | _, _, .non => .non
  | _, _, .bl b => .bl b
  | _, _, .int i => .int i
  | _, _, .str z => .str z
  | _, _, .lst h n r => .lst (hm _ _ n h).2 (hm _ _ n h).1 (TdAll.to hm ht r)
  | _, _, .tup h r => .tup (ht _ _ h) (TdAll.to hm ht r)
theorem TdAll.to {H0 H H0' H' : Hp} (hm : ∀ a o, H0 a = none → H a = some o → H0' a = none ∧ H' a = some o) (ht : ∀ a ys, H a = some (.tup ys) → H' a = some (.tup ys)) : ∀ {vs : List V} {ds : List PyData}, TdAll H0 H vs ds → TdAll H0' H' vs ds
  | _, _, .nil => .nil
  | _, _, .cons h r => .cons (Td.to hm ht h) (TdAll.to hm ht r)
end
theorem Td.same {H0 H H' : Hp} (s : Same H H') {v : V} {d : PyData} (h : Td H0 H v d) : Td H0 H' v d := h.to (fun a o n e => ⟨n, s a o e⟩) fun a ys e => s _ _ e
theorem TdAll.same {H0 H H' : Hp} (s : Same H H') {vs : List V} {ds : List PyData} (h : TdAll H0 H vs ds) : TdAll H0 H' vs ds := h.to (fun a o n e => ⟨n, s a o e⟩) fun a ys e => s _ _ e
mutual
theorem Td.dp {K : PySem.W.Frag} {H0 H : Hp} : ∀ {v : V} {d : PyData}, Td H0 H v d → Dp K H v d
  | _, _, .non => .non
  | _, _, .bl b => .bl b
  | _, _, .int i => .int i
  | _, _, .str z => .str z
  | _, _, .lst h _ r => .lst (.inl (.inl h)) r.dp
  | _, _, .tup h r => .tup (.inl (.inl h)) r.dp
theorem TdAll.dp {K : PySem.W.Frag} {H0 H : Hp} : ∀ {vs : List V} {ds : List PyData}, TdAll H0 H vs ds → DpAll K H vs ds
  | _, _, .nil => .nil
  | _, _, .cons h r => .cons h.dp r.dp
end
theorem Tp.td {H0 H : Hp} {v : V} {d : PyData} (h : Tp H v d) : Td H0 H v d := @Tp.rec H (fun v d _ => Td H0 H v d) (fun vs ds _ => TdAll H0 H vs ds) .non .bl .int .str (fun h _ r => .tup h r) .nil (fun _ _ a b => .cons a b) v d h
theorem TpAll.td {H0 H : Hp} : ∀ {vs : List V} {ds : List PyData}, TpAll H vs ds → TdAll H0 H vs ds
  | _, _, .nil => .nil
  | _, _, .cons h r => .cons h.td r.td
theorem TdAll.len {H0 H : Hp} : ∀ {vs : List V} {ds : List PyData}, TdAll H0 H vs ds → vs.length = ds.length
  | _, _, .nil => rfl
  | _, _, .cons _ r => congrArg (· + 1) r.len
theorem TdAll.snoc {H0 H : Hp} : ∀ {vs : List V} {ds : List PyData} {v : V} {d : PyData}, TdAll H0 H vs ds → Td H0 H v d → TdAll H0 H (vs ++ [v]) (ds ++ [d])
  | _, _, _, _, .nil, h => .cons h .nil
  | _, _, _, _, .cons a r, h => .cons a (r.snoc h)
theorem TdAll.get {H0 H : Hp} : ∀ {vs : List V} {ds : List PyData} {i : Nat} {v : V}, TdAll H0 H vs ds → vs[i]? = some v → ∃ d, ds[i]? = some d ∧ Td H0 H v d
  | _, _, i, v, .nil, h => by cases h
  | _, _, 0, v, .cons a r, h => by cases h; exact ⟨_, rfl, a⟩
  | _, _, i + 1, v, .cons a r, h => r.get h
/-- a row of such data, whether list or tuple -/
theorem Td.row {K : PySem.W.Frag} {H0 H : Hp} {v : V} {d : PyData} {ds : List PyData} (h : Td H0 H v d) (hi : items d = some ds) : ∃ (a : Addr) (xs : List V), v = .ref a ∧ TdAll H0 H xs ds ∧ ((H a = some (.lst xs) ∧ d = .list ds ∧ H0 a = none) ∨ (H a = some (.tup xs) ∧ d = .tuple ds)) := by
  cases h with
  | non => cases hi
  | bl b => cases hi
  | int i => cases hi
  | str z => cases hi
  | lst h n r => cases hi; exact ⟨_, _, rfl, r, .inl ⟨h, rfl, n⟩⟩
  | tup h r => cases hi; exact ⟨_, _, rfl, r, .inr ⟨h, rfl⟩⟩
/-! ### data given as lists where it was tuples -/
def Pl : Nat → PyData → Prop
  | 0, _ => False
  | _ + 1, .int _ => True
  | n + 1, .tuple ds => ds.length ≤ 1000 ∧ ∀ d ∈ ds, Pl n d
  | _ + 1, _ => False
mutual
def toL : PyData → PyData
  | .tuple ds => .list (toLs ds)
  | d => d
def toLs : List PyData → List PyData
  | [] => []
  | d :: r => toL d :: toLs r
end
theorem toLs_map : ∀ ds : List PyData, toLs ds = ds.map toL
  | [] => rfl
  | d :: r => congrArg (toL d :: ·) (toLs_map r)
theorem toLs_ints (L : List Int) : toLs (L.map PyData.int) = L.map PyData.int := by
  induction L with
  | nil => rfl
  | cons i t ih => show PyData.int i :: toLs (t.map PyData.int) = _; rw [ih]; rfl
theorem lay_pl : ∀ (n : Nat) (d : PyData), Pl n d → (toL d).canLay0 = true ∧ (toL d).depth ≤ n
  | 0, _, h => h.elim
  | _ + 1, .int _, _ => ⟨rfl, Nat.zero_le _⟩
  | n + 1, .tuple ds, h => by
    have key : ∀ es : List PyData, (∀ d ∈ es, Pl n d) → PyData.canLayAll0 (toLs es) = true ∧ PyData.depthAll (toLs es) ≤ n := by
      intro es
      induction es with
      | nil => exact fun _ => ⟨rfl, Nat.zero_le _⟩
      | cons d r ih =>
        intro hh
        have h1 := lay_pl n d (hh d (List.mem_cons_self ..))
        have h2 := ih fun e he => hh e (List.mem_cons_of_mem _ he)
        refine ⟨?_, ?_⟩
        · show ((toL d).canLay0 && PyData.canLayAll0 (toLs r)) = true
          rw [h1.1, h2.1]
          rfl
        · show max (toL d).depth (PyData.depthAll (toLs r)) ≤ n
          omega
    have := key ds h.2
    exact ⟨this.1, Nat.succ_le_succ this.2⟩
  | _ + 1, .none, h => by simp [Pl] at h
  | _ + 1, .bool _, h => by simp [Pl] at h
  | _ + 1, .str _, h => by simp [Pl] at h
  | _ + 1, .list _, h => by simp [Pl] at h
  | _ + 1, .dict _, h => by simp [Pl] at h
theorem shaped_pl {n : Nat} {d : PyData} (h : Pl n d) (hn : n ≤ 64) : SeqAt.shaped (toL d) = true := by
  have := lay_pl n d h
  unfold SeqAt.shaped
  rw [Bool.and_eq_true]
  exact ⟨this.1, decide_eq_true (by omega)⟩
theorem eqv_pl {n : Nat} {d : PyData} (h : Pl n d) : PyData.eqv (toL d) (toL d) = true := SeqAt.eqv_refl _ (lay_pl n d h).1
theorem pl_dL {L : List Int} (h : L.length ≤ 1000) (n : Nat) : Pl (n + 2) (dL L) := ⟨by rw [List.length_map]; exact h, fun d hd => by
  obtain ⟨i, _, rfl⟩ := List.mem_map.mp hd
  exact trivial⟩
theorem pl_dP {p : Pg} (h : p.1.length ≤ 3) (n : Nat) : Pl (n + 3) (dP p) := ⟨(by show 2 ≤ 1000; decide), fun d hd => by
  rcases List.mem_cons.mp hd with rfl | hd
  · exact pl_dL (by omega) n
  · rw [List.mem_singleton.mp hd]; exact trivial⟩
theorem pl_dR' {r : Pg × Pg} (h : okP r.1 ∧ okP r.2) (n : Nat) : Pl (n + 4) (dR r) := ⟨(by show 2 ≤ 1000; decide), fun d hd => by
  rcases List.mem_cons.mp hd with rfl | hd
  · exact pl_dP h.1.1.1 n
  · rw [List.mem_singleton.mp hd]; exact pl_dP h.2.1.1 n⟩
theorem pl_tup {α : Type} {f : α → PyData} {n : Nat} {xs : List α} (h : ∀ x ∈ xs, Pl n (f x)) (hl : xs.length ≤ 1000) : Pl (n + 1) (.tuple (xs.map f)) := ⟨by rw [List.length_map]; exact hl, fun d hd => by
  obtain ⟨x, hx, rfl⟩ := List.mem_map.mp hd
  exact h x hx⟩
/-! ### list comprehensions whose turns change nothing that stood -/
theorem walkL {K : PySem.W.Frag} {a : Addr} {xs : List V} {n : Nat} (h : xs.length = n) : Walk (Itl K a) n (fun H => SqL K H a xs) (YAt xs) := h ▸ walk_list
theorem walkT {K : PySem.W.Frag} {a : Addr} {xs : List V} {n : Nat} (h : xs.length = n) : Walk (Itt K a) n (fun H => SqT K H a xs) (YAt xs) := h ▸ walk_tup
theorem walk_zipT {K : PySem.W.Frag} {a b : Addr} {xs ys : List V} {n : Nat} (hn : n = min xs.length ys.length) : Walk (RZ.ItzT K a b) n (fun H => SqT K H a xs ∧ SqT K H b ys) (YPair (fun i => xs[i]?) (fun i => ys[i]?)) := by
  subst hn
  refine ⟨fun i _ hi q => ?_, fun _ q => ⟨xs, ys, q.1, q.2, by omega⟩, fun i H v H' _ q y => ?_⟩
  · have h1 : i < xs.length := by omega
    have h2 : i < ys.length := by omega
    exact ⟨xs, ys, xs[i], ys[i], q.1, q.2, by simp [h1], by simp [h2]⟩
  · obtain ⟨p, x, z, h1, h2, h3, h4, h5⟩ := y
    exact ⟨p, x, z, h1, h2, h3, h4 xs q.1, h5 ys q.2⟩
section
variable {J : It} {G : Hp → Prop} {Y : Nat → Hp → V → Hp → Prop} {g : TG} {tt : TT} {te : TE} {vs : List Nat} {σ : L2.St} {H1 : Hp} {D : Addr} {Qd : Hp → Prop} {α : Type}
theorem fm_step {β : Type} {ds : List α} {f : α → Option β} {i : Nat} {d : α} (e : ds[i]? = some d) : (ds.take (i + 1)).filterMap f = (ds.take i).filterMap f ++ (f d).toList := by
  rw [List.take_add_one, e, List.filterMap_append, Option.toList_some, List.filterMap_cons, List.filterMap_nil]
  cases f d <;> rfl
theorem fm_len {β : Type} (ds : List α) (f : α → Option β) (i : Nat) : ((ds.take i).filterMap f).length ≤ ds.length := Nat.le_trans (List.length_filterMap_le ..) (by rw [List.length_take]; omega)
/-- the values are known -/
theorem lc_fm (ds : List α) (f : α → Option V) (w : Walk J ds.length G Y) (nD : H1 D = none) (hG : ∀ H, Same H1 H → G H) (hl : ds.length ≤ 100000)
    (hs : ∀ i d x H H', ds[i]? = some d → Same H1 H → Y i H x H' → ∀ (R : V → Hp → Prop) (N : Hp → Prop), (∀ v, f d = some v → ∀ H4, Same H H4 → R v H4) → (f d = none → ∀ H4, Same H H4 → N H4) →
      g x (wipe σ vs) H' fun σ2 H2 => wipe σ2 vs = wipe σ vs ∧ tt σ2 H2 fun b H3 => if b = true then te σ2 H3 R else N H3)
    (hd : ∀ H, Same H1 H → H D = some (.lst (ds.filterMap f)) → Qd H) :
    ∃ W : Nat → Nat → Hp → Prop, (∃ m, W 0 m (upd H1 D (.lst []))) ∧ ∀ i m H, W i m H →
      (J.stop i H ∧ Qd H) ∨ (J.go i H ∧ ∃ Nx : Hp → Prop, (∀ H', Nx H' → ∃ m', m' < m ∧ W (i + 1) m' H') ∧ ∀ x H', J.yld i H x H' → g x (wipe σ vs) H' fun σ2 H2 => wipe σ2 vs = wipe σ vs ∧ tt σ2 H2 fun b H3 =>
        if b = true then te σ2 H3 fun y H4 => ∃ acc, H4 D = some (.lst acc) ∧ acc.length < sizeLine ∧ Nx (upd H4 D (.lst (acc ++ [y]))) else Nx H3) := by
  refine lc_it w (fun i H => Same H1 H ∧ H D = some (.lst ((ds.take i).filterMap f))) ⟨same_upd nD, upd_same⟩ (fun i H _ h => hG H h.1) (fun i x H H' hi ⟨sm, eD⟩ y => ?_) (fun H ⟨sm, eD⟩ => hd H sm (by rw [List.take_length] at eD; exact eD))
  have ei := List.getElem?_eq_getElem hi
  refine hs i ds[i] x H H' ei sm y _ _ (fun v ev H4 s4 => ?_) (fun en H4 s4 => ?_)
  · refine ⟨_, s4 _ _ eD, ?_, same_put (sm.trans s4) nD _, ?_⟩
    · have := fm_len ds f i
      exact Nat.lt_of_le_of_lt (Nat.le_trans this hl) (by decide)
    · rw [upd_same, fm_step ei, ev]
      rfl
  · refine ⟨sm.trans s4, ?_⟩
    rw [fm_step ei, en, s4 _ _ eD]
    simp
/-- the data are known, all of tracked tuples -/
theorem lc_tp (ds : List α) (f : α → Option PyData) (w : Walk J ds.length G Y) (nD : H1 D = none) (hG : ∀ H, Same H1 H → G H) (hl : ds.length ≤ 100000)
    (hs : ∀ i d x H H', ds[i]? = some d → Same H1 H → Y i H x H' → ∀ (R : V → Hp → Prop) (N : Hp → Prop), (∀ v e, f d = some e → ∀ H4, Same H H4 → Tp H4 v e → R v H4) → (f d = none → ∀ H4, Same H H4 → N H4) →
      g x (wipe σ vs) H' fun σ2 H2 => wipe σ2 vs = wipe σ vs ∧ tt σ2 H2 fun b H3 => if b = true then te σ2 H3 R else N H3)
    (hd : ∀ H us, Same H1 H → H D = some (.lst us) → TpAll H us (ds.filterMap f) → Qd H) :
    ∃ W : Nat → Nat → Hp → Prop, (∃ m, W 0 m (upd H1 D (.lst []))) ∧ ∀ i m H, W i m H →
      (J.stop i H ∧ Qd H) ∨ (J.go i H ∧ ∃ Nx : Hp → Prop, (∀ H', Nx H' → ∃ m', m' < m ∧ W (i + 1) m' H') ∧ ∀ x H', J.yld i H x H' → g x (wipe σ vs) H' fun σ2 H2 => wipe σ2 vs = wipe σ vs ∧ tt σ2 H2 fun b H3 =>
        if b = true then te σ2 H3 fun y H4 => ∃ acc, H4 D = some (.lst acc) ∧ acc.length < sizeLine ∧ Nx (upd H4 D (.lst (acc ++ [y]))) else Nx H3) := by
  refine lc_it w (fun i H => Same H1 H ∧ ∃ us, H D = some (.lst us) ∧ TpAll H us ((ds.take i).filterMap f)) ⟨same_upd nD, [], upd_same, .nil⟩ (fun i H _ h => hG H h.1) (fun i x H H' hi ⟨sm, us, eD, tp⟩ y => ?_) (fun H ⟨sm, us, eD, tp⟩ => hd H us sm eD (by rw [List.take_length] at tp; exact tp))
  have ei := List.getElem?_eq_getElem hi
  refine hs i ds[i] x H H' ei sm y _ _ (fun v e ev H4 s4 tv => ?_) (fun en H4 s4 => ?_)
  · have e4 := s4 _ _ eD
    refine ⟨us, e4, ?_, same_put (sm.trans s4) nD _, us ++ [v], upd_same, ?_⟩
    · have := fm_len ds f i
      rw [← tp.len] at this
      exact Nat.lt_of_le_of_lt (Nat.le_trans this hl) (by decide)
    · rw [fm_step ei, ev]
      have m := (NL.refl H4).put e4 (.lst (us ++ [v]))
      exact ((tp.nl (NL.of s4)).nl m).snoc (tv.nl m)
  · refine ⟨sm.trans s4, us, s4 _ _ eD, ?_⟩
    rw [fm_step ei, en]
    simpa using tp.nl (NL.of s4)
end
theorem map_fm {α β : Type} (f : α → β) (ds : List α) : ds.filterMap (fun d => some (f d)) = ds.map f := by
  induction ds with
  | nil => rfl
  | cons d r ih => rw [List.filterMap_cons, ih]; rfl
theorem fm_filter {α β : Type} (p : α → Bool) (f : α → β) (ds : List α) : ds.filterMap (fun d => if p d = true then some (f d) else none) = (ds.filter p).map f := by
  induction ds with
  | nil => rfl
  | cons d r ih =>
    rw [List.filterMap_cons]
    cases e : p d with
    | true => rw [if_pos rfl, List.filter_cons_of_pos e, List.map_cons, ih]
    | false => rw [if_neg (by decide), List.filter_cons_of_neg (by rw [e]; decide), ih]
theorem all_map {α : Type} (p : α → Bool) (ds : List α) : (ds.map p).all id = ds.all p := by
  induction ds with
  | nil => rfl
  | cons d r ih => rw [List.map_cons, List.all_cons, List.all_cons, ih]; rfl
theorem any_map {α : Type} (p : α → Bool) (ds : List α) : (ds.map p).any id = ds.any p := by
  induction ds with
  | nil => rfl
  | cons d r ih => rw [List.map_cons, List.any_cons, List.any_cons, ih]; rfl
/-! ### two fors -/
section
variable {J J1 : It} {n n1 : Nat} {G G1 : Hp → Prop} {Y Y1 : Nat → Hp → V → Hp → Prop} {wi1 : TI} {g g1 : TG} {tt tt1 : TT} {te : TE} {vs vs1 : List Nat} {σ σ2 : L2.St} {H1 H4 : Hp} {D : Addr} {Qd Nx : Hp → Prop}
/-- the inner for, begun at H4 -/
theorem in2_it (w : Walk J1 n1 G1 Y1) (Pv : Nat → Hp → Prop) (h0 : Pv 0 H4) (hG : ∀ i H, i ≤ n1 → Pv i H → G1 H)
    (hs : ∀ i x H H', i < n1 → Pv i H → Y1 i H x H' → g1 x (wipe σ2 vs1) H' fun σ3 H5 => wipe σ3 vs1 = wipe σ2 vs1 ∧ tt1 σ3 H5 fun b H6 =>
      if b = true then te σ3 H6 fun y H7 => ∃ acc, H7 D = some (.lst acc) ∧ acc.length < sizeLine ∧ Pv (i + 1) (upd H7 D (.lst (acc ++ [y]))) else Pv (i + 1) H6) (hd : ∀ H, Pv n1 H → Nx H) :
    ∃ W1 : Nat → Nat → Hp → Prop, (∃ m, W1 0 m H4) ∧ ∀ j k H, W1 j k H →
      (J1.stop j H ∧ Nx H) ∨ (J1.go j H ∧ ∃ Nx1 : Hp → Prop, (∀ H', Nx1 H' → ∃ k', k' < k ∧ W1 (j + 1) k' H') ∧ ∀ x H', J1.yld j H x H' → g1 x (wipe σ2 vs1) H' fun σ3 H5 => wipe σ3 vs1 = wipe σ2 vs1 ∧ tt1 σ3 H5 fun b H6 =>
        if b = true then te σ3 H6 fun y H7 => ∃ acc, H7 D = some (.lst acc) ∧ acc.length < sizeLine ∧ Nx1 (upd H7 D (.lst (acc ++ [y]))) else Nx1 H6) := by
  refine ⟨fun i m H => m = n1 - i ∧ i ≤ n1 ∧ Pv i H, ⟨n1, by simp, Nat.zero_le _, h0⟩, ?_⟩
  rintro i m H ⟨rfl, hi, p⟩
  have q := hG i H hi p
  by_cases hlt : i < n1
  · exact .inr ⟨w.goes i H hlt q, Pv (i + 1), fun H' p' => ⟨n1 - (i + 1), by omega, rfl, hlt, p'⟩, fun x H' y => hs i x H H' hlt p (w.yields i H x H' hlt q y)⟩
  · have e : i = n1 := by omega
    subst e
    exact .inl ⟨w.stops H q, hd H p⟩
/-- the outer for: what the inner one is asked for, as it stands -/
theorem lc2_it (w : Walk J n G Y) (Pv : Nat → Hp → Prop) (h0 : Pv 0 (upd H1 D (.lst []))) (hG : ∀ i H, i ≤ n → Pv i H → G H)
    (hs : ∀ i x H H', i < n → Pv i H → Y i H x H' → g x (wipe σ vs) H' fun σ2 H2 => wipe σ2 vs = wipe σ vs ∧ tt σ2 H2 fun b H3 =>
      if b = true then wi1 σ2 H3 fun J1 H4 => ∃ W1 : Nat → Nat → Hp → Prop, (∃ m, W1 0 m H4) ∧ ∀ j k H, W1 j k H →
        (J1.stop j H ∧ Pv (i + 1) H) ∨ (J1.go j H ∧ ∃ Nx1 : Hp → Prop, (∀ H', Nx1 H' → ∃ k', k' < k ∧ W1 (j + 1) k' H') ∧ ∀ x H', J1.yld j H x H' → g1 x (wipe σ2 vs1) H' fun σ3 H5 => wipe σ3 vs1 = wipe σ2 vs1 ∧ tt1 σ3 H5 fun b H6 =>
          if b = true then te σ3 H6 fun y H7 => ∃ acc, H7 D = some (.lst acc) ∧ acc.length < sizeLine ∧ Nx1 (upd H7 D (.lst (acc ++ [y]))) else Nx1 H6)
      else Pv (i + 1) H3) (hd : ∀ H, Pv n H → Qd H) :
    ∃ W : Nat → Nat → Hp → Prop, (∃ m, W 0 m (upd H1 D (.lst []))) ∧ ∀ i m H, W i m H →
      (J.stop i H ∧ Qd H) ∨ (J.go i H ∧ ∃ Nx : Hp → Prop, (∀ H', Nx H' → ∃ m', m' < m ∧ W (i + 1) m' H') ∧ ∀ x H', J.yld i H x H' → g x (wipe σ vs) H' fun σ2 H2 => wipe σ2 vs = wipe σ vs ∧ tt σ2 H2 fun b H3 =>
        if b = true then wi1 σ2 H3 fun J1 H4 => ∃ W1 : Nat → Nat → Hp → Prop, (∃ m, W1 0 m H4) ∧ ∀ j k H, W1 j k H →
          (J1.stop j H ∧ Nx H) ∨ (J1.go j H ∧ ∃ Nx1 : Hp → Prop, (∀ H', Nx1 H' → ∃ k', k' < k ∧ W1 (j + 1) k' H') ∧ ∀ x H', J1.yld j H x H' → g1 x (wipe σ2 vs1) H' fun σ3 H5 => wipe σ3 vs1 = wipe σ2 vs1 ∧ tt1 σ3 H5 fun b H6 =>
            if b = true then te σ3 H6 fun y H7 => ∃ acc, H7 D = some (.lst acc) ∧ acc.length < sizeLine ∧ Nx1 (upd H7 D (.lst (acc ++ [y]))) else Nx1 H6)
        else Nx H3) := by
  refine ⟨fun i m H => m = n - i ∧ i ≤ n ∧ Pv i H, ⟨n, by simp, Nat.zero_le _, h0⟩, ?_⟩
  rintro i m H ⟨rfl, hi, p⟩
  have q := hG i H hi p
  by_cases hlt : i < n
  · exact .inr ⟨w.goes i H hlt q, Pv (i + 1), fun H' p' => ⟨n - (i + 1), by omega, rfl, hlt, p'⟩, fun x H' y => hs i x H H' hlt p (w.yields i H x H' hlt q y)⟩
  · have e : i = n := by omega
    subst e
    exact .inl ⟨w.stops H q, hd H p⟩
end
section
variable {K : PySem.W.Frag} {J : It} {G : Hp → Prop} {Y : Nat → Hp → V → Hp → Prop} {g : TG} {tt : TT} {te : TE} {vs : List Nat} {σ : L2.St} {H1 : Hp} {D : Addr} {Qd : Hp → Prop} {α : Type}
/-- the data are known, without lists -/
theorem lc_dp (ds : List α) (f : α → Option PyData) (hn : ∀ d e, f d = some e → ∃ n, Nl n e) (w : Walk J ds.length G Y) (nD : H1 D = none) (hG : ∀ H, Same H1 H → G H) (hl : ds.length ≤ 100000)
    (hs : ∀ i d x H H', ds[i]? = some d → Same H1 H → Y i H x H' → ∀ (R : V → Hp → Prop) (N : Hp → Prop), (∀ v e, f d = some e → ∀ H4, Same H H4 → Dp K H4 v e → R v H4) → (f d = none → ∀ H4, Same H H4 → N H4) →
      g x (wipe σ vs) H' fun σ2 H2 => wipe σ2 vs = wipe σ vs ∧ tt σ2 H2 fun b H3 => if b = true then te σ2 H3 R else N H3)
    (hd : ∀ H us, Same H1 H → H D = some (.lst us) → DpAll K H us (ds.filterMap f) → Qd H) :
    ∃ W : Nat → Nat → Hp → Prop, (∃ m, W 0 m (upd H1 D (.lst []))) ∧ ∀ i m H, W i m H →
      (J.stop i H ∧ Qd H) ∨ (J.go i H ∧ ∃ Nx : Hp → Prop, (∀ H', Nx H' → ∃ m', m' < m ∧ W (i + 1) m' H') ∧ ∀ x H', J.yld i H x H' → g x (wipe σ vs) H' fun σ2 H2 => wipe σ2 vs = wipe σ vs ∧ tt σ2 H2 fun b H3 =>
        if b = true then te σ2 H3 fun y H4 => ∃ acc, H4 D = some (.lst acc) ∧ acc.length < sizeLine ∧ Nx (upd H4 D (.lst (acc ++ [y]))) else Nx H3) := by
  refine lc_it w (fun i H => Same H1 H ∧ ∃ us, H D = some (.lst us) ∧ DpAll K H us ((ds.take i).filterMap f)) ⟨same_upd nD, [], upd_same, .nil⟩ (fun i H _ h => hG H h.1) (fun i x H H' hi ⟨sm, us, eD, tp⟩ y => ?_) (fun H ⟨sm, us, eD, tp⟩ => hd H us sm eD (by rw [List.take_length] at tp; exact tp))
  have ei := List.getElem?_eq_getElem hi
  refine hs i ds[i] x H H' ei sm y _ _ (fun v e ev H4 s4 tv => ?_) (fun en H4 s4 => ?_)
  · have e4 := s4 _ _ eD
    refine ⟨us, e4, ?_, same_put (sm.trans s4) nD _, us ++ [v], upd_same, ?_⟩
    · have := fm_len ds f i
      rw [← dpAll_len tp] at this
      exact Nat.lt_of_le_of_lt (Nat.le_trans this hl) (by decide)
    · rw [fm_step ei, ev]
      refine dpAll_snoc (dpAll_butN e4 (But.upd _) (dpAll_same s4 tp) fun d hd => ?_) (dp_butN e4 (But.upd _) tv (hn _ _ ev))
      obtain ⟨a, _, ea⟩ := List.mem_filterMap.mp hd
      exact hn _ _ ea
  · refine ⟨sm.trans s4, us, s4 _ _ eD, ?_⟩
    rw [fm_step ei, en]
    simpa using dpAll_same s4 tp
end
theorem nl_P (p : Pg) : ∃ n, Nl n (dP p) := ⟨2, fun d hd => by
  rcases List.mem_cons.mp hd with h | h
  · rw [h]
    exact fun e he => by
      obtain ⟨i, _, rfl⟩ := List.mem_map.mp he
      trivial
  · rw [List.mem_singleton.mp h]; trivial⟩
theorem nl_oP (o : Option Pg) : ∃ n, Nl n (oD dP o) := by
  cases o with
  | none => exact ⟨0, trivial⟩
  | some p => exact nl_P p
theorem in_P (p : Pg) (ps : List Pg) : ((ps.map dP).any fun z => PyData.eqv z (dP p)) = decide (p ∈ ps) := by
  induction ps with
  | nil => simp
  | cons q r ih =>
    rw [List.map_cons, List.any_cons, ih, eqv_P]
    by_cases h : q = p
    · subst h; simp
    · have : p ≠ q := fun z => h z.symm
      simp [h, this]
theorem shaped_P (p : Pg) : SeqAt.shaped (dP p) = true := shaped_pn (pn_P p) (by decide)
theorem shaped_Ps (ps : List Pg) : SeqAt.shaped (.list (ps.map dP)) = true := shaped_pnl (n := 2) (fun d hd => by obtain ⟨p, _, rfl⟩ := List.mem_map.mp hd; exact pn_P p) (by decide)
theorem nl_R (r : Pg × Pg) : ∃ n, Nl n (dR r) := ⟨3, fun d hd => by
  have two : ∀ p : Pg, Nl 2 (dP p) := fun p e he => by
    rcases List.mem_cons.mp he with h | h
    · rw [h]
      exact fun e he => by
        obtain ⟨i, _, rfl⟩ := List.mem_map.mp he
        trivial
    · rw [List.mem_singleton.mp h]; trivial
  rcases List.mem_cons.mp hd with h | h
  · rw [h]; exact two _
  · rw [List.mem_singleton.mp h]; exact two _⟩
/-! ### leaves and books in the heap -/
def gOr (a b : TG) : TG := fun v σ H Q => a v σ H Q ∨ b v σ H Q
abbrev Sk := (Int × Int × Int) × Str
def dSk (s : Sk) : PyData := .tuple [.int s.1.1, .int s.1.2.1, .int s.1.2.2, .str s.2]
def dPen (ss : List Sk) : PyData := .tuple (ss.map dSk)
def kSk (s : Sk) : List L2.Key := [.inl s.1.1, .inl s.1.2.1, .inl s.1.2.2]
/-- strokes as a dict's entries -/
def entT : List Sk → List (List L2.Key × V) := fun ss => ss.map fun s => (kSk s, .str s.2)
structure Lf where
  L : List Int
  fr : List Str
  bk : List Str
  pen : List Sk
def fLf (l f b p s : V) : List (Str × V) := [("label", l), ("front", f), ("back", b), ("pen", p), ("_strokes", s)]
def LfAt (C : Addr) (H : Hp) (v : V) (lf : Lf) : Prop := ∃ (x dx l f b p s : Addr), v = .ref x ∧ H x = some (.ins C dx (fLf (.ref l) (.ref f) (.ref b) (.ref p) (.ref s))) ∧ H l = some (.tup (lf.L.map V.int)) ∧
  H f = some (.tup (lf.fr.map V.str)) ∧ H b = some (.tup (lf.bk.map V.str)) ∧ Tp H (.ref p) (dPen lf.pen) ∧ ∃ o, H s = some (.frz o (.dT (entT lf.pen)))
inductive LfAll (C : Addr) (H : Hp) : List V → List Lf → Prop
  | nil : LfAll C H [] []
  | cons {v : V} {vs : List V} {l : Lf} {ls : List Lf} (h : LfAt C H v l) (r : LfAll C H vs ls) : LfAll C H (v :: vs) (l :: ls)
def fBk (l s : V) : List (Str × V) := [("leaves", l), ("_spots", s)]
/-- at each label the place of its leaf -/
def spots (ls : List Lf) : Nat → List (List L2.Key × V)
  | 0 => []
  | n + 1 => match ls[n]? with
    | some l => putK (spots ls n) (l.L.map Sum.inl) (.int (n : Nat))
    | none => spots ls n
def BkAt (C CB : Addr) (H : Hp) (v : V) (bk : List Lf) : Prop := ∃ (x dx l s : Addr) (vs : List V), v = .ref x ∧ H x = some (.ins CB dx (fBk (.ref l) (.ref s))) ∧ H l = some (.tup vs) ∧ LfAll C H vs bk ∧ H s = some (.dT (spots bk bk.length)) ∧ bk.length ≤ 60
theorem LfAt.nl {C : Addr} {H H' : Hp} {v : V} {lf : Lf} (m : NL H H') (h : LfAt C H v lf) : LfAt C H' v lf := by
  obtain ⟨x, dx, l, f, b, p, s, ev, h1, h2, h3, h4, h5, o6, h6⟩ := h
  have k : ∀ {q : Addr} {o : HO}, H q = some o → (∀ ys, o ≠ .lst ys) → H' q = some o := fun e n => m _ _ e n
  exact ⟨x, dx, l, f, b, p, s, ev, k h1 (fun _ z => nomatch z), k h2 (fun _ z => nomatch z), k h3 (fun _ z => nomatch z), k h4 (fun _ z => nomatch z), h5.nl m, o6, k h6 (fun _ z => nomatch z)⟩
theorem LfAll.nl {C : Addr} {H H' : Hp} (m : NL H H') : ∀ {vs : List V} {ls : List Lf}, LfAll C H vs ls → LfAll C H' vs ls
  | _, _, .nil => .nil
  | _, _, .cons h r => .cons (h.nl m) (LfAll.nl m r)
theorem LfAll.len {C : Addr} {H : Hp} : ∀ {vs : List V} {ls : List Lf}, LfAll C H vs ls → vs.length = ls.length
  | _, _, .nil => rfl
  | _, _, .cons _ r => congrArg (· + 1) (LfAll.len r)
theorem LfAll.snoc {C : Addr} {H : Hp} : ∀ {vs : List V} {ls : List Lf} {v : V} {l : Lf}, LfAll C H vs ls → LfAt C H v l → LfAll C H (vs ++ [v]) (ls ++ [l])
  | _, _, _, _, .nil, h => .cons h .nil
  | _, _, _, _, .cons k r, h => .cons k (LfAll.snoc r h)
theorem LfAll.get {C : Addr} {H : Hp} : ∀ {vs : List V} {ls : List Lf} {i : Nat} {v : V}, LfAll C H vs ls → vs[i]? = some v → ∃ l, ls[i]? = some l ∧ LfAt C H v l
  | _, _, _, _, .nil, e => nomatch e
  | _, _, 0, _, .cons h r, e => by
    injection e with e
    subst e
    exact ⟨_, rfl, h⟩
  | _, _, i + 1, _, .cons h r, e => by
    obtain ⟨d, e1, e2⟩ := LfAll.get (i := i) r e
    exact ⟨d, e1, e2⟩
theorem LfAll.get2 {C : Addr} {H : Hp} {vs : List V} {ls : List Lf} {i : Nat} {l : Lf} (h : LfAll C H vs ls) (e : ls[i]? = some l) : ∃ v, vs[i]? = some v ∧ LfAt C H v l := by
  have hi := (List.getElem?_eq_some_iff.mp e).1
  rw [← h.len] at hi
  have e1 := List.getElem?_eq_getElem hi
  obtain ⟨d', e2, e3⟩ := h.get e1
  rw [e] at e2
  injection e2 with e2
  subst e2
  exact ⟨_, e1, e3⟩
theorem BkAt.nl {C CB : Addr} {H H' : Hp} {v : V} {bk : List Lf} (m : NL H H') (h : BkAt C CB H v bk) : BkAt C CB H' v bk := by
  obtain ⟨x, dx, l, s, vs, ev, h1, h2, h3, h4, h5⟩ := h
  have k : ∀ {q : Addr} {o : HO}, H q = some o → (∀ ys, o ≠ .lst ys) → H' q = some o := fun e n => m _ _ e n
  exact ⟨x, dx, l, s, vs, ev, k h1 (fun _ z => nomatch z), k h2 (fun _ z => nomatch z), h3.nl m, k h4 (fun _ z => nomatch z), h5⟩
theorem spots_len (ls : List Lf) : ∀ n, (spots ls n).length ≤ n
  | 0 => Nat.le_refl _
  | n + 1 => by
    unfold spots
    cases ls[n]? with
    | none => exact Nat.le_succ_of_le (spots_len ls n)
    | some l => exact Nat.le_trans (length_putK _ _ _) (Nat.succ_le_succ (spots_len ls n))
theorem kL (L : List Int) : (L.map (Sum.inl : Int → L2.Key)).map kV = L.map V.int := by
  rw [List.map_map]
  rfl
theorem fLf_label {l f b p s : V} : (fLf l f b p s).lookup ("label" : Str) = some l := by
  have e : (("label" : Str) == ("label" : Str)) = true := beq_self_eq_true _
  simp only [fLf, List.lookup, e]
theorem fLf_front {l f b p s : V} : (fLf l f b p s).lookup ("front" : Str) = some f := by
  have e : (("front" : Str) == ("label" : Str)) = false := by decide +kernel
  have e2 : (("front" : Str) == ("front" : Str)) = true := beq_self_eq_true _
  simp only [fLf, List.lookup, e, e2]
theorem fLf_back {l f b p s : V} : (fLf l f b p s).lookup ("back" : Str) = some b := by
  have e : (("back" : Str) == ("label" : Str)) = false := by decide +kernel
  have e1 : (("back" : Str) == ("front" : Str)) = false := by decide +kernel
  have e2 : (("back" : Str) == ("back" : Str)) = true := beq_self_eq_true _
  simp only [fLf, List.lookup, e, e1, e2]
theorem fLf_pen {l f b p s : V} : (fLf l f b p s).lookup ("pen" : Str) = some p := by
  have e : (("pen" : Str) == ("label" : Str)) = false := by decide +kernel
  have e1 : (("pen" : Str) == ("front" : Str)) = false := by decide +kernel
  have e2 : (("pen" : Str) == ("back" : Str)) = false := by decide +kernel
  have e3 : (("pen" : Str) == ("pen" : Str)) = true := beq_self_eq_true _
  simp only [fLf, List.lookup, e, e1, e2, e3]
theorem fLf_strokes {l f b p s : V} : (fLf l f b p s).lookup ("_strokes" : Str) = some s := by
  have e : (("_strokes" : Str) == ("label" : Str)) = false := by decide +kernel
  have e1 : (("_strokes" : Str) == ("front" : Str)) = false := by decide +kernel
  have e2 : (("_strokes" : Str) == ("back" : Str)) = false := by decide +kernel
  have e3 : (("_strokes" : Str) == ("pen" : Str)) = false := by decide +kernel
  have e4 : (("_strokes" : Str) == ("_strokes" : Str)) = true := beq_self_eq_true _
  simp only [fLf, List.lookup, e, e1, e2, e3, e4]
theorem fLf_no {l f b p s : V} {m : Str} (h : ((m == ("label" : Str)) || (m == ("front" : Str)) || (m == ("back" : Str)) || (m == ("pen" : Str)) || (m == ("_strokes" : Str))) = false) : (fLf l f b p s).lookup m = none := by
  simp only [Bool.or_eq_false_iff] at h
  simp only [fLf, List.lookup, h.1.1.1.1, h.1.1.1.2, h.1.1.2, h.1.2, h.2]
theorem fBk_leaves {l s : V} : (fBk l s).lookup ("leaves" : Str) = some l := by
  have e : (("leaves" : Str) == ("leaves" : Str)) = true := beq_self_eq_true _
  simp only [fBk, List.lookup, e]
theorem fBk_spots {l s : V} : (fBk l s).lookup ("_spots" : Str) = some s := by
  have e : (("_spots" : Str) == ("leaves" : Str)) = false := by decide +kernel
  have e2 : (("_spots" : Str) == ("_spots" : Str)) = true := beq_self_eq_true _
  simp only [fBk, List.lookup, e, e2]
theorem fBk_no {l s : V} {m : Str} (h : ((m == ("leaves" : Str)) || (m == ("_spots" : Str))) = false) : (fBk l s).lookup m = none := by
  simp only [Bool.or_eq_false_iff] at h
  simp only [fBk, List.lookup, h.1, h.2]
/-- rows of words -/
def tokB (z : Str) : Bool := decide (1 ≤ z.length) && decide (z.length ≤ 20) && decide (32 ∉ z.cps.toList)
def rowB (z : Str) : Bool := decide (z.length ≤ 120) && decide ((Txt.split z " ").length ≤ 30) && (Txt.split z " ").all tokB
def rowsB (l : Nat) (zs : List Str) : Bool := decide (l ≤ zs.length) && decide (zs.length ≤ 12) && zs.all rowB
/-- the pages of a book -/
def allP (bk : List Lf) : List Pg := bk.flatMap fun l => [(l.L, 0), (l.L, 1)]
def sideP (l : Lf) : List Pg := (if l.fr = [] then [] else [(l.L, 0)]) ++ (if l.bk = [] then [] else [(l.L, 1)])
def shownP (bk : List Lf) : List Pg := bk.flatMap sideP
def dPs (ps : List Pg) : PyData := .tuple (ps.map dP)
/-- what is kept of a label, as a value -/
def KeptL (K : PySem.W.Frag) (H' : Hp) (v y : V) : Option (List Int) → Prop
  | none => y = .non
  | some L => (y = v ∧ ∃ a, v = .ref a ∧ SqT K H' a (L.map V.int)) ∨ ∃ b, y = .ref b ∧ H' b = some (.tup (L.map V.int))
theorem KeptL.dp {K : PySem.W.Frag} {H' : Hp} {v y : V} {o : Option (List Int)} (h : KeptL K H' v y o) : Dp K H' y (oD dL o) := by
  cases o with
  | none => cases h; exact .non
  | some L =>
    rcases h with ⟨rfl, a, rfl, h⟩ | ⟨b, rfl, h⟩
    · exact dpL h
    · exact dpL (.inl (.inl h))
/-- .. that was tracked -/
theorem KeptL.tup {K : PySem.W.Frag} {H H' : Hp} {a : Addr} {xs : List V} {y : V} {L : List Int} (m : NL H H') (e : H a = some (.tup xs)) (hx : xs = L.map V.int) (h : KeptL K H' (.ref a) y (some L)) : ∃ b, y = .ref b ∧ H' b = some (.tup (L.map V.int)) := by
  rcases h with ⟨rfl, _, _, _⟩ | h
  · exact ⟨a, rfl, by rw [← hx]; exact m _ _ e (fun _ z => nomatch z)⟩
  · exact h
/-- a page that is kept -/
def toI : PyData → Int
  | .int i => i
  | _ => 0
theorem kept_dL {L : List Int} (h : okL L) : keptD (dL L) = some L := by
  unfold keptD dL
  show keep ((L.map PyData.int).map toO) = some L
  rw [toO_ints h.2.2, keep_map, if_pos ⟨h.1, h.2.1⟩]
theorem kit_self {K : PySem.W.Frag} {C : Addr} : PySem.W.kitOne K (.ref C) (.ref C) = some true := if_pos (beq_self_eq_true _)
theorem NL.butI {H H' : Hp} {x C dx : Addr} (hx : H x = some (.ins C dx [])) (b : But x H H') {C' : Addr} {v : V} {lf : Lf} (h : LfAt C' H v lf) : LfAt C' H' v lf := by
  obtain ⟨y, dy, l, f, g, p, s, ev, h1, h2, h3, h4, h5, o6, h6⟩ := h
  have k : ∀ {q : Addr} {o : HO}, H q = some o → o ≠ .ins C dx [] → H' q = some o := fun {q o} e n => b q o (fun z => n (by rw [z, hx] at e; exact (Option.some.inj e).symm)) e
  refine ⟨y, dy, l, f, g, p, s, ev, k h1 (by intro z; injection z with z1 z2 z3; cases z3), k h2 (fun z => nomatch z), k h3 (fun z => nomatch z), k h4 (fun z => nomatch z), ?_, o6, k h6 (fun z => nomatch z)⟩
  have tp : ∀ {H1 : Hp}, (∀ q xs, H q = some (.tup xs) → H1 q = some (.tup xs)) → ∀ (ss : List Sk) {us : List V}, TpAll H us (ss.map dSk) → TpAll H1 us (ss.map dSk) := fun {H1} m ss => by
    induction ss with
    | nil => intro us t; cases t; exact .nil
    | cons q r ih =>
      intro us t
      cases t with
      | cons h0 t =>
        refine .cons ?_ (ih t)
        cases h0 with
        | tup e r4 =>
          refine .tup (m _ _ e) ?_
          cases r4 with
          | cons a1 r3 =>
            cases r3 with
            | cons a2 r2 =>
              cases r2 with
              | cons a3 r1 =>
                cases r1 with
                | cons a4 r0 =>
                  cases a1; cases a2; cases a3; cases a4; cases r0
                  exact .cons (.int _) (.cons (.int _) (.cons (.int _) (.cons (.str _) .nil)))
  cases h5 with
  | tup e r => exact .tup (k e (fun z => nomatch z)) (tp (fun q xs e => k e (fun z => nomatch z)) lf.pen r)
theorem LfAll.butI {H H' : Hp} {x C dx C' : Addr} (hx : H x = some (.ins C dx [])) (b : But x H H') : ∀ {vs : List V} {ls : List Lf}, LfAll C' H vs ls → LfAll C' H' vs ls
  | _, _, .nil => .nil
  | _, _, .cons h r => .cons (NL.butI hx b h) (LfAll.butI hx b r)
theorem allP_len : ∀ bk : List Lf, (allP bk).length = 2 * bk.length
  | [] => rfl
  | l :: r => by
    show ([(l.L, (0 : Int)), (l.L, 1)] ++ allP r).length = 2 * (r.length + 1)
    rw [List.length_append, allP_len r]
    show 2 + _ = _
    omega
def sideF (l : Lf) (s : Int) : Option Pg := if (if s = 1 then l.bk else l.fr) = [] then none else some (l.L, s)
theorem sideP_eq (l : Lf) : sideP l = [0, 1].filterMap (sideF l) := by
  unfold sideP sideF
  cases h1 : l.fr <;> cases h2 : l.bk <;> simp [h1, h2]
theorem shownP_snoc (bk : List Lf) (l : Lf) : shownP (bk ++ [l]) = shownP bk ++ sideP l := by
  unfold shownP
  rw [List.flatMap_append]
  simp
theorem shownP_len : ∀ bk : List Lf, (shownP bk).length ≤ 2 * bk.length
  | [] => Nat.le_refl _
  | l :: r => by
    show (sideP l ++ shownP r).length ≤ 2 * (r.length + 1)
    have := shownP_len r
    have h : (sideP l).length ≤ 2 := by
      rw [sideP_eq]
      exact List.length_filterMap_le ..
    rw [List.length_append]
    omega
theorem tru_tup {K : PySem.W.Frag} {H : Hp} {a : Addr} {xs : List V} (h : SqT K H a xs) : TruV K (.ref a) H (!xs.isEmpty) := .inr (.inl ⟨xs, h, rfl⟩)
theorem tru_lst {K : PySem.W.Frag} {H : Hp} {a : Addr} {xs : List V} (h : SqL K H a xs) : TruV K (.ref a) H (!xs.isEmpty) := .inl ⟨xs, h, rfl⟩
theorem sideF_none {l : Lf} {s : Int} (h : sideF l s = none) : (if s = 1 then l.bk else l.fr) = [] := by
  unfold sideF at h
  generalize (if s = 1 then l.bk else l.fr) = rs at h
  cases rs with
  | nil => rfl
  | cons u w => rw [if_neg (by simp)] at h; cases h
theorem sideF_some {l : Lf} {s : Int} {p : Pg} (h : sideF l s = some p) : (if s = 1 then l.bk else l.fr) ≠ [] ∧ p = (l.L, s) := by
  unfold sideF at h
  generalize (if s = 1 then l.bk else l.fr) = rs at h
  cases rs with
  | nil => rw [if_pos rfl] at h; cases h
  | cons u w => rw [if_neg (by simp)] at h; injection h with h; exact ⟨by simp, h.symm⟩
/-! ### a dict comprehension whose keys are tuples of ints and texts -/
section
variable {X : Cx} {D b : Addr} {kvs : List (List L2.Key × V)} {k : List L2.Key}
theorem put_tupkey {pins : List (Addr × Obj)} {σ : L2.St} {H : Hp} {s : Shared} {EE : Value → Shared → Prop} {v : V} {r : Value} {QQ : Unit → Shared → Prop} (hu : X.A.units + 1 < cLine) (I : Inv X pins σ H s) (hD : H D = some (.dT kvs)) (hb : H b = some (.tup (k.map kV)))
    (small : kvs.length < sizeLine) (rv : RelV v r) (go : ∀ s', Inv X pins σ (upd H D (.dT (putK kvs k v))) s' → QQ () s') : wpAny (model X.prog X.w) X.A (dictSet D (.ref b) r) QQ EE s := by
  obtain ⟨le, nsys, xs, rel, dd⟩ := dt_of I.hok hD
  have le2 : (putK kvs k v).length ≤ sizeLine := Nat.le_trans (length_putK kvs k v) small
  refine wpAny_dictSet_heap (knd := tupleKind (mixKind X.prog X.w)) (hsz := by rw [← Paired.length rel]; exact le) (show X.A.units < cLine by omega) (key_of I.hok hb) dd fun h' new only => go _ ?_
  obtain ⟨o, es, ep, at_, x1, x2, x3, _, x5⟩ := new
  refine d_write I (by rw [hD]; exact True.intro) only ⟨o, at_⟩ ⟨le2, nsys, _, (rel.put k hb rv).keeps fun c ys ec => ?_, o, es, ep, at_, x1, x2, x3, x5⟩
  exact (upd_ne (ne_of ec hD (by intro z; cases z))).trans ec
/-- {k: v for target in iter}: D the new dict -/
def tDcT (wi : TI) (g : TG) (tk tv : TE) (vs : List Nat) : TE := fun σ H Q => wi σ H fun J H1 => ∀ D, H1 D = Option.none → ∃ W : Nat → Nat → Hp → Prop, (∃ m, W 0 m (upd H1 D (.dT []))) ∧ ∀ i m H, W i m H →
  (J.stop i H ∧ Q (.ref D) H) ∨ (J.go i H ∧ ∃ Nx : Hp → Prop, (∀ H', Nx H' → ∃ m', m' < m ∧ W (i + 1) m' H') ∧ ∀ x H', J.yld i H x H' → g x (wipe σ vs) H' fun σ2 H2 => wipe σ2 vs = wipe σ vs ∧
    tk σ2 H2 fun y H4 => tv σ2 H4 fun z H5 => ∃ b kvs k, y = .ref b ∧ H5 D = some (.dT kvs) ∧ H5 b = some (.tup (k.map kV)) ∧ kvs.length < sizeLine ∧ Nx (upd H5 D (.dT (putK kvs k z))))
theorem pe_dcT {kx vx tg iter : Expr} {scope : Scope} {own : List (Str × Nat)} {pos : Pos} {wi : TI} {g : TG} {tk tv : TE} (hu : X.A.units + 1 < cLine) (hc : X.calm = true) (hN : X.N.Nodup) (hi : PI X tg iter wi) (ok : BlkOk X.N X.env.scope scope own)
    (hg : ∀ (s : Shared) (H : Hp) (C : Addr) (cl : List (Str × Addr)) (fp : List Addr), PG (X.blk s H scope (compEnvC scope cl C X.env) fp) tg g)
    (hk : ∀ (s : Shared) (H : Hp) (C : Addr) (cl : List (Str × Addr)) (fp : List Addr), PE (X.blk s H scope (compEnvC scope cl C X.env) fp) kx tk)
    (hv : ∀ (s : Shared) (H : Hp) (C : Addr) (cl : List (Str × Addr)) (fp : List Addr), PE (X.blk s H scope (compEnvC scope cl C X.env) fp) vx tv) (hs : ∀ x, foldedSetIterable iter X.env x = pure x := by intro _; rfl) :
    PE X (.DictComp kx vx [⟨tg, iter, [], 0⟩] scope pos) (tDcT wi g tk tv (own.map (·.2))) := by
  constructor
  intro pins s σ H Q I h
  rw [arm_eval_DictComp]
  have hfree : ∀ y ∈ scope.names, y.2 = .free → ∃ c, X.env.cells.lookup y.1 = some c := fun y hy e => (ok.free y hy e).elim (fun k => I.ok.has _ (.inl k)) (fun k => I.ok.has _ (.inr k))
  refine comprehension_at (use := Option.none) rfl hs (closure_ok hfree) ok.kind (fun y hy e => by rw [ok.uniq y hy, e]) (thn (hi.run pins s σ H _ I h) fun xv s1 hx => thn hx fun itv s2 h2 => ?_)
  obtain ⟨it, fp, tn, J, H2, rfl, I2, T, st2, f2, q⟩ := h2
  refine wpAny_newObj_type (newEnv_comp ?_)
  obtain ⟨D, hD⟩ : ∃ D, s2.heap.objs.size = D := ⟨_, rfl⟩
  obtain ⟨W, ⟨m0, w0⟩, turn⟩ := q D (I2.hok.fresh (Nat.le_of_eq hD))
  rw [hD]
  obtain ⟨s3, hs3⟩ : ∃ s3 : Shared, s3 = { s2 with heap := s2.heap.push { cls := .type "dict", data := .dict #[] } } := ⟨_, rfl⟩
  have h3 : s3.heap = s2.heap.push { cls := .type "dict", data := .dict #[] } := by rw [hs3]
  have I3 : Inv X pins σ (upd H2 D (.dT [])) s3 := by
    rw [hs3]
    refine I2.laid (t' := s2.toks) (fun b o e => Heap.get?_push_of_some _ e) (Nat.le_of_eq hD) ?_
    rw [← hD]
    exact dt_empty s2.heap I2.big
  have f3 : ∀ b ∈ fp, FpOk X pins (upd H2 D (.dT [])) b ∧ b < s3.heap.objs.size := fun b hb => by
    obtain ⟨o, e, _⟩ := T.obj _ _ st2 b hb
    have hlt := Heap.lt_size e
    refine ⟨⟨?_, (f2 b hb).2⟩, by rw [h3, Heap.size_push]; exact Nat.lt_succ_of_lt hlt⟩
    rw [upd_ne (by rw [← hD]; exact Nat.ne_of_lt hlt)]
    exact (f2 b hb).1
  have hch : ∀ b ∈ fp, (b ∈ X.ex ∨ X.s_0.heap.objs.size ≤ b) ∧ b ≠ X.env.locals ∧ (∀ x c, X.env.cells.lookup x = some c → c ≠ b) ∧ ∀ p ∈ X.pn ++ pins, p.1 ≠ b := fun b hb => ⟨(f3 b hb).1.2.2.2.1, (f3 b hb).1.2.1, (f3 b hb).1.2.2.2.2.1, (f3 b hb).1.2.2.2.2.2⟩
  have I4 := block_start I3 ok hN f3
  rw [← hs3]
  show codeAny _ _ (.compStart (.DictComp kx vx [⟨tg, iter, [], 0⟩] scope pos) 0 (.ref it) (.ref D) (compEnvC scope (cellsFrom (s3.heap.objs.size + 1) scope.names (cloFrom X.env.cells scope.names [])) s3.heap.objs.size X.env)) (compEnds (model X.prog X.w) X.A X.xe Option.none (EP X pins σ Q) (.ref D) (compEnvC scope (cellsFrom (s3.heap.objs.size + 1) scope.names (cloFrom X.env.cells scope.names [])) s3.heap.objs.size X.env)) { s3 with heap := pushCells (s3.heap.push { cls := .type "dict", data := .dict #[] }) scope.names }
  have pg := hg s3 (upd H2 D (.dT [])) s3.heap.objs.size (cellsFrom (s3.heap.objs.size + 1) scope.names (cloFrom X.env.cells scope.names [])) fp
  have pk := hk s3 (upd H2 D (.dT [])) s3.heap.objs.size (cellsFrom (s3.heap.objs.size + 1) scope.names (cloFrom X.env.cells scope.names [])) fp
  have pv := hv s3 (upd H2 D (.dT [])) s3.heap.objs.size (cellsFrom (s3.heap.objs.size + 1) scope.names (cloFrom X.env.cells scope.names [])) fp
  obtain ⟨ce, hce⟩ : ∃ ce, ce = compEnvC scope (cellsFrom (s3.heap.objs.size + 1) scope.names (cloFrom X.env.cells scope.names [])) s3.heap.objs.size X.env := ⟨_, rfl⟩
  have cL : ce.locals = s3.heap.objs.size := by rw [hce]; rfl
  rw [← hce] at I4 pg pk pv ⊢
  have nfp : ∀ b ∈ fp, (upd H2 D (.dT [])) b = Option.none := fun b hb => (f3 b hb).1.1
  have st4 : tn 0 (pushCells (s3.heap.push { cls := .type "dict", data := .dict #[] }) scope.names) := T.keep _ _ _ st2 fun b _ o e => pushCells_keeps _ _ _ _ (Heap.get?_push_of_some _ (by rw [h3]; exact Heap.get?_push_of_some _ e))
  generalize upd H2 D (.dT []) = H3 at I3 I4 pg pk pv w0 nfp f3
  have stat : ∀ {σ' : L2.St} {H' : Hp} {s' : Shared}, Inv (X.blk s3 H3 scope ce fp) [] σ' H' s' → (∀ b ∈ fp, H' b = Option.none) → ∀ b ∈ fp, FpOk (X.blk s3 H3 scope ce fp) [] H' b := fun {σ' H' s'} I' hn b hb =>
    ⟨hn b hb, (I'.ok.exf b hb).1, I'.ok.exfs b hb, .inl hb, fun x c e => (I'.ok.exf b hb).2 x c e, fun p hp => absurd (show p ∈ ([] : List (Addr × Obj)) ++ [] from hp) (by simp)⟩
  have loop : ∀ s4 : Shared, Inv (X.blk s3 H3 scope ce fp) [] (wipe σ (own.map (·.2))) H3 s4 → tn 0 s4.heap → codeAny (model X.prog X.w) X.A (.compLoop (.DictComp kx vx [⟨tg, iter, [], 0⟩] scope pos) 0 (.ref it) (.ref D) ce) (compEnds (model X.prog X.w) X.A X.xe Option.none (EP X pins σ Q) (.ref D) ce) s4 := by
    intro s4 I4 st4
    refine compLoop_anyD (fun n s' => ∃ i H', Inv (X.blk s3 H3 scope ce fp) [] (wipe σ (own.map (·.2))) H' s' ∧ tn i s'.heap ∧ (∀ b ∈ fp, H' b = Option.none) ∧ W i n H') ?_ m0 ⟨0, H3, I4, st4, nfp, w0⟩
    rintro n s5 ⟨i, H5, I5, st5, n5, w5⟩
    rcases turn i n H5 w5 with ⟨stop, qq⟩ | ⟨go, Nx, hNx, step⟩
    · refine thnF (T.done (X.blk s3 H3 scope ce fp) rfl rfl rfl hc i [] s5 _ H5 (fun _ _ => False) I5 (stat I5 n5) st5 stop) fun r s6 ⟨hr, I6⟩ => ?_
      subst hr
      have I7 : Inv X pins σ H5 s6 := I3.call' (ch := fp) I6.os I6.base I6.hok I6.bare hch
      have nC : H5 ce.locals = Option.none := I6.free
      obtain ⟨m, hn, _⟩ := I6.loc
      have f : FpOk X pins H5 ce.locals := by rw [cL] at nC ⊢; exact I3.fpOk (Nat.le_refl _) nC
      refine ⟨m, hn, fun h'' sb => ?_⟩
      obtain ⟨f0, f1, f2, f3, f4, f5⟩ := f
      exact ⟨.ref D, H5, I7.turned (t' := s6.toks) (fun b o hb e => (sb.2 b hb).trans e) f0 f1 f3 f4 f5, rfl, qq⟩
    · refine thnF (T.item (X.blk s3 H3 scope ce fp) rfl rfl rfl hc i [] s5 _ H5 (fun _ _ => False) I5 (stat I5 n5) st5 go) fun r s6 ⟨u, hr, h6⟩ => ?_
      subst hr
      refine thnF h6 fun _ s7 ⟨x, H7, I7, r7, y7, st7, n7⟩ => ?_
      refine thnF (pg.run _ s7 _ H7 x u _ (I7.pinned (stat I7 n7) (T.obj _ _ st7)) r7 (step x H7 y7)) fun _ s8 ⟨σ8, H8, I8, hw8, q8⟩ => ?_
      refine wpAny_tests_nil ?_
      have fin : ∀ {s' : Shared} {H' : Hp}, Inv (X.blk s3 H3 scope ce fp) ([] ++ pinsAt fp s7.heap) σ8 H' s' → Nx H' → ∃ m, m < n ∧ ∃ i H', Inv (X.blk s3 H3 scope ce fp) [] (wipe σ (own.map (·.2))) H' s' ∧ tn i s'.heap ∧ (∀ b ∈ fp, H' b = Option.none) ∧ W i m H' := fun {s' H'} I' nx => by
        obtain ⟨m', hm, w'⟩ := hNx H' nx
        have pin' : ∀ b ∈ fp, ∀ o, s7.heap.get? b = some o → s'.heap.get? b = some o ∧ H' b = Option.none := fun b hb o e =>
          let z := I'.pin (b, o) (List.mem_append_right _ (List.mem_append_right _ (mem_pinsAt hb e)))
          ⟨z.1, z.2.1⟩
        refine ⟨m', hm, i + 1, H', (I'.unpinned (pins := [])).weak (by rw [← hw8, wipe_length]) (fun j v e => ?_), T.keep _ _ _ st7 fun b hb o e => (pin' b hb o e).1, fun b hb => ?_, w'⟩
        · rw [← hw8] at e
          exact (wipe_some e).1
        · obtain ⟨o, e, _⟩ := T.obj _ _ st7 b hb
          exact (pin' b hb o e).2
      rw [if_pos rfl]
      refine thnF (pk.run _ s8 σ8 H8 _ I8 q8) fun z s10 ⟨yk, H10, I10, r10, q10⟩ => ?_
      refine thnF (pv.run _ s10 σ8 H10 _ I10 q10) fun z2 s11 ⟨yv, H11, I11, r11, b, kvs, k, ek, hD11, hb11, hz11, nx⟩ => ?_
      subst ek
      cases r10
      exact put_tupkey (X := X.blk s3 H3 scope ce fp) hu I11 hD11 hb11 hz11 r11 fun s12 I12 => fin I12 nx
  exact codeAny_compStart_dict (loop _ I4 st4) (T.self X.A 0 _ _ _ st4 (loop _ I4 st4))
end
/-! ### enumerate(t), t a tuple -/
section
variable {prog : Program} {w : World} {A : Around} {EE : Value → Shared → Prop} {s : Shared}
theorem meets_enum1 {v : Value} {o : Obj} {HH : Heap → Prop} (B : Begins v o HH) :
    Meets (Builtin.«enumerate.__new__» ⟨[.type "enumerate", v], []⟩) (fun _ R s => HH s.heap ∧
      R (.ok (.ret (.ref (s.heap.push o).objs.size))) { s with heap := (s.heap.push o).push { cls := .type "enumerate", data := .fields #[.none, .bool false, .ref s.heap.objs.size, rawInt 0, .none, .none] } }) :=
  .of_wp fun prog w A R s h => by
    obtain ⟨hp, g, d, tk, os⟩ := s
    obtain ⟨h1, h⟩ := h
    have hsub := sub_enumerate
    have begins : ∀ {A' : Around} {E : Value → Shared → Prop} {Q : Value → Shared → Prop}, Q (.ref hp.objs.size) ⟨hp.push o, g, d, tk, os⟩ → wpAny (model prog w) A' (pyIter v) Q E ⟨hp, g, d, tk, os⟩ := fun q => B.iter prog w _ _ ⟨hp, g, d, tk, os⟩ _ h1 q
    wp_walk using begins
    refine wpAny_stack_any fun st => wpAny_pure ?_
    split
    · rename_i c _ _ _ _ _
      cases (c == Value.type "enumerate") <;> (wp_walk using begins; exact ⟨_, rfl, h⟩)
    · wp_walk using begins
      exact ⟨_, rfl, h⟩
theorem call_enum1 {v : Value} {o : Obj} {HH : Heap → Prop} {QQ : Value → Shared → Prop} (B : Begins v o HH) (h1 : HH s.heap)
    (h : ∀ h', IsEnum h' (s.heap.objs.size + 1) s.heap.objs.size 0 .none → h'.get? s.heap.objs.size = some o → (∀ b u, s.heap.get? b = some u → h'.get? b = some u) → QQ (.ref (s.heap.objs.size + 1)) { s with heap := h' }) :
    wpAny (model prog w) A (call (.type "enumerate") [v]) QQ EE s := by
  refine callType_new F.called_enumerate (by decide) (F.typeCall_enumerate_1 _) (F.newCall_enumerate_1 _) (fun obj => F.args_object_init_2 obj _) F.entry_enumerate_new (meets_enum1 B) ⟨h1, ?_⟩
  have hz : (s.heap.push o).objs.size = s.heap.objs.size + 1 := Heap.size_push ..
  show _ ∧ _
  rw [hz]
  have at_ := Heap.get?_push_size (s.heap.push o) (o := { cls := .type "enumerate", data := .fields #[.none, .bool false, .ref s.heap.objs.size, rawInt 0, .none, .none] }) rfl
  rw [hz] at at_
  exact ⟨⟨_, at_, rfl⟩, h _ at_ (Heap.get?_push_of_some _ (Heap.get?_push_size _ B.free)) fun b u x => Heap.get?_push_of_some _ (Heap.get?_push_of_some _ x)⟩
end
def IteT (K : PySem.W.Frag) (a : Addr) : It :=
  ⟨fun i H => ∃ (xs : List V) (x : V), SqT K H a xs ∧ xs[i]? = some x, fun i H v H' => ∃ T x, v = .ref T ∧ H T = Option.none ∧ H' = upd H T (.tup [.int (i : Nat), x]) ∧ ∀ xs, SqT K H a xs → xs[i]? = some x, fun i H => ∃ xs : List V, SqT K H a xs ∧ xs.length = i⟩
theorem turn_enumT {P : Program} {w : World} {K : PySem.W.Frag} {elts : List Expr} {kk : Nat} {tpos : Pos} (a e it : Addr) :
    Turn P w K (.Tuple elts kk tpos) (IteT K a) [e, it] e (fun i h => (∃ old, IsEnum h e it ((i : Nat) : Int) old) ∧ h.IsTupleIter it a i ∧ e ≠ it) where
  mem := by simp
  obj := fun i h st b hb => by
    obtain ⟨⟨old, he⟩, ⟨o, ho, hc, hd⟩, _⟩ := st
    rcases List.mem_cons.mp hb with z | z
    · rw [z]; exact ⟨_, he, fun v q => nomatch q⟩
    · rw [List.mem_singleton.mp z]; exact ⟨o, ho, fun v q => by rw [hd] at q; cases q⟩
  keep := fun i h h' st k => let ⟨⟨old, he⟩, hi, hne⟩ := st; ⟨⟨old, k e (by simp) _ he⟩, hi.at fun o q => k it (by simp) o q, hne⟩
  item := by
    intro X hP hw hK hc i pins s σ H E I hf st hg
    subst hP hw hK
    obtain ⟨⟨old, he⟩, hit, hne⟩ := st
    obtain ⟨xs, x, hq, hx⟩ := hg
    obtain ⟨its, rv, p, hz⟩ := I.tuple hq
    obtain ⟨u, hu, ru⟩ := rv.get hx
    have tup : s.heap.IsTuple a its.toArray := p
    obtain ⟨oa, hoa, hca, na, hda⟩ := id tup
    obtain ⟨oi, hoi, hci, hdi⟩ := id hit
    have ea : a ≠ e := fun z => by rw [z, he] at hoa; cases hoa; exact absurd hca (show ¬ (Value.type "enumerate" = Value.type "tuple") by decide)
    have ia : a ≠ it := fun z => by
      rw [z, hoi] at hoa; cases hoa
      rw [hci] at hca; exact absurd hca (by decide)
    have hel : e < s.heap.objs.size := Heap.lt_size he
    have hil : it < s.heap.objs.size := Heap.lt_size hoi
    have hlt : i < its.toArray.size := by
      rw [List.size_toArray, ← rv.length]
      exact (List.getElem?_eq_some_iff.mp hx).1
    refine wpAny_pyNext_enum_itemC (Draws.tuple (A := X.A.in1) (show X.A.in1.handled = none from I.ok.hd hc) it a ia its.toArray) he ⟨hit, tup⟩ hlt hne (by simp [hne, Ne.symm ea]) fun u2 h' tk hP2 ho st' hT hsz hk => ?_
    have eu : u2 = u := by
      have z : its.toArray[i]? = some u2 := hP2
      rw [List.getElem?_toArray, hu] at z
      exact (Option.some.inj z).symm
    subst eu
    refine ⟨_, rfl, wpAny_letOwnedTupleGo_enum (s := { s with heap := h', toks := tk + 1 }) ho fun h'' he' sb => ?_⟩
    have hT2 : h''.get? s.heap.objs.size = some { cls := .type "tuple", data := .seq #[.int i tk, u2] } := (sb.2 _ (Nat.ne_of_gt hel)).trans hT
    have new : ObjOk X.prog X.w (upd H s.heap.objs.size (.tup [.int (i : Nat), x])) h'' s.heap.objs.size (.tup [.int (i : Nat), x]) :=
      ⟨by show 2 ≤ sizeLine; decide, [.int i tk, u2], .cons ⟨_, rfl⟩ (.cons ru .nil), ⟨_, hT2, rfl, _, rfl⟩⟩
    have I1 : Inv X pins σ (upd H s.heap.objs.size (.tup [.int (i : Nat), x])) { s with heap := h'', toks := tk + 1 } :=
      I.turnedNew (ch := [e, it]) (fun b ob hb q => (sb.2 b (fun z => hb (by simp [z]))).trans (hk b ob (fun z => hb (by simp [z])) (fun z => hb (by simp [z])) q)) hf (Nat.le_refl _) new
    refine ⟨.ref s.heap.objs.size, _, I1, rfl, ⟨_, x, rfl, I.hok.fresh (Nat.le_refl _), rfl, fun ys hy => by rw [I.tuple_inj hy hq]; exact hx⟩, ⟨⟨u2, ?_⟩, st'.1.at fun o q => (sb.2 it (Ne.symm hne)).trans q, hne⟩, fun b hb => ?_⟩
    · have e1 : ((i + 1 : Nat) : Int) = (i : Int) + 1 := by omega
      rw [e1]; exact he'
    · have hb' : b < s.heap.objs.size := by
        rcases List.mem_cons.mp hb with z | z
        · rw [z]; exact hel
        · rw [List.mem_singleton.mp z]; exact hil
      rw [upd_ne (Nat.ne_of_lt hb')]
      exact (hf b hb).1
  done := by
    intro X hP hw hK hc i pins s σ H E I hf st hg
    subst hP hw hK
    obtain ⟨⟨old, he⟩, hit, hne⟩ := st
    obtain ⟨xs, hq, hx⟩ := hg
    obtain ⟨its, rv, p, hz⟩ := I.tuple hq
    obtain ⟨f0, f1, f2, f3, f4, f5⟩ := hf it (by simp)
    have tup : s.heap.IsTuple a its.toArray := p
    obtain ⟨oa, hoa, hca, na, hda⟩ := id tup
    obtain ⟨oi, hoi, hci, hdi⟩ := id hit
    have ia : a ≠ it := fun z => by
      rw [z, hoi] at hoa; cases hoa
      rw [hci] at hca; exact absurd hca (by decide)
    have ez : its.toArray.size = i := by rw [List.size_toArray, ← rv.length]; exact hx
    refine wpAny_pyNext_enum_endD (Draws.tuple (A := X.A.in1) (show X.A.in1.handled = none from I.ok.hd hc) it a ia its.toArray) he (by rw [ez]; exact ⟨hit, tup⟩) fun h' eb => ⟨rfl, I.turned (t' := s.toks) (fun b o hb q => eb b o hb q) f0 f1 f3 f4 f5⟩
  self := fun A i s Q E st h => let ⟨⟨_, he⟩, _⟩ := st; wpAny_pyIter_enum he h
def iEnumT (K : PySem.W.Frag) (ta : TA) : TI := fun σ H R => ta σ H fun vs H1 => ∃ a xs, vs = [.ref a] ∧ SqT K H1 a xs ∧ R (IteT K a) H1
theorem pi_enumT {X : Cx} {e : Expr} {ta : TA} {p pos tpos : Pos} {elts : List Expr} {kk : Nat} (hg : Gl X "enumerate") (hm : X.mg "enumerate" = Option.none) (ha : PA X [e] ta) (hs : starEach [e] X.env = [(false, eval e X.env)] := by rfl) :
    PI X (.Tuple elts kk tpos) (.Call (.Name "enumerate" p) [e] [] pos) (iEnumT X.K ta) := by
  constructor
  intro pins s σ H R I h
  refine Call_ (ld_blt I hg hm boot_enumerate (PyProof.Rows.callWith_type1 (thn (ha.run pos pins s σ H _ I h) fun us s1 ⟨vs, H1, I1, r1, a, xs, ex, hq, q⟩ => ?_) hs rfl))
  subst ex
  obtain ⟨u, rfl, ru⟩ := vals1 r1
  cases ru
  obtain ⟨its, rv, p', hz⟩ := I1.tuple hq
  refine call_enum1 (begins_tuple a its.toArray) (show s1.heap.IsTuple a its.toArray from p') fun h' he hit hk => wpAny_pyIter_enum he ?_
  have I2 : Inv X pins σ H1 { s1 with heap := h' } := I1.kept (t' := s1.toks) hk
  refine ⟨s1.heap.objs.size + 1, [s1.heap.objs.size + 1, s1.heap.objs.size], _, _, H1, rfl, I2, turn_enumT a (s1.heap.objs.size + 1) s1.heap.objs.size, ⟨⟨.none, he⟩, ⟨_, hit, rfl, rfl⟩, Nat.succ_ne_self _⟩, fun b hb => ?_, q⟩
  have hle : s1.heap.objs.size ≤ b := by
    rcases List.mem_cons.mp hb with z | z
    · rw [z]; exact Nat.le_add_right _ _
    · rw [List.mem_singleton.mp z]; exact Nat.le_refl _
  exact I1.fpOk hle (I1.hok.fresh hle)
theorem walk_enumT {K : PySem.W.Frag} {a : Addr} {xs : List V} : Walk (IteT K a) xs.length (fun H => SqT K H a xs) (YPair (fun i => some (.int (i : Nat))) (fun i => xs[i]?)) := by
  refine ⟨fun i _ hi q => ⟨xs, xs[i], q, by simp [hi]⟩, fun _ q => ⟨xs, q, rfl⟩, fun i H v H' _ q y => ?_⟩
  obtain ⟨T, x, h1, h2, h3, h4⟩ := y
  exact ⟨T, .int (i : Nat), x, h1, h2, h3, rfl, h4 xs q⟩
/-- a dict comprehension over a walk -/
theorem dc_it {J : It} {n : Nat} {G : Hp → Prop} {Y : Nat → Hp → V → Hp → Prop} (w : Walk J n G Y) {g : TG} {tk tv : TE} {vs : List Nat} {σ : L2.St} {H1 : Hp} {D : Addr} {Qd : Hp → Prop} (Pv : Nat → Hp → Prop) (h0 : Pv 0 (upd H1 D (.dT []))) (hG : ∀ i H, i ≤ n → Pv i H → G H)
    (hs : ∀ i x H H', i < n → Pv i H → Y i H x H' → g x (wipe σ vs) H' fun σ2 H2 => wipe σ2 vs = wipe σ vs ∧ tk σ2 H2 fun y H4 => tv σ2 H4 fun z H5 => ∃ b kvs k, y = .ref b ∧ H5 D = some (.dT kvs) ∧ H5 b = some (.tup (k.map kV)) ∧ kvs.length < sizeLine ∧ Pv (i + 1) (upd H5 D (.dT (putK kvs k z)))) (hd : ∀ H, Pv n H → Qd H) :
    ∃ W : Nat → Nat → Hp → Prop, (∃ m, W 0 m (upd H1 D (.dT []))) ∧ ∀ i m H, W i m H →
      (J.stop i H ∧ Qd H) ∨ (J.go i H ∧ ∃ Nx : Hp → Prop, (∀ H', Nx H' → ∃ m', m' < m ∧ W (i + 1) m' H') ∧ ∀ x H', J.yld i H x H' → g x (wipe σ vs) H' fun σ2 H2 => wipe σ2 vs = wipe σ vs ∧
        tk σ2 H2 fun y H4 => tv σ2 H4 fun z H5 => ∃ b kvs k, y = .ref b ∧ H5 D = some (.dT kvs) ∧ H5 b = some (.tup (k.map kV)) ∧ kvs.length < sizeLine ∧ Nx (upd H5 D (.dT (putK kvs k z)))) := by
  refine ⟨fun i m H => m = n - i ∧ i ≤ n ∧ Pv i H, ⟨n, by simp, Nat.zero_le _, h0⟩, ?_⟩
  rintro i m H ⟨rfl, hi, p⟩
  have q := hG i H hi p
  by_cases hlt : i < n
  · exact .inr ⟨w.goes i H hlt q, Pv (i + 1), fun H' p' => ⟨n - (i + 1), by omega, rfl, hlt, p'⟩, fun x H' y => hs i x H H' hlt p (w.yields i H x H' hlt q y)⟩
  · have e : i = n := by omega
    subst e
    exact .inl ⟨w.stops H q, hd H p⟩
/-! ### a def that gives a tuple's iterator; a for over an object whose class has it as __iter__ -/
structure InOk (P : Program) (w : World) (K : PySem.W.Frag) (mg : Str → Option Value) (base : Heap) (k : Nat) (f : Addr) (fd : FuncData) (ps : List Str) (sp : Nat → Sp) : Prop where
  size : ∀ n vs H Q E, sp n vs H Q E → vs.length = ps.length
  go : ∀ (A : Around) (outer : List Env) (s : Shared) (H : Hp) (args : Args) (us : List Value) (vs : List V) (Q : VK) (E : XK), Room k A → Env0 P w K mg base A outer s H →
    BindsTo s fd args (ps.zip us) → Vals vs us → sp s.heap.objs.size vs H Q E → codeAny (model P w) A (.call (.ref f) args) (CR CX0 outer P w H s Q E) s
section
variable {P : Program} {w : World} {K : PySem.W.Frag} {mg : Str → Option Value} {base : Heap}
theorem in_ok {k : Nat} {x qual : Str} {st : Stmt} {f : Addr} {fd : FuncData} {N ps : List Str} {sp : Nat → Sp} (F : Fun K x qual st f fd) (S : FnScope N ps (defScope st)) (len : ∀ n vs H Q E, sp n vs H Q E → vs.length = ps.length)
    (body : ∀ (cdv : Value) (A : Around) (outer : List Env) (s : Shared) (H : Hp) (vs : List V) (Q : VK) (E : XK), Room k (A.deeper (envOfC qual (defScope st) s.heap.objs.size f cdv)) → sp s.heap.objs.size vs H Q E →
      ∃ t, PSs (cxOf CX0 P w K mg base N qual (defScope st) f cdv A outer s H E).nox (defBody st) t ∧ t { nx := fun _ H' => Q .non H', rt := Q } (start N vs) H) : InOk P w K mg base (k + 1) f fd ps sp := by
  obtain ⟨oc, od, kV, doc, pm, an, cdv, ct, osl, rfl, lk, hcd⟩ := F.ex
  constructor
  · exact len
  intro A outer s H args us vs Q E hr env0 bind rel hsp
  have up := env0.bs
  have KX : K.In s.heap := env0.mod.kin.keeps (fun b o e => (up b o e).1)
  refine codeAny_call_function (hroom := hr.depth) (KX _ _ lk) rfl S.co S.gen rfl (PySem.W.codeRec_of KX hcd) (bind _ _ _ _ ?_)
  have kinds : ∀ y ∈ ps.zip us, (defScope st).names.lookup y.1 = some .local ∨
      ((defScope st).names.lookup y.1 = some .cell ∧ ((cellsFrom (s.heap.objs.size + 1) (defScope st).names []).lookup y.1).isSome = true) := by
    rintro ⟨n, v⟩ hy
    exact (S.par n (List.of_mem_zip hy).1).elim .inl (fun q => .inr ⟨q, PySem.W.cellsFrom_some _ _ _ (.inl q)⟩)
  refine wpAny_newFunctionEnv_cells S.kind kinds (fun env he s1 fresh => ?_)
  subst he
  refine ⟨(env0.mod.nolimit.keeps (fun b o e => (up b o e).1)).keeps fresh.toInCall.keep, codeAny_func ?_⟩
  obtain ⟨t, walk, want⟩ := body cdv A outer s H vs Q E (hr.deeper _) hsp
  have J := inv_start (CX := CX0) (E := E) S hr.hd env0 (len _ _ _ _ _ hsp) rel fresh
  refine wpAny_mono (walk.nox.run [] s1 (start N vs) H _ J want) ?_ (fun _ _ z => z)
  rintro (_ | _ | _ | u) s2 h
  · obtain ⟨σ2, H2, J2, q⟩ := h
    exact ⟨.non, H2, J2.os, J2.bare, J2.base, J2.hok, rfl, q⟩
  · obtain ⟨_, _, _, q⟩ := h
    exact q.elim
  · obtain ⟨_, _, _, q⟩ := h
    exact q.elim
  · obtain ⟨v, σ2, H2, J2, r, q⟩ := h
    exact ⟨v, H2, J2.os, J2.bare, J2.base, J2.hok, r, q⟩
end
/-- at it a tuple's iterator, i items taken -/
def ItT (t it : Addr) (i : Nat) : HO := .ext fun h => h.IsTupleIter it t i
section
variable {X : Cx}
theorem itT_ok {P : Program} {w : World} {H : Hp} {h : Heap} {t it : Addr} {i : Nat} (e : h.IsTupleIter it t i) : ObjOk P w H h it (ItT t it i) := ⟨e, e.elim fun o q => ⟨o, q.1⟩, fun _ _ q k => q.elim fun o z => ⟨o, k _ z.1, z.2⟩⟩
def rIterT (K : PySem.W.Frag) (n : Nat) : List V → Hp → VK → Prop := fun xs H Q => ∃ (l : Addr) (zs : List V), xs = [.ref l] ∧ SqT K H l zs ∧ ∀ it, H it = Option.none → n ≤ it → Q (.ref it) (upd H it (ItT l it 0))
theorem wp_iter_tup {prog : Program} {w : World} {A : Around} {EE : Value → Shared → Prop} {s : Shared} {l : Addr} {items : Array Value} {QQ : Value → Shared → Prop} (hl : s.heap.IsTuple l items)
    (h : QQ (.ref s.heap.objs.size) { s with heap := s.heap.push { cls := .type "tuple_iterator", data := .fields #[.ref l, .int 0 0] } }) : wpAny (model prog w) A (call (.builtin "iter") [.ref l]) QQ EE s := by
  refine Calls.call_function_entry (by decide +kernel) (by decide +kernel) PySem.W.kdk_entry_iter (PySem.W.kdk_args_iter _) ?_
  unfold Builtin.«iter»
  refine wpAny_bind (m := someArgs "iter" 1 2 _) (wpAny_of_eq (a := [Value.ref l]) (by first | rfl | kernel_rfl!) ?_)
  exact wpAny_bind (wpAny_pyIter_tuple hl (wpAny_pure ⟨_, rfl, h⟩))
/-- iter(t) -/
theorem call_iterT : CallR X (.builtin "iter") (rIterT X.K X.s_0.heap.objs.size) := by
  intro pins s σ H xs us Q I r h
  obtain ⟨l, zs, rfl, hq, q⟩ := h
  obtain ⟨u, rfl, ru⟩ := vals1 r
  cases ru
  obtain ⟨its, rv, pl, hz⟩ := I.tuple hq
  refine wp_iter_tup (show s.heap.IsTuple l its.toArray from pl) ?_
  exact ⟨.ref s.heap.objs.size, _, I.laid (t' := s.toks) (fun b u e => Heap.get?_push_of_some _ e) (Nat.le_refl _) (itT_ok ⟨_, Heap.get?_push_size _ rfl, rfl, rfl⟩), rfl, q _ (I.hok.fresh (Nat.le_refl _)) I.sz⟩
/-- what such an __iter__ promises: an iterator of the tuple at the attribute nm -/
def spIter (K : PySem.W.Frag) (C : Addr) (nm : Str) (n : Nat) : Sp := fun vs H Q _ => ∃ (b dx l : Addr) (fs : List (Str × V)) (zs : List V), vs = [.ref b] ∧ H b = some (.ins C dx fs) ∧ fs.lookup nm = some (.ref l) ∧ SqT K H l zs ∧
  ∀ it, H it = Option.none → n ≤ it → Q (.ref it) (upd H it (ItT l it 0))
def iOwnI (K : PySem.W.Frag) (C : Addr) (nm : Str) (tl : TE) : TI := fun σ H R => tl σ H fun x H1 => ∃ (b dx l : Addr) (fs : List (Str × V)) (zs : List V), x = .ref b ∧ H1 b = some (.ins C dx fs) ∧ fs.lookup nm = some (.ref l) ∧ SqT K H1 l zs ∧ R (Itt K l) H1
theorem pi_ownI {C f : Addr} {fd : FuncData} {ps : List Str} {k : Nat} {nm : Str} {tg l : Expr} {tl : TE} (F : InOk X.prog X.w X.K X.mg X.base k f fd ps (spIter X.K C nm)) (hs : PySem.W.findIn X.K (.ref C) "__iter__" = some (some (.ref f))) (hf : PySem.W.isFn X.K (.ref f) = true)
    (hb : Binds X.K fd ps []) (hr : Room k X.A) (hl : PE X l tl) : PI X tg l (iOwnI X.K C nm tl) := by
  constructor
  intro pins s σ H R I h
  refine thn (hl.run pins s σ H _ I h) fun v s1 ⟨x, H1, I1, r1, b, dx, l, fs, zs, e, hb1, hf1, hz, q⟩ => ?_
  subst e
  cases r1
  obtain ⟨mA, J, _⟩ := ins_get I1.hok hb1
  obtain ⟨od, J, _⟩ := J.look
  obtain ⟨m, hF⟩ := I1.fr
  refine PySem.W.owit_iter hF I1.ok.mod.kin J hs hf ?_
  have hsp : spIter X.K C nm s1.heap.objs.size [.ref b] H1 (fun v H' => ∃ it, v = .ref it ∧ H1 it = Option.none ∧ s1.heap.objs.size ≤ it ∧ H' = upd H1 it (ItT l it 0)) E0 := ⟨b, dx, l, fs, zs, rfl, hb1, hf1, hz, fun it n1 n2 => ⟨it, rfl, n1, n2, rfl⟩⟩
  have len := F.size _ _ _ _ _ hsp
  refine wpAny_call (codeAny_mono (F.go X.A X.stack s1 H1 ⟨[.ref b], []⟩ [.ref b] [.ref b] _ E0 hr I1.env0 (by simpa using hb s1 [.ref b] I1.kIn (by simpa using len)) (.cons rfl .nil) hsp) fun r s' hq => ?_)
  rcases r with er | _ | _ | _ | u
  · exact False.elim hq
  · exact False.elim hq
  · exact False.elim hq
  · exact False.elim hq
  obtain ⟨v, H', I', rv, it, rfl, n1, n2, rfl⟩ := I1.after hq
  cases rv
  have st : s'.heap.IsTupleIter it l 0 := (I'.hok it _ upd_same).1
  unfold PySem.W.OwitIt
  refine wpAny_specialOf st.typeIs PySem.F.slot_tuple_iterator_next.lookup ?_
  have D := ItX.inv_drop I' (φ := fun h => h.IsTupleIter it l 0) upd_same
  have fp := ItX.inv_fp I' (u := ItT l it 0) upd_same (Nat.le_trans I1.sz n2)
  rw [ItX.dropH_upd n1] at D fp
  exact ⟨it, [it], _, _, H1, rfl, D, turn_tuple l it, st, fun b hb => by rw [List.mem_singleton.mp hb]; exact fp, q⟩
end
/-! ### what is told -/
def isR (bk : List Lf) (r : Pg × Pg) : Bool := decide (r.1 ∈ allP bk) && (decide (r.2 ∈ allP bk) && leP r.1 r.2)
def isG (bk : List Lf) (r : Pg × Pg) : Bool := decide (r.1 ∈ allP bk) && decide (r.2 ∈ allP bk)
def inR (p : Pg) (r : Pg × Pg) : Bool := leP r.1 p && leP p r.2
def toldP (bk : List Lf) (ps : List (Pg × Pg)) : List Pg := (shownP bk).filter fun p => (ps.filter (isR bk)).any (inR p)
def dueP (bk : List Lf) (ps : List (Pg × Pg)) : List Pg := (shownP bk).filter fun p => (ps.filter (isG bk)).any (inR p)
theorem told_due (bk : List Lf) (ps : List (Pg × Pg)) : toldP bk ps = dueP bk ps := by
  unfold toldP dueP
  refine List.filter_congr fun p _ => ?_
  rw [Bool.eq_iff_iff, List.any_eq_true, List.any_eq_true]
  constructor
  · rintro ⟨r, hr, h⟩
    obtain ⟨h1, h2⟩ := List.mem_filter.mp hr
    refine ⟨r, List.mem_filter.mpr ⟨h1, ?_⟩, h⟩
    unfold isR at h2
    unfold isG
    simp only [Bool.and_eq_true] at h2 ⊢
    exact ⟨h2.1, h2.2.1⟩
  · rintro ⟨r, hr, h⟩
    obtain ⟨h1, h2⟩ := List.mem_filter.mp hr
    refine ⟨r, List.mem_filter.mpr ⟨h1, ?_⟩, h⟩
    unfold isG at h2
    unfold isR
    unfold inR at h
    simp only [Bool.and_eq_true] at h2 h ⊢
    exact ⟨h2.1, h2.2, leP_trans h.1 h.2⟩
/-- a page as it is kept -/
def keptPD (d : PyData) : Option Pg := match items d with
  | some [x, y] => if wI 0 1 y = true then (match keptD x with | some L => some (L, toI y) | none => none) else none
  | _ => none
/-- a row of two things that are kept as pages -/
def RowAt (K : PySem.W.Frag) (H : Hp) (v : V) (r : Pg × Pg) : Prop := ∃ (a : Addr) (x y : V) (dx dy : PyData), v = .ref a ∧ Seq K H a [x, y] ∧ Dp K H x dx ∧ Dp K H y dy ∧ keptPD dx = some r.1 ∧ keptPD dy = some r.2
theorem RowAt.same {K : PySem.W.Frag} {H H' : Hp} {v : V} {r : Pg × Pg} (m : Same H H') (h : RowAt K H v r) : RowAt K H' v r := by
  obtain ⟨a, x, y, dx, dy, e, h1, h2, h3, h4, h5⟩ := h
  exact ⟨a, x, y, dx, dy, e, same_sq m h1, dp_same m h2, dp_same m h3, h4, h5⟩
inductive RowAll (K : PySem.W.Frag) (H : Hp) : List V → List (Pg × Pg) → Prop
  | nil : RowAll K H [] []
  | cons {v : V} {vs : List V} {r : Pg × Pg} {rs : List (Pg × Pg)} (h : RowAt K H v r) (t : RowAll K H vs rs) : RowAll K H (v :: vs) (r :: rs)
theorem RowAll.same {K : PySem.W.Frag} {H H' : Hp} (m : Same H H') : ∀ {vs : List V} {rs : List (Pg × Pg)}, RowAll K H vs rs → RowAll K H' vs rs
  | _, _, .nil => .nil
  | _, _, .cons h r => .cons (h.same m) (RowAll.same m r)
theorem RowAll.len {K : PySem.W.Frag} {H : Hp} : ∀ {vs : List V} {rs : List (Pg × Pg)}, RowAll K H vs rs → vs.length = rs.length
  | _, _, .nil => rfl
  | _, _, .cons _ r => congrArg (· + 1) (RowAll.len r)
theorem RowAll.get {K : PySem.W.Frag} {H : Hp} : ∀ {vs : List V} {rs : List (Pg × Pg)} {i : Nat} {v : V}, RowAll K H vs rs → vs[i]? = some v → ∃ r, rs[i]? = some r ∧ RowAt K H v r
  | _, _, _, _, .nil, e => nomatch e
  | _, _, 0, _, .cons h r, e => by
    injection e with e
    subst e
    exact ⟨_, rfl, h⟩
  | _, _, i + 1, _, .cons h r, e => by
    obtain ⟨d, e1, e2⟩ := RowAll.get (i := i) r e
    exact ⟨d, e1, e2⟩
/-- data all the way of the depth of a row of leaves -/
def dLf (l : Lf) : PyData := .tuple [dL l.L, dS l.fr, dS l.bk, .tuple []]
def okLf (l : Lf) : Prop := okL l.L ∧ rowsB 1 l.fr = true ∧ rowsB 0 l.bk = true ∧ l.pen = []
/-- a row of leaves of rising labels -/
def okBk (bk : List Lf) : Prop := bk.length ≤ 60 ∧ (∀ l ∈ bk, okLf l) ∧ bk.Pairwise fun a b => HT.lexLt a.L b.L = true
def okR (r : Pg × Pg) : Prop := okP r.1 ∧ okP r.2
def dRs (ps : List (Pg × Pg)) : PyData := .tuple (ps.map dR)
theorem dLf_inv {H : Hp} {v : V} {lf : Lf} (h : Tp H v (dLf lf)) : ∃ (t : Addr) (u1 u2 u3 u4 : V), v = .ref t ∧ H t = some (.tup [u1, u2, u3, u4]) ∧ Tp H u1 (dL lf.L) ∧ Tp H u2 (dS lf.fr) ∧ Tp H u3 (dS lf.bk) := by
  cases h with
  | tup h r =>
    cases r with
    | cons h1 r =>
      cases r with
      | cons h2 r =>
        cases r with
        | cons h3 r =>
          cases r with
          | cons h4 r => cases r; exact ⟨_, _, _, _, _, rfl, h, h1, h2, h3⟩
theorem allP_snoc (bk : List Lf) (l : Lf) : allP (bk ++ [l]) = allP bk ++ [(l.L, 0), (l.L, 1)] := by
  unfold allP
  rw [List.flatMap_append]
  rfl

theorem pl_dRs {ps : List (Pg × Pg)} (h : ∀ r ∈ ps, okR r) (hl : ps.length ≤ 1000) : Pl 5 (dRs ps) := pl_tup (fun r hr => pl_dR' (h r hr) 0) hl
theorem pl_dPs {ps : List Pg} (h : ∀ p ∈ ps, p.1.length ≤ 3) (hl : ps.length ≤ 1000) : Pl 5 (dPs ps) := pl_tup (fun p hp => pl_dP (h p hp) 1) hl
theorem told_mem {bk : List Lf} {ps : List (Pg × Pg)} (ok : okBk bk) : ∀ p ∈ toldP bk ps, p.1.length ≤ 3 := fun p hp => by
  obtain ⟨l, hl, h⟩ := List.mem_flatMap.mp (List.mem_filter.mp hp).1
  have e : p.1 = l.L := by
    rw [sideP_eq] at h
    obtain ⟨s, _, hs⟩ := List.mem_filterMap.mp h
    rw [(sideF_some hs).2]
  rw [e]
  exact (ok.2.1 l hl).1.1
theorem pl_told {bk : List Lf} {ps : List (Pg × Pg)} (ok : okBk bk) : Pl 5 (dPs (toldP bk ps)) := pl_dPs (told_mem ok) (by
  have h1 : (toldP bk ps).length ≤ (shownP bk).length := List.length_filter_le ..
  have h2 := shownP_len bk
  have := ok.1
  omega)
theorem kept_P {p : Pg} (h : okP p) : keptPD (dP p) = some p := by
  show (if wI 0 1 (.int p.2) = true then (match keptD (dL p.1) with | some L => some (L, toI (.int p.2)) | none => none) else none) = some p
  rw [if_pos (show wI 0 1 (.int p.2) = true from decide_eq_true (by have := h.2; omega)), kept_dL h.1]
  rfl
theorem kept_lP {p : Pg} (h : okP p) : keptPD (toL (dP p)) = some p := by
  have e : keptD (.list (toLs (p.1.map PyData.int))) = some p.1 := by
    rw [toLs_ints]
    exact kept_dL h.1
  show (if wI 0 1 (.int p.2) = true then (match keptD (.list (toLs (p.1.map PyData.int))) with | some L => some (L, toI (.int p.2)) | none => none) else none) = some p
  rw [if_pos (show wI 0 1 (.int p.2) = true from decide_eq_true (by have := h.2; omega)), e]
  rfl
theorem rowAll_tp {K : PySem.W.Frag} {H : Hp} : ∀ {us : List V} {ps : List (Pg × Pg)}, TpAll H us (ps.map dR) → (∀ r ∈ ps, okR r) → RowAll K H us ps
  | _, [], h, _ => by cases h; exact .nil
  | _, r :: ps, h, ok => by
    cases h with
    | cons h t =>
      obtain ⟨a, x, y, rfl, ha, h1, h2⟩ := tpR_inv h
      have o := ok r (List.mem_cons_self ..)
      exact .cons ⟨a, x, y, _, _, rfl, .inr (.inl (.inl ha)), h1.dp, h2.dp, kept_P o.1, kept_P o.2⟩ (rowAll_tp t fun q hq => ok q (List.mem_cons_of_mem _ hq))
theorem rowAll_dp {K : PySem.W.Frag} {H : Hp} : ∀ {us : List V} {ps : List (Pg × Pg)}, DpAll K H us (toLs (ps.map dR)) → (∀ r ∈ ps, okR r) → RowAll K H us ps
  | _, [], h, _ => by cases h; exact .nil
  | _, r :: ps, h, ok => by
    cases h with
    | cons h t =>
      have o := ok r (List.mem_cons_self ..)
      refine .cons ?_ (rowAll_dp t fun q hq => ok q (List.mem_cons_of_mem _ hq))
      have h : Dp K H _ (.list [toL (dP r.1), toL (dP r.2)]) := h
      cases h with
      | lst ha da =>
        cases da with
        | cons h1 da =>
          cases da with
          | cons h2 da =>
            cases da
            exact ⟨_, _, _, _, _, rfl, .inl ha, h1, h2, kept_lP o.1, kept_lP o.2⟩
theorem okBk_drop {bk : List Lf} (k : Nat) (h : okBk bk) : okBk (bk.take k ++ bk.drop (k + 1)) := by
  have s : (bk.take k ++ bk.drop (k + 1)).Sublist bk := by
    rw [← List.eraseIdx_eq_take_drop_succ]
    exact List.eraseIdx_sublist ..
  exact ⟨Nat.le_trans s.length_le h.1, fun l hl => h.2.1 l (s.subset hl), h.2.2.sublist s⟩
theorem okBk_set {bk : List Lf} {k : Nat} {lf new : Lf} (h : okBk bk) (e : bk[k]? = some lf) (o : okLf new) (eL : new.L = lf.L) : okBk ((bk.take k ++ [new]) ++ bk.drop (k + 1)) := by
  obtain ⟨hk, e⟩ := List.getElem?_eq_some_iff.mp e
  have m : ((bk.take k ++ [new]) ++ bk.drop (k + 1)).map (·.L) = bk.map (·.L) := by
    conv => rhs; rw [← List.take_append_drop k bk]
    rw [List.drop_eq_getElem_cons hk, e, List.append_assoc]
    simp only [List.map_append, List.map_cons, List.map_nil, List.singleton_append, eL]
  refine ⟨?_, ?_, ?_⟩
  · rw [← List.length_map (f := (·.L)), m, List.length_map]
    exact h.1
  · intro l hl
    rcases List.mem_append.mp hl with hl | hl
    · rcases List.mem_append.mp hl with hl | hl
      · exact h.2.1 l (List.mem_of_mem_take hl)
      · rw [List.mem_singleton.mp hl]; exact o
    · exact h.2.1 l (List.mem_of_mem_drop hl)
  · have p : (bk.map (·.L)).Pairwise fun a b => HT.lexLt a b = true := by
      rw [List.pairwise_map]
      exact h.2.2
    rw [← m, List.pairwise_map] at p
    exact p
/-! ### sorted of a list of data that are alike -/
section
variable {X : Cx}
/-- the items of a list, by the order of the data they stand for -/
def srtV (xs : List V) (ds : List PyData) : List (V × PyData) := (xs.zip ds).mergeSort (PySem.W.dataLe false Prod.snd)
def rSortedD (K : PySem.W.Frag) : List V → Hp → VK → Prop := fun vs H Q => ∃ (a : Addr) (xs : List V) (ds : List PyData), vs = [V.ref a] ∧ SqL K H a xs ∧ DpAll K H xs ds ∧ PySem.W.AllAlike ds ∧ PySem.W.Sortable ds ∧ (∀ d ∈ ds, d.depth ≤ 60) ∧
  ∀ p, H p = none → Q (.ref p) (upd H p (.lst ((srtV xs ds).map Prod.fst)))
theorem dpAll_zip {K : PySem.W.Frag} {H : Hp} : ∀ {xs : List V} {ds : List PyData}, DpAll K H xs ds → (xs.zip ds).map Prod.snd = ds ∧ (xs.zip ds).map Prod.fst = xs
  | _, _, .nil => ⟨rfl, rfl⟩
  | x :: xs, d :: ds, .cons _ t => by
    obtain ⟨h1, h2⟩ := dpAll_zip t
    exact ⟨congrArg (d :: ·) h1, congrArg (x :: ·) h2⟩
theorem vals_each : ∀ {xs : List V} {its : List Value} {ds : List PyData}, Vals xs its → ds.length = xs.length → PySem.W.EachIs (fun (v : Value) (b : V × PyData) => RelV b.1 v) its (xs.zip ds)
  | _, _, [], .nil, _ => .nil
  | _, _, d :: ds, .cons r t, h => .cons r (vals_each t (Nat.succ.inj h))
  | _, _, d :: ds, .nil, h => nomatch h
  | _, _, [], .cons _ _, h => nomatch h
theorem reads_each {pins : List (Addr × Obj)} {σ : L2.St} {H : Hp} {s : Shared} (I : Inv X pins σ H s) : ∀ {xs : List V} {its : List Value} {ds : List PyData}, Vals xs its → DpAll X.K H xs ds → PySem.W.EachIs (fun (v : Value) (b : V × PyData) => ∃ as, Reads s.heap v b.2 as) its (xs.zip ds)
  | _, _, _, .nil, .nil => .nil
  | _, _, _, .cons r t, .cons h u => .cons (Dp.reads I _ _ _ h r) (reads_each I t u)
theorem each_vals : ∀ {its : List Value} {bs : List (V × PyData)}, PySem.W.EachIs (fun (v : Value) (b : V × PyData) => RelV b.1 v) its bs → Vals (bs.map Prod.fst) its
  | _, _, .nil => .nil
  | _, _, .cons h t => .cons h (each_vals t)
theorem cr_sortedD (hu : X.A.units + 65 < cLine) : CallR X (.builtin "sorted") (rSortedD X.K) := by
  intro pins s σ H vs us Q I r h
  obtain ⟨a, xs, ds, rfl, hs, hd, al, so, dep, q⟩ := h
  obtain ⟨its, rv, hl, hz⟩ := I.list hs
  obtain ⟨u, rfl, ru⟩ := vals1 r
  obtain rfl : u = Value.ref a := ru
  obtain ⟨z1, z2⟩ := dpAll_zip hd
  have hlen := dpAll_len hd
  have lz : (xs.zip ds).length = xs.length := by rw [← List.length_map (f := Prod.fst), z2]
  refine PySem.W.sorted_data (enc := Prod.snd) hl.isList (vals_each rv hlen.symm) (reads_each I rv hd) (by rw [z1]; exact al) (by rw [z1]; exact so) (by rw [lz]; exact hz) (fun b hb => ?_) fun out ho he => ?_
  · have hb2 : b.2 ∈ ds := by rw [← z1]; exact List.mem_map_of_mem hb
    have := dep _ hb2
    omega
  · obtain ⟨n, hn⟩ := sortedAll_at s.heap its out.toArray
    have ol : ((srtV xs ds).map Prod.fst).length ≤ sizeLine := by
      unfold srtV
      rw [List.length_map, (List.mergeSort_perm ..).length_eq, lz]
      exact hz
    exact ⟨.ref (s.heap.objs.size + 1), upd H (s.heap.objs.size + 1) (.lst ((srtV xs ds).map Prod.fst)), I.laid (t' := s.toks) (fun b o e => sortedAll_old e) (Nat.le_succ _) ⟨ol, out, n, each_vals he, hn⟩, rfl, q _ (I.hok.fresh (Nat.le_succ _))⟩
end
/-- .. of pages -/
theorem alike_Ps (ps : List Pg) : PySem.W.AllAlike (ps.map dP) := PySem.W.AllAlike.of alike_P
theorem sortable_Ps (ps : List Pg) : PySem.W.Sortable (ps.map dP) := PySem.W.Sortable.tuples fun _ => ⟨_, _, rfl⟩
theorem tpAll_mem {H : Hp} : ∀ {xs : List V} {ds : List PyData}, TpAll H xs ds → ∀ b ∈ xs.zip ds, Tp H b.1 b.2
  | _, _, .nil, b, hb => nomatch hb
  | _, _, .cons h t, b, hb => by
    rcases List.mem_cons.mp hb with rfl | hb
    · exact h
    · exact tpAll_mem t b hb
theorem tpAll_of {H : Hp} : ∀ (bs : List (V × PyData)), (∀ b ∈ bs, Tp H b.1 b.2) → TpAll H (bs.map Prod.fst) (bs.map Prod.snd)
  | [], _ => .nil
  | b :: r, h => .cons (h b (List.mem_cons_self ..)) (tpAll_of r fun c hc => h c (List.mem_cons_of_mem _ hc))
theorem perm_of_map {α β : Type} {f : α → β} : ∀ {l : List β} {ps : List α}, l.Perm (ps.map f) → ∃ qs : List α, l = qs.map f ∧ qs.Perm ps := by
  intro l ps h
  have key : ∀ {l m : List β}, l.Perm m → ∀ ps : List α, m = ps.map f → ∃ qs : List α, l = qs.map f ∧ qs.Perm ps := by
    intro l m h
    induction h with
    | nil => intro ps e; exact ⟨[], rfl, by cases ps with | nil => exact .nil | cons _ _ => cases e⟩
    | cons x _ ih =>
      intro ps e
      cases ps with
      | nil => cases e
      | cons p r =>
        injection e with e1 e2
        obtain ⟨qs, e3, hp⟩ := ih r e2
        exact ⟨p :: qs, by rw [e1, e3]; rfl, hp.cons p⟩
    | swap x y l =>
      intro ps e
      match ps, e with
      | p :: q :: r, e =>
        injection e with e1 e2
        injection e2 with e2 e3
        exact ⟨q :: p :: r, by rw [e1, e2, e3]; rfl, .swap ..⟩
    | trans _ _ ih1 ih2 =>
      intro ps e
      obtain ⟨qs, e1, h1⟩ := ih2 ps e
      obtain ⟨rs, e2, h2⟩ := ih1 qs e1
      exact ⟨rs, e2, h2.trans h1⟩
  exact key h ps rfl
theorem srt_Ps {H : Hp} {xs : List V} {ps : List Pg} (h : TpAll H xs (ps.map dP)) : ∃ qs : List Pg, qs.Perm ps ∧ TpAll H ((srtV xs (ps.map dP)).map Prod.fst) (qs.map dP) := by
  have hp : (srtV xs (ps.map dP)).Perm (xs.zip (ps.map dP)) := List.mergeSort_perm ..
  have hm : ∀ b ∈ srtV xs (ps.map dP), Tp H b.1 b.2 := fun b hb => tpAll_mem h b (hp.mem_iff.mp hb)
  have h2 := tpAll_of _ hm
  have z : (xs.zip (ps.map dP)).map Prod.snd = ps.map dP := by
    rw [List.map_snd_zip]
    rw [h.len]
    exact Nat.le_refl _
  have h3 : ((srtV xs (ps.map dP)).map Prod.snd).Perm (ps.map dP) := by
    have := hp.map Prod.snd
    rwa [z] at this
  obtain ⟨qs, e, hq⟩ : ∃ qs : List Pg, (srtV xs (ps.map dP)).map Prod.snd = qs.map dP ∧ qs.Perm ps := perm_of_map h3
  exact ⟨qs, hq, by rw [← e]; exact h2⟩
/-! ### rows of pages -/
inductive PgAll (K : PySem.W.Frag) (H : Hp) : List V → List Pg → Prop
  | nil : PgAll K H [] []
  | cons {v : V} {vs : List V} {p : Pg} {ps : List Pg} {d : PyData} (h : Dp K H v d) (e : keptPD d = some p) (t : PgAll K H vs ps) : PgAll K H (v :: vs) (p :: ps)
theorem PgAll.same {K : PySem.W.Frag} {H H' : Hp} (m : Same H H') : ∀ {vs : List V} {ps : List Pg}, PgAll K H vs ps → PgAll K H' vs ps
  | _, _, .nil => .nil
  | _, _, .cons h e t => .cons (dp_same m h) e (PgAll.same m t)
theorem PgAll.len {K : PySem.W.Frag} {H : Hp} : ∀ {vs : List V} {ps : List Pg}, PgAll K H vs ps → vs.length = ps.length
  | _, _, .nil => rfl
  | _, _, .cons _ _ t => congrArg (· + 1) (PgAll.len t)
theorem PgAll.get {K : PySem.W.Frag} {H : Hp} : ∀ {vs : List V} {ps : List Pg} {i : Nat} {v : V}, PgAll K H vs ps → vs[i]? = some v → ∃ p d, ps[i]? = some p ∧ Dp K H v d ∧ keptPD d = some p
  | _, _, _, _, .nil, e => nomatch e
  | _, _, 0, _, .cons h k t, e => by
    injection e with e
    subst e
    exact ⟨_, _, rfl, h, k⟩
  | _, _, i + 1, _, .cons h k t, e => PgAll.get (i := i) t e
theorem pgAll_tp {K : PySem.W.Frag} {H : Hp} : ∀ {us : List V} {ps : List Pg}, TpAll H us (ps.map dP) → (∀ p ∈ ps, okP p) → PgAll K H us ps
  | _, [], h, _ => by cases h; exact .nil
  | _, p :: ps, h, ok => by
    cases h with
    | cons h t => exact .cons h.dp (kept_P (ok p (List.mem_cons_self ..))) (pgAll_tp t fun q hq => ok q (List.mem_cons_of_mem _ hq))
theorem pgAll_dp {K : PySem.W.Frag} {H : Hp} : ∀ {us : List V} {ps : List Pg}, DpAll K H us (toLs (ps.map dP)) → (∀ p ∈ ps, okP p) → PgAll K H us ps
  | _, [], h, _ => by cases h; exact .nil
  | _, p :: ps, h, ok => by
    cases h with
    | cons h t => exact .cons h (kept_lP (ok p (List.mem_cons_self ..))) (pgAll_dp t fun q hq => ok q (List.mem_cons_of_mem _ hq))
theorem eqvAll_P : ∀ ps qs : List Pg, PyData.eqvAll (ps.map dP) (qs.map dP) = decide (ps = qs)
  | [], [] => rfl
  | [], _ :: _ => rfl
  | _ :: _, [] => rfl
  | p :: ps, q :: qs => by
    show (PyData.eqv (dP p) (dP q) && PyData.eqvAll (ps.map dP) (qs.map dP)) = _
    rw [eqv_dP, eqvAll_P ps qs, Bool.eq_iff_iff]
    simp
theorem shown_okP {bk : List Lf} (ok : okBk bk) : ∀ p ∈ shownP bk, okP p := fun p hp => by
  obtain ⟨l, hl, h⟩ := List.mem_flatMap.mp hp
  rw [sideP_eq] at h
  obtain ⟨s, hs, hf⟩ := List.mem_filterMap.mp h
  obtain ⟨_, rfl⟩ := sideF_some hf
  refine ⟨(ok.2.1 l hl).1, ?_⟩
  rcases List.mem_cons.mp hs with h | h
  · exact .inl h
  · exact .inr (List.mem_singleton.mp h)
theorem all_okP {bk : List Lf} (ok : okBk bk) : ∀ p ∈ allP bk, okP p := fun p hp => by
  obtain ⟨l, hl, h⟩ := List.mem_flatMap.mp hp
  rcases List.mem_cons.mp h with rfl | h
  · exact ⟨(ok.2.1 l hl).1, .inl rfl⟩
  · rw [List.mem_singleton.mp h]; exact ⟨(ok.2.1 l hl).1, .inr rfl⟩
theorem ltP_leP (p q : Pg) : PySem.W.dataLt (dP p) (dP q) = !leP q p := by
  unfold leP ltP
  rw [Bool.not_not]
/-- when all are ranges of the book, what is told needs no more asking -/
theorem told_all {bk : List Lf} {ps : List (Pg × Pg)} (h : ps.all (isR bk) = true) : toldP bk ps = (shownP bk).filter fun p => ps.any (inR p) := by
  unfold toldP
  rw [List.filter_eq_self.mpr (List.all_eq_true.mp h)]
theorem pn_Ps (ps : List Pg) : Pn 3 (dPs ps) := fun d hd => by
  obtain ⟨p, _, rfl⟩ := List.mem_map.mp hd
  exact pn_P p
/-- one of the leaves' data -/
theorem lv_get {H : Hp} {vs : List V} {bk : List Lf} {i : Nat} {v : V} (tp : TpAll H vs (bk.map dLf)) (hx : vs[i]? = some v) : ∃ lf, bk[i]? = some lf ∧ Tp H v (dLf lf) := by
  obtain ⟨d, ed, td⟩ := tp.get hx
  rw [List.getElem?_map] at ed
  cases e : bk[i]? with
  | none => rw [e] at ed; cases ed
  | some l => rw [e] at ed; cases ed; exact ⟨l, rfl, td⟩
theorem nodup_sub {α : Type} [DecidableEq α] : ∀ {l m : List α}, l.Nodup → (∀ x ∈ l, x ∈ m) → l.length ≤ m.length
  | [], _, _, _ => Nat.zero_le _
  | x :: l, m, n, s => by
    obtain ⟨hx, hl⟩ := List.nodup_cons.mp n
    have hm := s x (List.mem_cons_self ..)
    have h := nodup_sub (m := m.erase x) hl fun y hy => (List.mem_erase_of_ne (fun e : y = x => hx (by rw [← e]; exact hy))).mpr (s y (List.mem_cons_of_mem _ hy))
    rw [List.length_erase_of_mem hm] at h
    have := List.length_pos_of_mem hm
    show l.length + 1 ≤ m.length
    omega
def freeK (Ls : List (List Int)) (n : Nat) : List Nat := (List.range n).filter fun i => decide ([(99 : Int) - (i : Int)] ∉ Ls)
theorem freeK_succ (Ls : List (List Int)) (n : Nat) : freeK Ls (n + 1) = freeK Ls n ++ (if decide ([(99 : Int) - (n : Int)] ∉ Ls) = true then [n] else []) := by
  unfold freeK
  rw [List.range_succ, List.filter_append, List.filter_cons, List.filter_nil]
theorem freeK_ne {Ls : List (List Int)} (h : Ls.length ≤ 60) : freeK Ls 99 ≠ [] := fun e => by
  have hall : ∀ x ∈ (List.range 99).map (fun (i : Nat) => [(99 : Int) - (i : Int)]), x ∈ Ls := fun x hx => by
    obtain ⟨i, hi, rfl⟩ := List.mem_map.mp hx
    have := List.filter_eq_nil_iff.mp e i hi
    simpa using this
  have nd : ((List.range 99).map (fun (i : Nat) => [(99 : Int) - (i : Int)])).Nodup := List.Pairwise.map _ (fun x y h e => h (by injection e with e; omega)) List.nodup_range
  have := nodup_sub nd hall
  rw [List.length_map, List.length_range] at this
  omega
theorem freeK_mem {Ls : List (List Int)} {n i : Nat} (h : i ∈ freeK Ls n) : i < n := List.mem_range.mp (List.mem_filter.mp h).1
theorem tpAll_snoc_inv {H : Hp} : ∀ {ws : List V} {ds : List PyData} {d : PyData}, TpAll H ws (ds ++ [d]) → ∃ W v, ws = W ++ [v] ∧ TpAll H W ds ∧ Tp H v d
  | _, [], d, h => by
    cases h with
    | cons h t => cases t; exact ⟨[], _, rfl, .nil, h⟩
  | _, e :: ds, d, h => by
    cases h with
    | cons h t =>
      obtain ⟨W, v, rfl, h1, h2⟩ := tpAll_snoc_inv t
      exact ⟨_ :: W, v, rfl, .cons h h1, h2⟩
theorem pg_inv {H : Hp} {v : V} {p : Pg} (h : Tp H v (dP p)) : ∃ a l, v = .ref a ∧ H a = some (.tup [.ref l, .int p.2]) ∧ H l = some (.tup (p.1.map V.int)) := by
  cases h with
  | tup h r =>
    cases r with
    | cons h1 r =>
      cases r with
      | cons h2 r =>
        cases r
        cases h2
        obtain ⟨l, rfl, hl⟩ := tpL_inv h1
        exact ⟨_, l, rfl, h, hl⟩
theorem first_at {p : Pg} : ∀ {ps : List Pg}, p ∈ ps → ∃ j, j < ps.length ∧ ps[j]? = some p ∧ ∀ m p', m < j → ps[m]? = some p' → p' ≠ p
  | q :: ps, h => by
    by_cases e : q = p
    · exact ⟨0, Nat.succ_pos _, by rw [e]; rfl, fun m _ h => absurd h (Nat.not_lt_zero _)⟩
    · have h2 : p ∈ ps := by
        rcases List.mem_cons.mp h with h | h
        · exact absurd h.symm e
        · exact h
      obtain ⟨j, h1, h3, h4⟩ := first_at h2
      refine ⟨j + 1, Nat.succ_lt_succ h1, h3, fun m p' hm hp => ?_⟩
      cases m with
      | zero => cases hp; exact e
      | succ m => exact h4 m p' (Nat.lt_of_succ_lt_succ hm) hp
theorem first_d {ps : List Pg} {p : Pg} {j : Nat} (e : ps[j]? = some p) : (ps.map dP)[j]? = some (dP p) := by rw [List.getElem?_map, e]; rfl
theorem first_no {ps : List Pg} {p : Pg} {j : Nat} (h : ∀ m p', m < j → ps[m]? = some p' → p' ≠ p) : ∀ (m : Nat) (z : PyData), m < j → (ps.map dP)[m]? = some z → PyData.eqv z (dP p) = false := fun m z hm hz => by
  rw [List.getElem?_map] at hz
  cases e : ps[m]? with
  | none => rw [e] at hz; cases hz
  | some p' =>
    rw [e] at hz
    cases hz
    rw [eqv_dP]
    exact decide_eq_false (h m p' hm e)
theorem eqv_Pself (p : Pg) : PyData.eqv (dP p) (dP p) = true := by rw [eqv_dP]; exact decide_eq_true rfl
theorem TpAll.rev {H : Hp} : ∀ {vs : List V} {ds : List PyData}, TpAll H vs ds → TpAll H vs.reverse ds.reverse
  | _, _, .nil => .nil
  | _, _, .cons h t => by
    rw [List.reverse_cons, List.reverse_cons]
    exact (TpAll.rev t).snoc h
/-- a list of one or two pairs, laid apart from the source -/
def Good (a : Addr) (H H' : Hp) (G : Addr) : Prop := Src H' a ∧ But a H H' ∧ G ≠ a ∧ ∃ (gs : List V) (ns : List (Pg × Pg)), H' G = some (.lst gs) ∧ TpAll H' gs (ns.map dR) ∧ (∀ r ∈ ns, okR r) ∧ ns.length ≤ 2
theorem srcS {Ha Hb : Hp} {a : Addr} (s : Same Ha Hb) (h : Src Ha a) : Src Hb a := by
  obtain ⟨g, x, c, e⟩ := h
  exact ⟨g, x, c, s _ _ e⟩
theorem good1 {a : Addr} {H Hn : Hp} {x y : V} {p p' : Pg} (sn : Src Hn a) (bn : But a H Hn) (hx : Tp Hn x (dP p)) (hy : Tp Hn y (dP p')) (o : okP p) (o' : okP p') {t : Addr} (nt : Hn t = none) {g : Addr} (ng : upd Hn t (.tup [x, y]) g = none) : Good a H (upd (upd Hn t (.tup [x, y])) g (.lst [.ref t])) g := by
  have s1 := same_upd (o := .tup [x, y]) nt
  have s2 := same_upd (o := .lst [.ref t]) ng
  have s := s1.trans s2
  have sg := srcS s1 sn
  refine ⟨srcS s sn, bn.trans (But.of s), (sg.ne ng).symm, _, [(p, p')], upd_same, .cons (.tup (s2 _ _ upd_same) (.cons (hx.nl (NL.of s)) (.cons (hy.nl (NL.of s)) .nil))) .nil, fun r hr => ?_, (by show 1 ≤ 2; decide)⟩
  rw [List.mem_singleton.mp hr]
  exact ⟨o, o'⟩
theorem good0 {a : Addr} {H Hn : Hp} {v : V} {r : Pg × Pg} (sn : Src Hn a) (bn : But a H Hn) (hv : Tp Hn v (dR r)) (o : okR r) {g : Addr} (ng : Hn g = none) : Good a H (upd Hn g (.lst [v])) g := by
  have s := same_upd (o := .lst [v]) ng
  refine ⟨srcS s sn, bn.trans (But.of s), (sn.ne ng).symm, _, [r], upd_same, .cons (hv.nl (NL.of s)) .nil, fun q hq => ?_, (by show 1 ≤ 2; decide)⟩
  rw [List.mem_singleton.mp hq]
  exact o
theorem page_at {H : Hp} {ks : List V} {bk : List Lf} (ok : okBk bk) (tk : TpAll H ks ((allP bk).map dP)) {c : Int} (h0 : 0 ≤ c) (h1 : c < ks.length) : ∃ x p, atI ks c = some x ∧ Tp H x (dP p) ∧ okP p := by
  obtain ⟨x, ex⟩ : ∃ x, ks[c.toNat]? = some x := ⟨_, List.getElem?_eq_getElem (by omega)⟩
  obtain ⟨d, ed, tx⟩ := tk.get ex
  rw [List.getElem?_map] at ed
  cases e : (allP bk)[c.toNat]? with
  | none => rw [e] at ed; cases ed
  | some p =>
    rw [e] at ed
    cases ed
    exact ⟨x, p, at_of' (Int.toNat_of_nonneg h0).symm ex, tx, all_okP ok p (List.mem_of_getElem? e)⟩
theorem good2 {a : Addr} {H Hn : Hp} {v1 v2 : V} {r1 r2 : Pg × Pg} (sn : Src Hn a) (bn : But a H Hn) (h1 : Tp Hn v1 (dR r1)) (h2 : Tp Hn v2 (dR r2)) (o1 : okR r1) (o2 : okR r2) {g : Addr} (ng : Hn g = none) : Good a H (upd Hn g (.lst [v1, v2])) g := by
  have s := same_upd (o := .lst [v1, v2]) ng
  refine ⟨srcS s sn, bn.trans (But.of s), (sn.ne ng).symm, _, [r1, r2], upd_same, .cons (h1.nl (NL.of s)) (.cons (h2.nl (NL.of s)) .nil), fun q hq => ?_, (by show 2 ≤ 2; decide)⟩
  rcases List.mem_cons.mp hq with h | h
  · rw [h]; exact o1
  · rw [List.mem_singleton.mp h]; exact o2
/-! ### dicts whose keys are data of tuples, of any depth up to 8 -/
mutual
def nkD : PyData → PySem.NestedKey
  | .int i => .num i
  | .str x => .text x
  | .bool b => .num (if b = true then 1 else 0)
  | .tuple ds => .tup (nkDs ds)
  | _ => .none
def nkDs : List PyData → List PySem.NestedKey
  | [] => []
  | d :: r => nkD d :: nkDs r
end
mutual
theorem nested_tp {P : Program} {w : World} {H : Hp} {h : Heap} (ok : HOk P w H h) : ∀ {v : V} {d : PyData} {u : Value}, Tp H v d → RelV v u → PySem.NestedIs h (nkD d) u
  | _, _, _, .non, r => by
    cases (show _ = Value.none from r)
    exact .none
  | _, _, _, .bl b, r => by
    cases (show _ = Value.bool b from r)
    exact .bool rfl
  | _, _, _, .int i, r => by
    obtain ⟨t, rfl⟩ := (show ∃ t, _ = Value.int i t from r)
    exact .int i t
  | _, _, _, .str z, r => by
    obtain ⟨t, rfl⟩ := (show ∃ t, _ = Value.str z t from r)
    exact .text z t
  | _, _, _, .tup (a := a) (vs := vs) e t, r => by
    cases (show _ = Value.ref a from r)
    obtain ⟨_, its, rv, o, h1, h2, n, h3⟩ := (show ObjOk P w H h a (.tup vs) from ok a _ e)
    exact .tup h1 h2 h3 (by simpa using nestedAll_tp ok t rv)
theorem nestedAll_tp {P : Program} {w : World} {H : Hp} {h : Heap} (ok : HOk P w H h) : ∀ {vs : List V} {ds : List PyData} {us : List Value}, TpAll H vs ds → Vals vs us → PySem.NestedAll h (nkDs ds) us
  | _, _, _, .nil, r => by
    cases r
    exact .nil
  | _, _, _, .cons a t, r => by
    cases r with
    | cons r1 r2 => exact .cons (nested_tp ok a r1) (nestedAll_tp ok t r2)
end
mutual
def noL : PyData → Bool
  | .list _ => false
  | .dict _ => false
  | .tuple ds => noLs ds
  | _ => true
def noLs : List PyData → Bool
  | [] => true
  | d :: r => noL d && noLs r
end
mutual
theorem nested_dp {X : Cx} {pins : List (Addr × Obj)} {σ : L2.St} {H : Hp} {s : Shared} (I : Inv X pins σ H s) : ∀ {v : V} {d : PyData} {u : Value}, Dp X.K H v d → noL d = true → RelV v u → PySem.NestedIs s.heap (nkD d) u
  | _, _, _, .non, _, r => by
    cases (show _ = Value.none from r)
    exact .none
  | _, _, _, .bl b, _, r => by
    cases (show _ = Value.bool b from r)
    exact .bool rfl
  | _, _, _, .int i, _, r => by
    obtain ⟨t, rfl⟩ := (show ∃ t, _ = Value.int i t from r)
    exact .int i t
  | _, _, _, .str z, _, r => by
    obtain ⟨t, rfl⟩ := (show ∃ t, _ = Value.str z t from r)
    exact .text z t
  | _, _, _, .lst _ _, n, _ => nomatch n
  | _, _, _, .tup e t, n, r => by
    rename_i a vs ds
    cases (show _ = Value.ref a from r)
    obtain ⟨its, rv, ⟨o, h1, h2, k, h3⟩, _⟩ := I.tuple e
    exact .tup h1 h2 h3 (by simpa using nestedAll_dp I t n rv)
theorem nestedAll_dp {X : Cx} {pins : List (Addr × Obj)} {σ : L2.St} {H : Hp} {s : Shared} (I : Inv X pins σ H s) : ∀ {vs : List V} {ds : List PyData} {us : List Value}, DpAll X.K H vs ds → noLs ds = true → Vals vs us → PySem.NestedAll s.heap (nkDs ds) us
  | _, _, _, .nil, _, r => by
    cases r
    exact .nil
  | _, _, _, .cons a t, n, r => by
    have n2 : (noL _ && noLs _) = true := n
    rw [Bool.and_eq_true] at n2
    cases r with
    | cons r1 r2 => exact .cons (nested_dp I a n2.1 r1) (nestedAll_dp I t n2.2 r2)
end
/-- at b lies the key k -/
def NKey (H : Hp) (b : Addr) (k : PySem.NestedKey) : Prop := ∃ d, Tp H (.ref b) d ∧ nkD d = k ∧ k.depth ≤ 8
theorem NKey.nl {H H' : Hp} {b : Addr} {k : PySem.NestedKey} (m : NL H H') (h : NKey H b k) : NKey H' b k := by
  obtain ⟨d, h1, h2⟩ := h
  exact ⟨d, h1.nl m, h2⟩
theorem nkey_is {P : Program} {w : World} {H : Hp} {h : Heap} {b : Addr} {k : PySem.NestedKey} (ok : HOk P w H h) (q : NKey H b k) : (PySem.nestedKind P w).is h k b := by
  obtain ⟨d, h1, rfl, h3⟩ := q
  exact ⟨nested_tp ok h1 rfl, h3⟩
abbrev NE := PySem.NestedKey × Addr × V
abbrev NU := PySem.NestedKey × Addr × Value
def entN (w : World) (x : NU) : DictEntry := ⟨x.1.hash w, .ref x.2.1, x.2.2⟩
def RelN (p : NE) (q : NU) : Prop := p.1 = q.1 ∧ p.2.1 = q.2.1 ∧ RelV p.2.2 q.2.2
def rawN (w : World) (a : Addr) (kvs : List NE) : HO := .ext fun h => kvs.length ≤ sizeLine ∧ (a == sysModules) = false ∧ ∃ xs : List NU, Paired RelN kvs xs ∧
  ∃ o es ep, h.get? a = some o ∧ o.ExactDict ∧ o.data = .dict es ep ∧ es.toList = xs.map (entN w) ∧ (xs.map (·.1)).Nodup
theorem rawN_st {w : World} {a : Addr} {kvs : List NE} : ∀ h1 h2 : Heap, (kvs.length ≤ sizeLine ∧ (a == sysModules) = false ∧ ∃ xs : List NU, Paired RelN kvs xs ∧ ∃ o es ep, h1.get? a = some o ∧ o.ExactDict ∧ o.data = .dict es ep ∧ es.toList = xs.map (entN w) ∧ (xs.map (·.1)).Nodup) →
    (∀ o, h1.get? a = some o → h2.get? a = some o) → kvs.length ≤ sizeLine ∧ (a == sysModules) = false ∧ ∃ xs : List NU, Paired RelN kvs xs ∧ ∃ o es ep, h2.get? a = some o ∧ o.ExactDict ∧ o.data = .dict es ep ∧ es.toList = xs.map (entN w) ∧ (xs.map (·.1)).Nodup := by
  rintro h1 h2 ⟨z, y, xs, r, o, es, ep, e, c⟩ k
  exact ⟨z, y, xs, r, o, es, ep, k _ e, c⟩
/-- a dict of such keys -/
def DN (w : World) (H : Hp) (a : Addr) (kvs : List NE) : Prop := H a = some (rawN w a kvs) ∧ ∀ p ∈ kvs, NKey H p.2.1 p.1
theorem rawN_ne {w : World} {a : Addr} {kvs : List NE} {xs : List V} : rawN w a kvs ≠ .lst xs := fun z => by
  have z' : HO.ext _ = HO.lst xs := z
  cases z'
theorem rawN_net {w : World} {a : Addr} {kvs : List NE} {xs : List V} : rawN w a kvs ≠ .tup xs := fun z => by
  have z' : HO.ext _ = HO.tup xs := z
  cases z'
theorem DN.nl {w : World} {H H' : Hp} {a : Addr} {kvs : List NE} (m : NL H H') (h : DN w H a kvs) : DN w H' a kvs := ⟨m _ _ h.1 fun _ => rawN_ne, fun p hp => (h.2 p hp).nl m⟩
def atN (kvs : List NE) (k : PySem.NestedKey) : Option V := (kvs.find? fun p => decide (p.1 = k)).map (·.2.2)
def putN (kvs : List NE) (k : PySem.NestedKey) (b : Addr) (v : V) : List NE := if (atN kvs k).isSome = true then kvs.map (fun p => if p.1 = k then (p.1, p.2.1, v) else p) else kvs ++ [(k, b, v)]
theorem putN_len (kvs : List NE) (k : PySem.NestedKey) (b : Addr) (v : V) : (putN kvs k b v).length ≤ kvs.length + 1 := by
  unfold putN
  split
  · rw [List.length_map]; exact Nat.le_succ _
  · rw [List.length_append]; exact Nat.le_refl _
theorem atN_put (kvs : List NE) (k q : PySem.NestedKey) (b : Addr) (v : V) : atN (putN kvs k b v) q = if q = k then some v else atN kvs q := by
  have up : ∀ l : List NE, ((l.map fun p => if p.1 = k then (p.1, p.2.1, v) else p).find? fun p => decide (p.1 = q)).map (·.2.2) = if q = k then (if (atN l k).isSome = true then some v else none) else atN l q := by
    intro l
    induction l with
    | nil => unfold atN; split <;> rfl
    | cons p r ih =>
      unfold atN at ih ⊢
      rw [List.map_cons, List.find?_cons, List.find?_cons, List.find?_cons]
      by_cases c1 : p.1 = k
      · rw [if_pos c1]
        by_cases c2 : q = k
        · rw [decide_eq_true (show p.1 = q from c1.trans c2.symm), decide_eq_true c1, if_pos c2]
          rfl
        · rw [decide_eq_false (fun z : p.1 = q => c2 (z.symm.trans c1)), if_neg c2]
          rw [if_neg c2] at ih
          exact ih
      · rw [if_neg c1, decide_eq_false c1]
        by_cases c2 : p.1 = q
        · rw [decide_eq_true c2, if_neg (fun z => c1 (c2.trans z))]
        · rw [decide_eq_false c2]
          exact ih
  unfold putN
  by_cases e : (atN kvs k).isSome = true
  · rw [if_pos e]
    have := up kvs
    rw [if_pos e] at this
    exact this
  · rw [if_neg e]
    unfold atN at e ⊢
    rw [List.find?_append]
    by_cases c : q = k
    · subst c
      rw [if_pos rfl]
      cases h : kvs.find? fun p => decide (p.1 = q) with
      | none => rw [Option.none_or, List.find?_cons, decide_eq_true rfl]; rfl
      | some p => rw [h] at e; exact absurd rfl e
    · rw [if_neg c]
      cases h : kvs.find? fun p => decide (p.1 = q) with
      | none => rw [Option.none_or, List.find?_cons, decide_eq_false (fun z : k = q => c z.symm)]; rfl
      | some p => rfl
theorem relN_at {kvs : List NE} {xs : List NU} (r : Paired RelN kvs xs) (k : PySem.NestedKey) : RelO (atN kvs k) ((atKey xs k).map (·.2)) := by
  induction r with
  | nil => exact True.intro
  | @cons p q ps qs h t ih =>
    obtain ⟨h1, _, h3⟩ := h
    unfold atN atKey at ih ⊢
    rw [List.find?_cons, List.find?_cons, h1]
    by_cases e : q.1 = k
    · rw [decide_eq_true e]; exact h3
    · rw [decide_eq_false e]; exact ih
theorem relN_map {kvs : List NE} {xs : List NU} (r : Paired RelN kvs xs) (k : PySem.NestedKey) {v : V} {u : Value} (rv : RelV v u) : Paired RelN (kvs.map fun p => if p.1 = k then (p.1, p.2.1, v) else p) (xs.map (putAt k u)) := by
  induction r with
  | nil => exact .nil
  | @cons p q ps qs h t ih =>
    rw [List.map_cons, List.map_cons]
    refine .cons ?_ ih
    obtain ⟨h1, h2, h3⟩ := h
    unfold putAt
    by_cases e : p.1 = k
    · rw [if_pos e, if_pos (h1.symm.trans e)]; exact ⟨h1, h2, rv⟩
    · rw [if_neg e, if_neg (fun z => e (h1.trans z))]; exact ⟨h1, h2, h3⟩
theorem relN_put {kvs : List NE} {xs : List NU} (r : Paired RelN kvs xs) (k : PySem.NestedKey) (b : Addr) {v : V} {u : Value} (rv : RelV v u) : Paired RelN (putN kvs k b v) (storedH xs k b u) := by
  have e : (atN kvs k).isSome = (atKey xs k).isSome := by
    rw [(relN_at r k).isSome_eq, Option.isSome_map]
  unfold putN storedH
  rw [e]
  by_cases q : (atKey xs k).isSome = true
  · rw [if_pos q, if_pos q]; exact relN_map r k rv
  · rw [if_neg q, if_neg q]; exact Paired.snoc r ⟨rfl, rfl, rv⟩
theorem putN_keys {H : Hp} {kvs : List NE} {k : PySem.NestedKey} {b : Addr} {v : V} (h : ∀ p ∈ kvs, NKey H p.2.1 p.1) (hb : NKey H b k) : ∀ p ∈ putN kvs k b v, NKey H p.2.1 p.1 := fun p hp => by
  unfold putN at hp
  split at hp
  · obtain ⟨q, hq, rfl⟩ := List.mem_map.mp hp
    split
    · exact h q hq
    · exact h q hq
  · rcases List.mem_append.mp hp with e | e
    · exact h p e
    · rw [List.mem_singleton.mp e]; exact hb
theorem dn_rd {P : Program} {w : World} {H : Hp} {h : Heap} {a : Addr} {kvs : List NE} (ok : HOk P w H h) (e : DN w H a kvs) : kvs.length ≤ sizeLine ∧ (a == sysModules) = false ∧ ∃ xs, Paired RelN kvs xs ∧ h.DictOfH (PySem.nestedKind P w) a xs := by
  obtain ⟨⟨z, y, xs, r, o, es, ep, h1, h2, h3, h4, h5⟩, _⟩ := (show ObjOk P w H h a (rawN w a kvs) from ok a _ e.1)
  refine ⟨z, y, xs, r, o, es, ep, h1, h2, h3, h4, fun x hx => ?_, h5⟩
  have all : ∀ {l : List NE} {m : List NU}, Paired RelN l m → (∀ p ∈ l, NKey H p.2.1 p.1) → ∀ x ∈ m, (PySem.nestedKind P w).is h x.1 x.2.1 := by
    intro l m q
    induction q with
    | nil => intro _ x hx; exact nomatch hx
    | @cons p q ps qs hq t ih =>
      intro hk x hx
      rcases List.mem_cons.mp hx with e | hx
      · subst e
        have := nkey_is (P := P) (w := w) ok (hk p (List.mem_cons_self ..))
        rw [hq.1, hq.2.1] at this
        exact this
      · exact ih (fun p hp => hk p (List.mem_cons_of_mem _ hp)) x hx
  exact all r e.2 x hx
theorem dn_empty {P : Program} {w : World} {H : Hp} (h : Heap) (hb : sysModules < h.objs.size) : ObjOk P w H (h.push { cls := .type "dict", data := .dict #[] }) h.objs.size (rawN w h.objs.size []) :=
  ⟨⟨Nat.zero_le _, beq_eq_false_iff_ne.mpr (Ne.symm (Nat.ne_of_lt hb)), [], .nil, _, #[], 0, Heap.get?_push_size _ rfl, ⟨rfl, rfl, rfl⟩, rfl, rfl, List.nodup_nil⟩, ⟨_, Heap.get?_push_size _ rfl⟩, rawN_st⟩
section
variable {X : Cx} {pins : List (Addr × Obj)} {σ : L2.St} {H : Hp} {s : Shared} {a b : Addr} {k : PySem.NestedKey} {kvs : List NE} {A : Around} {E : Value → Shared → Prop}
theorem dn_get {v : V} {Q : Value → Shared → Prop} (hu : A.units + 64 < cLine) (I : Inv X pins σ H s) (e : DN X.w H a kvs) (hb : (PySem.nestedKind X.prog X.w).is s.heap k b) (l : atN kvs k = some v) (h : ∀ w' s', Inv X pins σ H s' → RelV v w' → Q w' s') :
    wpAny (model X.prog X.w) A (getItem (.ref a) (.ref b)) Q E s := by
  obtain ⟨z, hd, xs, rel, dd⟩ := dn_rd I.hok e
  obtain ⟨w', hw, rw'⟩ := RelO.some_of (v := v) (o := (atKey xs k).map (·.2)) (by rw [← l]; exact relN_at rel k)
  obtain ⟨p, hp, hp2⟩ := Option.map_eq_some_iff.mp hw
  refine wpAny_getItem_heap (knd := PySem.nestedKind X.prog X.w) (show A.units + 1 + 8 < cLine by omega) hb dd hp ?_
  rw [hp2]
  exact h w' _ (I.tok _) rw'
theorem dn_new {P : Program} {w : World} {H' : Hp} {h' : Heap} {a : Addr} {kvs : List NE} {xs : List NU} (z : kvs.length ≤ sizeLine) (hd : (a == sysModules) = false) (rel : Paired RelN kvs xs) (dd : h'.DictOfH (PySem.nestedKind P w) a xs) : ObjOk P w H' h' a (rawN w a kvs) := by
  obtain ⟨o, es, ep, h1, h2, h3, h4, _, h5⟩ := dd
  exact ⟨⟨z, hd, xs, rel, o, es, ep, h1, h2, h3, h4, h5⟩, ⟨o, h1⟩, rawN_st⟩
theorem DN.put {w : World} {H : Hp} {a b : Addr} {kvs : List NE} {k : PySem.NestedKey} {v : V} (e : DN w H a kvs) (hb : NKey H b k) : DN w (upd H a (rawN w a (putN kvs k b v))) a (putN kvs k b v) := by
  have tp : ∀ {c : Addr} {q : PySem.NestedKey}, NKey H c q → NKey (upd H a (rawN w a (putN kvs k b v))) c q := fun {c q} ⟨d, h1, h2⟩ => by
    refine ⟨d, ?_, h2⟩
    have go : ∀ {H' : Hp}, (∀ c ys, H c = some (.tup ys) → H' c = some (.tup ys)) → ∀ {u : V} {d : PyData}, Tp H u d → Tp H' u d := fun {H'} m => @Tp.rec H (fun u d _ => Tp H' u d) (fun us ds _ => TpAll H' us ds) .non .bl .int .str (fun h _ r => .tup (m _ _ h) r) .nil (fun _ _ a b => .cons a b)
    exact go (fun c ys ec => by rw [upd_ne (fun z => by rw [z, e.1] at ec; exact rawN_net (Option.some.inj ec))]; exact ec) h1
  exact ⟨upd_same, fun p hp => putN_keys (fun p hp => tp (e.2 p hp)) (tp hb) p hp⟩
theorem dn_set {v : V} {r : Value} {QQ : Unit → Shared → Prop} (hu : X.A.units + 64 < cLine) (I : Inv X pins σ H s) (e : DN X.w H a kvs) (hb : NKey H b k) (small : kvs.length < sizeLine) (rv : RelV v r)
    (go : ∀ s', Inv X pins σ (upd H a (rawN X.w a (putN kvs k b v))) s' → QQ () s') : wpAny (model X.prog X.w) X.A (dictSet a (.ref b) r) QQ E s := by
  obtain ⟨le, nsys, xs, rel, dd⟩ := dn_rd I.hok e
  have le2 : (putN kvs k b v).length ≤ sizeLine := Nat.le_trans (putN_len kvs k b v) small
  refine wpAny_dictSet_heap (knd := PySem.nestedKind X.prog X.w) (hsz := by rw [← Paired.length rel]; exact le) (show X.A.units + 8 < cLine by omega) (nkey_is I.hok hb) dd fun h' new only => go _ ?_
  obtain ⟨o, es, ep, at_, _⟩ := id new
  exact d_write I (by rw [e.1]; exact True.intro) only ⟨o, at_⟩ (dn_new le2 nsys (relN_put rel k b rv) new)
variable {o i : Expr} {pos : Pos} {td ty : TE}
/-- d[y], y data without lists -/
def tNGet (K : PySem.W.Frag) (w : World) (td ty : TE) : TE := fun σ H Q => td σ H fun x H1 => ty σ H1 fun y H2 => ∃ a kvs b d v, x = .ref a ∧ DN w H2 a kvs ∧ y = .ref b ∧ Dp K H2 (.ref b) d ∧ noL d = true ∧ (nkD d).depth ≤ 8 ∧ atN kvs (nkD d) = some v ∧ Q v H2
theorem pe_nget (hu : X.A.units + 64 < cLine) (ho : PE X o td) (hi : PE X i ty) (hs : NoSl i) : PE X (.Subscript o i pos) (tNGet X.K X.w td ty) := by
  constructor
  intro pins s σ H Q I h
  refine subD_of PySem.F.slot_dict_getitem.lookup hs (thn (ho.run pins s σ H _ I h) ?_)
  rintro u s1 ⟨x, H1, I1, rx, q1⟩
  refine thn (hi.run pins s1 σ H1 _ I1 q1) ?_
  rintro iv s2 ⟨y, H2, I2, ry, a, kvs, b, d, v, rfl, e, rfl, hd, hn, h8, l, q2⟩
  cases rx
  cases ry
  obtain ⟨_, _, xs, _, dd⟩ := dn_rd I2.hok e
  exact ⟨dd.typeIs, dn_get hu I2 e ⟨nested_dp I2 hd hn rfl, h8⟩ l fun w' s3 I3 rw' => ⟨v, H2, I3, rw', q2⟩⟩
end
section
variable {X : Cx}
/-- {k: v for target in iter}: D the new dict -/
def tDcN (w : World) (wi : TI) (g : TG) (tk tv : TE) (vs : List Nat) : TE := fun σ H Q => wi σ H fun J H1 => ∀ D, H1 D = Option.none → ∃ W : Nat → Nat → Hp → Prop, (∃ m, W 0 m (upd H1 D (rawN w D []))) ∧ ∀ i m H, W i m H →
  (J.stop i H ∧ Q (.ref D) H) ∨ (J.go i H ∧ ∃ Nx : Hp → Prop, (∀ H', Nx H' → ∃ m', m' < m ∧ W (i + 1) m' H') ∧ ∀ x H', J.yld i H x H' → g x (wipe σ vs) H' fun σ2 H2 => wipe σ2 vs = wipe σ vs ∧
    tk σ2 H2 fun y H4 => tv σ2 H4 fun z H5 => ∃ b kvs k, y = .ref b ∧ DN w H5 D kvs ∧ NKey H5 b k ∧ kvs.length < sizeLine ∧ Nx (upd H5 D (rawN w D (putN kvs k b z))))
theorem dcN_core {pins : List (Addr × Obj)} {s : Shared} {σ : L2.St} {H : Hp} {Q : VK} {use : Option (Value → Sem Unit)} {Qf : Value → Shared → Prop} {kx vx tg iter : Expr} {scope : Scope} {own : List (Str × Nat)} {pos : Pos} {wi : TI} {g : TG} {tk tv : TE} (hu : X.A.units + 64 < cLine) (hc : X.calm = true) (hN : X.N.Nodup) (hi : PI X tg iter wi) (ok : BlkOk X.N X.env.scope scope own)
    (hg : ∀ (s : Shared) (H : Hp) (C : Addr) (cl : List (Str × Addr)) (fp : List Addr), PG (X.blk s H scope (compEnvC scope cl C X.env) fp) tg g)
    (hk : ∀ (s : Shared) (H : Hp) (C : Addr) (cl : List (Str × Addr)) (fp : List Addr), PE (X.blk s H scope (compEnvC scope cl C X.env) fp) kx tk)
    (hv : ∀ (s : Shared) (H : Hp) (C : Addr) (cl : List (Str × Addr)) (fp : List Addr), PE (X.blk s H scope (compEnvC scope cl C X.env) fp) vx tv) (hs : ∀ x, foldedSetIterable iter X.env x = pure x) (I : Inv X pins σ H s) (h : tDcN X.w wi g tk tv (own.map (·.2)) σ H Q)
    (hRR : ∀ (D : Addr) (ce : Env) (s' : Shared) (m : Str → Option Value) (H' : Hp), Inv X pins σ H' s' → Q (.ref D) H' → s'.heap.Ns ce.locals m → FpOk X pins H' ce.locals → compEnds (model X.prog X.w) X.A X.xe use Qf (.ref D) ce (.ok .next) s') :
    wpAny (model X.prog X.w) X.A (comprehension (.DictComp kx vx [⟨tg, iter, [], 0⟩] scope pos) scope X.env (firstIterPos [⟨tg, iter, [], 0⟩] pos) newDict false (eval iter X.env) use) Qf X.xe s := by
  have hfree : ∀ y ∈ scope.names, y.2 = .free → ∃ c, X.env.cells.lookup y.1 = some c := fun y hy e => (ok.free y hy e).elim (fun k => I.ok.has _ (.inl k)) (fun k => I.ok.has _ (.inr k))
  refine comprehension_at (use := use) rfl hs (closure_ok hfree) ok.kind (fun y hy e => by rw [ok.uniq y hy, e]) (thn (hi.run pins s σ H _ I h) fun xv s1 hx => thn hx fun itv s2 h2 => ?_)
  obtain ⟨it, fp, tn, J, H2, rfl, I2, T, st2, f2, q⟩ := h2
  refine wpAny_newObj_type (newEnv_comp ?_)
  obtain ⟨D, hD⟩ : ∃ D, s2.heap.objs.size = D := ⟨_, rfl⟩
  obtain ⟨W, ⟨m0, w0⟩, turn⟩ := q D (I2.hok.fresh (Nat.le_of_eq hD))
  rw [hD]
  obtain ⟨s3, hs3⟩ : ∃ s3 : Shared, s3 = { s2 with heap := s2.heap.push { cls := .type "dict", data := .dict #[] } } := ⟨_, rfl⟩
  have h3 : s3.heap = s2.heap.push { cls := .type "dict", data := .dict #[] } := by rw [hs3]
  have I3 : Inv X pins σ (upd H2 D (rawN X.w D [])) s3 := by
    rw [hs3]
    refine I2.laid (t' := s2.toks) (fun b o e => Heap.get?_push_of_some _ e) (Nat.le_of_eq hD) ?_
    rw [← hD]
    exact dn_empty s2.heap I2.big
  have f3 : ∀ b ∈ fp, FpOk X pins (upd H2 D (rawN X.w D [])) b ∧ b < s3.heap.objs.size := fun b hb => by
    obtain ⟨o, e, _⟩ := T.obj _ _ st2 b hb
    have hlt := Heap.lt_size e
    refine ⟨⟨?_, (f2 b hb).2⟩, by rw [h3, Heap.size_push]; exact Nat.lt_succ_of_lt hlt⟩
    rw [upd_ne (by rw [← hD]; exact Nat.ne_of_lt hlt)]
    exact (f2 b hb).1
  have hch : ∀ b ∈ fp, (b ∈ X.ex ∨ X.s_0.heap.objs.size ≤ b) ∧ b ≠ X.env.locals ∧ (∀ x c, X.env.cells.lookup x = some c → c ≠ b) ∧ ∀ p ∈ X.pn ++ pins, p.1 ≠ b := fun b hb => ⟨(f3 b hb).1.2.2.2.1, (f3 b hb).1.2.1, (f3 b hb).1.2.2.2.2.1, (f3 b hb).1.2.2.2.2.2⟩
  have I4 := block_start I3 ok hN f3
  rw [← hs3]
  show codeAny _ _ (.compStart (.DictComp kx vx [⟨tg, iter, [], 0⟩] scope pos) 0 (.ref it) (.ref D) (compEnvC scope (cellsFrom (s3.heap.objs.size + 1) scope.names (cloFrom X.env.cells scope.names [])) s3.heap.objs.size X.env)) (compEnds (model X.prog X.w) X.A X.xe use Qf (.ref D) (compEnvC scope (cellsFrom (s3.heap.objs.size + 1) scope.names (cloFrom X.env.cells scope.names [])) s3.heap.objs.size X.env)) { s3 with heap := pushCells (s3.heap.push { cls := .type "dict", data := .dict #[] }) scope.names }
  have pg := hg s3 (upd H2 D (rawN X.w D [])) s3.heap.objs.size (cellsFrom (s3.heap.objs.size + 1) scope.names (cloFrom X.env.cells scope.names [])) fp
  have pk := hk s3 (upd H2 D (rawN X.w D [])) s3.heap.objs.size (cellsFrom (s3.heap.objs.size + 1) scope.names (cloFrom X.env.cells scope.names [])) fp
  have pv := hv s3 (upd H2 D (rawN X.w D [])) s3.heap.objs.size (cellsFrom (s3.heap.objs.size + 1) scope.names (cloFrom X.env.cells scope.names [])) fp
  obtain ⟨ce, hce⟩ : ∃ ce, ce = compEnvC scope (cellsFrom (s3.heap.objs.size + 1) scope.names (cloFrom X.env.cells scope.names [])) s3.heap.objs.size X.env := ⟨_, rfl⟩
  have cL : ce.locals = s3.heap.objs.size := by rw [hce]; rfl
  rw [← hce] at I4 pg pk pv ⊢
  have nfp : ∀ b ∈ fp, (upd H2 D (rawN X.w D [])) b = Option.none := fun b hb => (f3 b hb).1.1
  have st4 : tn 0 (pushCells (s3.heap.push { cls := .type "dict", data := .dict #[] }) scope.names) := T.keep _ _ _ st2 fun b _ o e => pushCells_keeps _ _ _ _ (Heap.get?_push_of_some _ (by rw [h3]; exact Heap.get?_push_of_some _ e))
  generalize upd H2 D (rawN X.w D []) = H3 at I3 I4 pg pk pv w0 nfp f3
  have stat : ∀ {σ' : L2.St} {H' : Hp} {s' : Shared}, Inv (X.blk s3 H3 scope ce fp) [] σ' H' s' → (∀ b ∈ fp, H' b = Option.none) → ∀ b ∈ fp, FpOk (X.blk s3 H3 scope ce fp) [] H' b := fun {σ' H' s'} I' hn b hb =>
    ⟨hn b hb, (I'.ok.exf b hb).1, I'.ok.exfs b hb, .inl hb, fun x c e => (I'.ok.exf b hb).2 x c e, fun p hp => absurd (show p ∈ ([] : List (Addr × Obj)) ++ [] from hp) (by simp)⟩
  have loop : ∀ s4 : Shared, Inv (X.blk s3 H3 scope ce fp) [] (wipe σ (own.map (·.2))) H3 s4 → tn 0 s4.heap → codeAny (model X.prog X.w) X.A (.compLoop (.DictComp kx vx [⟨tg, iter, [], 0⟩] scope pos) 0 (.ref it) (.ref D) ce) (compEnds (model X.prog X.w) X.A X.xe use Qf (.ref D) ce) s4 := by
    intro s4 I4 st4
    refine compLoop_anyD (fun n s' => ∃ i H', Inv (X.blk s3 H3 scope ce fp) [] (wipe σ (own.map (·.2))) H' s' ∧ tn i s'.heap ∧ (∀ b ∈ fp, H' b = Option.none) ∧ W i n H') ?_ m0 ⟨0, H3, I4, st4, nfp, w0⟩
    rintro n s5 ⟨i, H5, I5, st5, n5, w5⟩
    rcases turn i n H5 w5 with ⟨stop, qq⟩ | ⟨go, Nx, hNx, step⟩
    · refine thnF (T.done (X.blk s3 H3 scope ce fp) rfl rfl rfl hc i [] s5 _ H5 (fun _ _ => False) I5 (stat I5 n5) st5 stop) fun r s6 ⟨hr, I6⟩ => ?_
      subst hr
      have I7 : Inv X pins σ H5 s6 := I3.call' (ch := fp) I6.os I6.base I6.hok I6.bare hch
      have nC : H5 ce.locals = Option.none := I6.free
      obtain ⟨m, hn, _⟩ := I6.loc
      have f : FpOk X pins H5 ce.locals := by rw [cL] at nC ⊢; exact I3.fpOk (Nat.le_refl _) nC
      exact hRR D ce s6 m H5 I7 qq hn f
    · refine thnF (T.item (X.blk s3 H3 scope ce fp) rfl rfl rfl hc i [] s5 _ H5 (fun _ _ => False) I5 (stat I5 n5) st5 go) fun r s6 ⟨u, hr, h6⟩ => ?_
      subst hr
      refine thnF h6 fun _ s7 ⟨x, H7, I7, r7, y7, st7, n7⟩ => ?_
      refine thnF (pg.run _ s7 _ H7 x u _ (I7.pinned (stat I7 n7) (T.obj _ _ st7)) r7 (step x H7 y7)) fun _ s8 ⟨σ8, H8, I8, hw8, q8⟩ => ?_
      refine wpAny_tests_nil ?_
      have fin : ∀ {s' : Shared} {H' : Hp}, Inv (X.blk s3 H3 scope ce fp) ([] ++ pinsAt fp s7.heap) σ8 H' s' → Nx H' → ∃ m, m < n ∧ ∃ i H', Inv (X.blk s3 H3 scope ce fp) [] (wipe σ (own.map (·.2))) H' s' ∧ tn i s'.heap ∧ (∀ b ∈ fp, H' b = Option.none) ∧ W i m H' := fun {s' H'} I' nx => by
        obtain ⟨m', hm, w'⟩ := hNx H' nx
        have pin' : ∀ b ∈ fp, ∀ o, s7.heap.get? b = some o → s'.heap.get? b = some o ∧ H' b = Option.none := fun b hb o e =>
          let z := I'.pin (b, o) (List.mem_append_right _ (List.mem_append_right _ (mem_pinsAt hb e)))
          ⟨z.1, z.2.1⟩
        refine ⟨m', hm, i + 1, H', (I'.unpinned (pins := [])).weak (by rw [← hw8, wipe_length]) (fun j v e => ?_), T.keep _ _ _ st7 fun b hb o e => (pin' b hb o e).1, fun b hb => ?_, w'⟩
        · rw [← hw8] at e
          exact (wipe_some e).1
        · obtain ⟨o, e, _⟩ := T.obj _ _ st7 b hb
          exact (pin' b hb o e).2
      rw [if_pos rfl]
      refine thnF (pk.run _ s8 σ8 H8 _ I8 q8) fun z s10 ⟨yk, H10, I10, r10, q10⟩ => ?_
      refine thnF (pv.run _ s10 σ8 H10 _ I10 q10) fun z2 s11 ⟨yv, H11, I11, r11, b, kvs, k, ek, hD11, hb11, hz11, nx⟩ => ?_
      subst ek
      cases r10
      exact dn_set (X := X.blk s3 H3 scope ce fp) hu I11 hD11 hb11 hz11 r11 fun s12 I12 => fin I12 nx
  exact codeAny_compStart_dict (loop _ I4 st4) (T.self X.A 0 _ _ _ st4 (loop _ I4 st4))
theorem pe_dcN {kx vx tg iter : Expr} {scope : Scope} {own : List (Str × Nat)} {pos : Pos} {wi : TI} {g : TG} {tk tv : TE} (hu : X.A.units + 64 < cLine) (hc : X.calm = true) (hN : X.N.Nodup) (hi : PI X tg iter wi) (ok : BlkOk X.N X.env.scope scope own)
    (hg : ∀ (s : Shared) (H : Hp) (C : Addr) (cl : List (Str × Addr)) (fp : List Addr), PG (X.blk s H scope (compEnvC scope cl C X.env) fp) tg g)
    (hk : ∀ (s : Shared) (H : Hp) (C : Addr) (cl : List (Str × Addr)) (fp : List Addr), PE (X.blk s H scope (compEnvC scope cl C X.env) fp) kx tk)
    (hv : ∀ (s : Shared) (H : Hp) (C : Addr) (cl : List (Str × Addr)) (fp : List Addr), PE (X.blk s H scope (compEnvC scope cl C X.env) fp) vx tv) (hs : ∀ x, foldedSetIterable iter X.env x = pure x := by intro _; rfl) :
    PE X (.DictComp kx vx [⟨tg, iter, [], 0⟩] scope pos) (tDcN X.w wi g tk tv (own.map (·.2))) := by
  constructor
  intro pins s σ H Q I h
  rw [arm_eval_DictComp]
  refine dcN_core (use := Option.none) hu hc hN hi ok hg hk hv hs I h fun D ce s' m H' I' q hn f => ⟨m, hn, fun h'' sb => ?_⟩
  obtain ⟨f0, f1, f2, f3, f4, f5⟩ := f
  exact ⟨.ref D, H', I'.turned (t' := s'.toks) (fun b o hb e => (sb.2 b hb).trans e) f0 f1 f3 f4 f5, rfl, q⟩
theorem ps_setDcN {i : Nat} {y : Str} {py spos : Pos} {kx vx tg iter : Expr} {scope : Scope} {own : List (Str × Nat)} {pos : Pos} {wi : TI} {g : TG} {tk tv : TE} (hu : X.A.units + 64 < cLine) (hc : X.calm = true) (hN : X.N.Nodup) (hi : PI X tg iter wi) (ok : BlkOk X.N X.env.scope scope own)
    (hg : ∀ (s : Shared) (H : Hp) (C : Addr) (cl : List (Str × Addr)) (fp : List Addr), PG (X.blk s H scope (compEnvC scope cl C X.env) fp) tg g)
    (hk : ∀ (s : Shared) (H : Hp) (C : Addr) (cl : List (Str × Addr)) (fp : List Addr), PE (X.blk s H scope (compEnvC scope cl C X.env) fp) kx tk)
    (hv : ∀ (s : Shared) (H : Hp) (C : Addr) (cl : List (Str × Addr)) (fp : List Addr), PE (X.blk s H scope (compEnvC scope cl C X.env) fp) vx tv) (hs : ∀ x, foldedSetIterable iter X.env x = pure x := by intro _; rfl) (hy : X.N[i]? = some y) (hyl : X.env.scope.names.lookup y = some .local) (hsw : swapsWith (.DictComp kx vx [⟨tg, iter, [], 0⟩] scope pos) (some (.Name y py)) spos.line X.env = pure true) :
    PS X (.Assign [.Name y py] (.DictComp kx vx [⟨tg, iter, [], 0⟩] scope pos) spos) (tAsg (tDcN X.w wi g tk tv (own.map (·.2))) (gName i)) := by
  constructor
  intro pins s σ H D I h
  rw [exec_Assign_Name_used _ _ _ _ hsw]
  refine wpAny_bind (wpAny_standAt (wpAny_bind ?_))
  show wpAny _ X.A (do let _ ← comprehension (.DictComp kx vx [⟨tg, iter, [], 0⟩] scope pos) scope X.env (firstIterPos [⟨tg, iter, [], 0⟩] pos) newDict false (eval iter X.env) (some (assign (.Name y py) X.env))) _ _ s
  have h : tDcN X.w wi g tk tv (own.map (·.2)) σ H (fun x H1 => gName i x σ H1 D.nx) := h
  refine wpAny_bind (thn (dcN_core (Qf := fun _ s' => SP X pins D .next s') hu hc hN hi ok hg hk hv hs I h fun L C s' m H' I' q hn f => ?_) fun _ s' hq => wpAny_pure (wpAny_pure hq))
  show wpAny _ _ (assign (.Name y py) X.env (.ref L)) _ _ _
  refine wpAny_assign_Name (store_ok2 (v := V.ref L) I' hN hy (.inl hyl) rfl (fun s2 I2 ⟨a, sb, ha⟩ => ?_) (.inr hyl))
  obtain ⟨f0, f1, f2, f3, f4, f5⟩ := f
  have apart : C.locals ≠ a := ha.elim (fun z => by rw [z]; exact f1) (fun z e => f4 y a z e.symm)
  exact ⟨m, hn.sameBut sb apart, fun h3 sb3 => ⟨_, H', I2.turned (t' := s2.toks) (fun b o hb e => (sb3.2 b hb).trans e) f0 f1 f3 f4 f5, q⟩⟩
theorem sw_trueD {kx vx : Expr} {gs : List Comprehension} {scope : Scope} {pos py : Pos} {y : Str} {l : Nat} {env : Env} (hk : env.scope.kind = .function) (hy : env.scope.names.lookup y = some .local) (hl : (py.line == pos.line) = true)
    (ha : (scope.names.any fun (n, k) => n == y && (k == .local || k == .cell)) = false) : swapsWith (.DictComp kx vx gs scope pos) (some (.Name y py)) l env = pure true := by
  have k1 : env.blockKind = .function := by unfold Env.blockKind; rw [hk]; rfl
  have k2 : env.kindOf y = some .local := hy
  unfold swapsWith
  simp only [k1, k2, ha, Expr.pos, hl]
  rfl
end
theorem dcN_it {wo : World} {J : It} {n : Nat} {G : Hp → Prop} {Y : Nat → Hp → V → Hp → Prop} (w : Walk J n G Y) {g : TG} {tk tv : TE} {vs : List Nat} {σ : L2.St} {H1 : Hp} {D : Addr} {Qd : Hp → Prop} (Pv : Nat → Hp → Prop) (h0 : Pv 0 (upd H1 D (rawN wo D []))) (hG : ∀ i H, i ≤ n → Pv i H → G H)
    (hs : ∀ i x H H', i < n → Pv i H → Y i H x H' → g x (wipe σ vs) H' fun σ2 H2 => wipe σ2 vs = wipe σ vs ∧ tk σ2 H2 fun y H4 => tv σ2 H4 fun z H5 => ∃ b kvs k, y = .ref b ∧ DN wo H5 D kvs ∧ NKey H5 b k ∧ kvs.length < sizeLine ∧ Pv (i + 1) (upd H5 D (rawN wo D (putN kvs k b z)))) (hd : ∀ H, Pv n H → Qd H) :
    ∃ W : Nat → Nat → Hp → Prop, (∃ m, W 0 m (upd H1 D (rawN wo D []))) ∧ ∀ i m H, W i m H →
      (J.stop i H ∧ Qd H) ∨ (J.go i H ∧ ∃ Nx : Hp → Prop, (∀ H', Nx H' → ∃ m', m' < m ∧ W (i + 1) m' H') ∧ ∀ x H', J.yld i H x H' → g x (wipe σ vs) H' fun σ2 H2 => wipe σ2 vs = wipe σ vs ∧
        tk σ2 H2 fun y H4 => tv σ2 H4 fun z H5 => ∃ b kvs k, y = .ref b ∧ DN wo H5 D kvs ∧ NKey H5 b k ∧ kvs.length < sizeLine ∧ Nx (upd H5 D (rawN wo D (putN kvs k b z)))) := by
  refine ⟨fun i m H => m = n - i ∧ i ≤ n ∧ Pv i H, ⟨n, by simp, Nat.zero_le _, h0⟩, ?_⟩
  rintro i m H ⟨rfl, hi, p⟩
  have q := hG i H hi p
  by_cases hlt : i < n
  · exact .inr ⟨w.goes i H hlt q, Pv (i + 1), fun H' p' => ⟨n - (i + 1), by omega, rfl, hlt, p'⟩, fun x H' y => hs i x H H' hlt p (w.yields i H x H' hlt q y)⟩
  · have e : i = n := by omega
    subst e
    exact .inl ⟨w.stops H q, hd H p⟩
/-! ### {} and setdefault of a dict with nested keys -/
section
variable {X : Cx}
def tDNewN (w : World) : TE := fun _ H Q => ∀ p, H p = none → Q (.ref p) (upd H p (rawN w p []))
theorem pe_dnewN {pos : Pos} : PE X (.Dict [] [] pos) (tDNewN X.w) := ⟨fun pins s σ H Q I h =>
  wpAny_Dict_empty ⟨.ref s.heap.objs.size, _, I.laid (a := s.heap.objs.size) (o := rawN X.w s.heap.objs.size []) (t' := s.toks) (fun _ _ q => Heap.get?_push_of_some _ q) (Nat.le_refl _) (dn_empty s.heap I.big), rfl, h _ (I.hok.fresh (Nat.le_refl _))⟩⟩
def tNSetd (w : World) (td ty tx : TE) : TE := fun σ H Q => td σ H fun x H1 => ∃ a kvs1, x = .ref a ∧ DN w H1 a kvs1 ∧ ty σ H1 fun y H2 => tx σ H2 fun z H3 => ∃ kvs b k, y = .ref b ∧ DN w H3 a kvs ∧ NKey H3 b k ∧ kvs.length < sizeLine ∧
  (∀ v, atN kvs k = some v → Q v H3) ∧ (atN kvs k = none → Q z (upd H3 a (rawN w a (putN kvs k b z))))
variable {o e f : Expr} {td ty tx : TE} {apos cpos : Pos}
theorem pe_nsetd (hu : X.A.units + 64 < cLine) (ho : PE X o td) (he : PE X e ty) (hf : PE X f tx) (m : M2 X o "setdefault" apos e f cpos) : PE X (.Call (.Attribute o "setdefault" apos) [e, f] [] cpos) (tNSetd X.w td ty tx) := by
  refine ⟨fun pins s σ H Q I h => ?_⟩
  refine wpAny_Call_method m.base m.few m.line PySem.F.plainAttrs_dict PySem.F.slot_dict_setdefault PySem.F.type_dict_setdefault (thn (ho.run pins s σ H _ I h) fun u s1 ⟨x, H1, I1, rx, a, kvs1, ex, d, q1⟩ => ?_)
  subst ex
  obtain rfl : u = Value.ref a := rx
  obtain ⟨_, _, xs1, _, dd1⟩ := dn_rd I1.hok d
  refine ⟨dd1.typeIs, fun b q => ?_, ?_⟩
  · cases q
    obtain ⟨ob, _, _, h1, h2, _⟩ := dd1
    exact ⟨ob, h1, h2.2.1⟩
  rw [m.trees]
  refine Calls.callWith_builtin rfl (Calls.evalArgs_plain (Calls.spliced_cons (thn (he.run pins s1 σ H1 _ I1 q1) fun iv s2 ⟨y, H2, I2, ry, q2⟩ =>
    Calls.spliced_cons (thn (hf.run pins s2 σ H2 _ I2 q2) fun fv s3 ⟨z, H3, I3, rz, kvs, b, k, ey, dn, nk, hl, q3, q4⟩ => Calls.spliced_nil ?_))))
  subst ey
  obtain rfl : iv = Value.ref b := ry
  obtain ⟨le, nsys, xs, rel, dd⟩ := dn_rd I3.hok dn
  refine call_setdefault_heap (knd := PySem.nestedKind X.prog X.w) (hsz := by rw [← Paired.length rel]; exact le) (show X.A.units + 1 + 8 < cLine by omega) (nkey_is I3.hok nk) nsys dd (fun p hp => ?_) fun hn h' new only => ?_
  · have r := relN_at rel k
    rw [hp] at r
    cases q0 : atN kvs k with
    | none => rw [q0] at r; exact (show False from r).elim
    | some v => rw [q0] at r; exact ⟨v, H3, I3.tok _, r, q3 v q0⟩
  · have r := relN_at rel k
    rw [hn] at r
    cases q0 : atN kvs k with
    | some v => rw [q0] at r; exact (show False from r).elim
    | none =>
      have le2 : (putN kvs k b z).length ≤ sizeLine := Nat.le_trans (putN_len kvs k b z) hl
      refine ⟨z, _, ?_, rz, q4 q0⟩
      obtain ⟨o, es, ep, at_, _⟩ := id new
      exact d_write I3 (by rw [dn.1]; exact True.intro) only ⟨o, at_⟩ (dn_new le2 nsys (relN_put rel k b rz) new)
end
/-! ### things frozen for good -/
section
variable {X : Cx}
/-- from here on the things at these places stay as they are -/
def Frz : List Addr → (Hp → Prop) → Hp → Prop
  | [], Q, H => Q H
  | a :: as, Q, H => ∃ u, H a = some u ∧ Mut (some u) ∧ ∀ o, Frz as Q (upd H a (.frz o u))
theorem frz_run {pins : List (Addr × Obj)} {σ : L2.St} {s : Shared} {Q : Hp → Prop} : ∀ {as : List Addr} {H : Hp}, Inv X pins σ H s → Frz as Q H → ∃ H2, Inv X pins σ H2 s ∧ Q H2
  | [], H, I, q => ⟨H, I, q⟩
  | _ :: _, _, I, ⟨_, hu, mu, q⟩ => by
    obtain ⟨od, I1⟩ := I.lock hu mu
    exact frz_run I1 (q od)
theorem frz_all {Q : Hp → Prop} : ∀ {as : List Addr} {H : Hp}, as.Nodup → (∀ a ∈ as, ∃ u, H a = some u ∧ Mut (some u)) →
    (∀ H2, (∀ b, b ∉ as → H2 b = H b) → (∀ a ∈ as, ∃ o u, H a = some u ∧ H2 a = some (.frz o u)) → Q H2) → Frz as Q H
  | [], H, _, _, q => q H (fun _ _ => rfl) (fun _ h => nomatch h)
  | a :: as, H, nd, m, q => by
    obtain ⟨u, hu, mu⟩ := m a (List.mem_cons_self ..)
    obtain ⟨na, nd2⟩ := List.nodup_cons.mp nd
    have ne : ∀ b ∈ as, b ≠ a := fun b hb z => na (z ▸ hb)
    refine ⟨u, hu, mu, fun o => frz_all nd2 (fun b hb => ?_) fun H2 h1 h2 => q H2 (fun b hb => ?_) fun b hb => ?_⟩
    · rw [upd_ne (ne b hb)]
      exact m b (List.mem_cons_of_mem _ hb)
    · rw [h1 b (fun z => hb (List.mem_cons_of_mem _ z)), upd_ne (fun z => hb (by rw [z]; exact List.mem_cons_self ..))]
    · rcases List.mem_cons.mp hb with rfl | hb
      · exact ⟨o, u, hu, by rw [h1 b na, upd_same]⟩
      · obtain ⟨o', u', e1, e2⟩ := h2 b hb
        rw [upd_ne (ne b hb)] at e1
        exact ⟨o', u', e1, e2⟩
def tFrz (t : TE) : TE := fun σ H Q => t σ H fun v H1 => ∃ as, Frz as (Q v) H1
theorem pe_frz {e : Expr} {t : TE} (h : PE X e t) : PE X e (tFrz t) := ⟨fun pins s σ H Q I hw => thn (h.run pins s σ _ _ I hw) fun u s1 ⟨x, H1, I1, rx, as, q⟩ => by
  obtain ⟨H2, I2, q2⟩ := frz_run I1 q
  exact ⟨x, H2, I2, rx, q2⟩⟩
/-- one thing, new since H0 -/
theorem frz_one {Q : Hp → Prop} {H : Hp} {a : Addr} {u : HO} (h : H a = some u) (mu : Mut (some u)) (q : ∀ o, Q (upd H a (.frz o u))) : ∃ as, Frz as Q H := ⟨[a], u, h, mu, q⟩
end
/-! ### a frozen dict with nested keys: read and walked -/
def DNf (w : World) (H : Hp) (a : Addr) (kvs : List NE) : Prop := (∃ o, H a = some (.frz o (rawN w a kvs))) ∧ ∀ p ∈ kvs, NKey H p.2.1 p.1
theorem DNf.nl {w : World} {H H' : Hp} {a : Addr} {kvs : List NE} (m : NL H H') (h : DNf w H a kvs) : DNf w H' a kvs := by
  obtain ⟨⟨o, e⟩, k⟩ := h
  exact ⟨⟨o, m _ _ e fun _ z => nomatch z⟩, fun p hp => (k p hp).nl m⟩
theorem rel_is {P : Program} {w : World} {H : Hp} {h : Heap} (ok : HOk P w H h) : ∀ {l : List NE} {m : List NU}, Paired RelN l m → (∀ p ∈ l, NKey H p.2.1 p.1) → ∀ x ∈ m, (PySem.nestedKind P w).is h x.1 x.2.1 := by
  intro l m q
  induction q with
  | nil => intro _ x hx; exact nomatch hx
  | @cons p q ps qs hq t ih =>
    intro hk x hx
    rcases List.mem_cons.mp hx with e | hx
    · subst e
      have z := nkey_is (P := P) (w := w) ok (hk p (List.mem_cons_self ..))
      rw [hq.1, hq.2.1] at z
      exact z
    · exact ih (fun p hp => hk p (List.mem_cons_of_mem _ hp)) x hx
theorem dnf_rd {P : Program} {w : World} {H : Hp} {h : Heap} {a : Addr} {kvs : List NE} (ok : HOk P w H h) (e : DNf w H a kvs) : kvs.length ≤ sizeLine ∧ (a == sysModules) = false ∧ ∃ xs, Paired RelN kvs xs ∧ h.DictOfH (PySem.nestedKind P w) a xs := by
  obtain ⟨⟨o, e⟩, k⟩ := e
  obtain ⟨_, ⟨z, y, xs, r, o2, es, ep, h1, h2, h3, h4, h5⟩, _⟩ := (show ObjOk P w H h a (.frz o (rawN w a kvs)) from ok a _ e)
  exact ⟨z, y, xs, r, o2, es, ep, h1, h2, h3, h4, rel_is ok r k, h5⟩
section
variable {X : Cx}
/-- d.get(y, z), y data without lists -/
def tNGet2 (K : PySem.W.Frag) (w : World) (td ty tx : TE) : TE := fun σ H Q => td σ H fun x H1 => ∃ a kvs1, x = .ref a ∧ DNf w H1 a kvs1 ∧ ty σ H1 fun y H2 => tx σ H2 fun z H3 => ∃ kvs b d, y = .ref b ∧ DNf w H3 a kvs ∧ Dp K H3 (.ref b) d ∧ noL d = true ∧ (nkD d).depth ≤ 8 ∧ Q ((atN kvs (nkD d)).getD z) H3
theorem relO_get {o : Option V} {p : Option Value} {z : V} {u : Value} (h : RelO o p) (r : RelV z u) : RelV (o.getD z) (p.getD u) := by
  cases o <;> cases p
  · exact r
  · exact False.elim h
  · exact False.elim h
  · exact h
variable {o e f : Expr} {td ty tx : TE} {apos cpos : Pos}
theorem pe_nget2 (hu : X.A.units + 64 < cLine) (ho : PE X o td) (he : PE X e ty) (hf : PE X f tx) (m : M2 X o "get" apos e f cpos) : PE X (.Call (.Attribute o "get" apos) [e, f] [] cpos) (tNGet2 X.K X.w td ty tx) := by
  refine ⟨fun pins s σ H Q I h => ?_⟩
  refine wpAny_Call_method m.base m.few m.line PySem.F.plainAttrs_dict PySem.F.slot_dict_get PySem.F.type_dict_get (thn (ho.run pins s σ H _ I h) fun u s1 ⟨x, H1, I1, rx, a, kvs1, ex, d, q1⟩ => ?_)
  subst ex
  obtain rfl : u = Value.ref a := rx
  obtain ⟨_, _, xs1, _, dd1⟩ := dnf_rd I1.hok d
  refine ⟨dd1.typeIs, fun b q => ?_, ?_⟩
  · cases q
    obtain ⟨ob, _, _, h1, h2, _⟩ := dd1
    exact ⟨ob, h1, h2.2.1⟩
  rw [m.trees]
  refine Calls.callWith_builtin rfl (Calls.evalArgs_plain (Calls.spliced_cons (thn (he.run pins s1 σ H1 _ I1 q1) fun iv s2 ⟨y, H2, I2, ry, q2⟩ =>
    Calls.spliced_cons (thn (hf.run pins s2 σ H2 _ I2 q2) fun fv s3 ⟨z, H3, I3, rz, kvs, b, d3, ey, dn, hd, hn, h8, q3⟩ => Calls.spliced_nil ?_))))
  subst ey
  obtain rfl : iv = Value.ref b := ry
  obtain ⟨le, nsys, xs, rel, dd⟩ := dnf_rd I3.hok dn
  have hk : (PySem.nestedKind X.prog X.w).is s3.heap (nkD d3) b := ⟨nested_dp I3 hd hn rfl, h8⟩
  refine call_meetsIn PySem.F.slot_dict_get dd.typeIs PySem.F.entry_dict_get (PySem.F.args_dict_get_3 _ _ _) (meetsH_dict_get_default (PySem.nestedKind X.prog X.w) a b nsys fv) ⟨show X.A.units + 1 + 8 < cLine by omega, nkD d3, xs, hk, dd, ?_⟩
  exact ⟨_, H3, I3.tok _, relO_get (relN_at rel (nkD d3)) rz, q3⟩
/-- d[y] -/
def tNGetF (K : PySem.W.Frag) (w : World) (td ty : TE) : TE := fun σ H Q => td σ H fun x H1 => ty σ H1 fun y H2 => ∃ a kvs b d v, x = .ref a ∧ DNf w H2 a kvs ∧ y = .ref b ∧ Dp K H2 (.ref b) d ∧ noL d = true ∧ (nkD d).depth ≤ 8 ∧ atN kvs (nkD d) = some v ∧ Q v H2
theorem dnf_get {pins : List (Addr × Obj)} {σ : L2.St} {H : Hp} {s : Shared} {a b : Addr} {k : PySem.NestedKey} {kvs : List NE} {A : Around} {E : Value → Shared → Prop} {v : V} {Q : Value → Shared → Prop} (hu : A.units + 64 < cLine) (I : Inv X pins σ H s) (e : DNf X.w H a kvs) (hb : (PySem.nestedKind X.prog X.w).is s.heap k b) (l : atN kvs k = some v)
    (h : ∀ w' s', Inv X pins σ H s' → RelV v w' → Q w' s') : wpAny (model X.prog X.w) A (getItem (.ref a) (.ref b)) Q E s := by
  obtain ⟨_, _, xs, rel, dd⟩ := dnf_rd I.hok e
  have r := relN_at rel k
  rw [l] at r
  obtain ⟨w', hw, rw'⟩ := RelO.some_of r
  obtain ⟨p, hp, hp2⟩ := Option.map_eq_some_iff.mp hw
  refine wpAny_getItem_heap (knd := PySem.nestedKind X.prog X.w) (show A.units + 1 + 8 < cLine by omega) hb dd hp ?_
  rw [hp2]
  exact h w' _ (I.tok _) rw'
theorem pe_ngetF {i : Expr} {pos : Pos} (hu : X.A.units + 64 < cLine) (ho : PE X o td) (hi : PE X i ty) (hs : NoSl i) : PE X (.Subscript o i pos) (tNGetF X.K X.w td ty) := by
  constructor
  intro pins s σ H Q I h
  refine subD_of PySem.F.slot_dict_getitem.lookup hs (thn (ho.run pins s σ H _ I h) ?_)
  rintro u s1 ⟨x, H1, I1, rx, q1⟩
  refine thn (hi.run pins s1 σ H1 _ I1 q1) ?_
  rintro iv s2 ⟨y, H2, I2, ry, a, kvs, b, d, v, rfl, e, rfl, hd, hn, h8, l, q2⟩
  cases rx
  cases ry
  obtain ⟨_, _, xs, _, dd⟩ := dnf_rd I2.hok e
  exact ⟨dd.typeIs, dnf_get hu I2 e ⟨nested_dp I2 hd hn rfl, h8⟩ l fun w' s3 I3 rw' => ⟨v, H2, I3, rw', q2⟩⟩
/-- the keys of a frozen dict, in their order -/
def ItN (w : World) (d : Addr) (o : Obj) (kvs : List NE) : It :=
  ⟨fun i H => H d = some (.frz o (rawN w d kvs)) ∧ i < kvs.length, fun i H x H' => H' = H ∧ ∃ p, kvs[i]? = some p ∧ x = .ref p.2.1, fun i H => H d = some (.frz o (rawN w d kvs)) ∧ kvs.length ≤ i⟩
theorem frzN {pins : List (Addr × Obj)} {σ : L2.St} {H : Hp} {s : Shared} {d : Addr} {o : Obj} {kvs : List NE} (I : Inv X pins σ H s) (h : H d = some (.frz o (rawN X.w d kvs))) :
    (d == sysModules) = false ∧ s.heap.get? d = some o ∧ o.ExactDict ∧ ∃ (es : Array DictEntry) (ep : Nat), o.data = .dict es ep ∧ es.size = kvs.length ∧ ∀ (i : Nat) (p : NE), kvs[i]? = some p → ∃ en : DictEntry, es[i]? = some en ∧ en.key = .ref p.2.1 := by
  obtain ⟨hd, ⟨z, hs, xs, pr, o', es, ep, ho, hx, hdt, he, _⟩, _⟩ := (show ObjOk X.prog X.w H s.heap d (.frz o (rawN X.w d kvs)) from I.hok d _ h)
  rw [hd] at ho
  cases ho
  have lx : kvs.length = xs.length := Paired.length pr
  have le : es.size = xs.length := by
    have := congrArg List.length he
    rwa [Array.length_toList, List.length_map] at this
  refine ⟨hs, hd, hx, es, ep, hdt, by omega, fun i p e => ?_⟩
  have hi : i < xs.length := by rw [← lx]; exact (List.getElem?_eq_some_iff.mp e).1
  obtain ⟨b, hb⟩ : ∃ b, xs[i]? = some b := ⟨_, List.getElem?_eq_getElem hi⟩
  have e2 : es[i]? = some (entN X.w b) := by
    have q : es.toList[i]? = (xs.map (entN X.w))[i]? := by rw [he]
    rw [List.getElem?_map, hb] at q
    rw [← Array.getElem?_toList]
    exact q
  have e3 : p.2.1 = b.2.1 := by
    have at_ : ∀ {l : List NE} {m : List NU}, Paired RelN l m → ∀ {i : Nat} {p : NE} {b : NU}, l[i]? = some p → m[i]? = some b → p.2.1 = b.2.1 := by
      intro l m q
      induction q with
      | nil => intro i p b e; exact nomatch e
      | cons hq t ih =>
        intro i p b e1 e2
        cases i with
        | zero => cases e1; cases e2; exact hq.2.1
        | succ i => exact ih e1 e2
    exact at_ pr e hb
  exact ⟨_, e2, by rw [e3]; rfl⟩
theorem turn_keysN {P : Program} {w : World} {K : PySem.W.Frag} {tg : Expr} {d : Addr} {o : Obj} {es : Array DictEntry} {ep : Nat} {kvs : List NE} (j : Addr) (hod : o.data = .dict es ep) : Turn P w K tg (ItN w d o kvs) [j] j (fun i h => h.IsKeyIter j d i kvs.length ep) where
  mem := List.mem_singleton.mpr rfl
  obj := fun i h st b hb => by
    obtain rfl : b = j := List.mem_singleton.mp hb
    obtain ⟨oi, e, c, dd⟩ := st
    refine ⟨oi, e, fun v z => ?_⟩
    rw [dd] at z
    cases z
  keep := fun i h h' st k => st.at fun oi e => k j (List.mem_singleton.mpr rfl) oi e
  item := by
    intro X hP hw hK hc i pins s σ H E I hf st hg
    subst hP hw hK
    obtain ⟨hd, hi⟩ := hg
    obtain ⟨z0, z1, z2, z3, z4, z5⟩ := hf j (List.mem_singleton.mpr rfl)
    obtain ⟨hs, hgd, hx, es', ep', hdt, hsz, ent⟩ := frzN I hd
    obtain ⟨rfl, rfl⟩ := dict_ep hod hdt
    have hp := List.getElem?_eq_getElem hi
    obtain ⟨en, hen, hkey⟩ := ent i _ hp
    refine next_key_item st hgd hdt hsz hen fun h' st' sb => ?_
    have I1 : Inv X pins σ H { s with heap := h' } := I.turned (t' := s.toks) (fun b ob nb eb => (sb.2 b nb).trans eb) z0 z1 z3 z4 z5
    obtain ⟨oi, e, c, dd⟩ := id st'
    exact ⟨en.key, rfl, go_of (s := { s with heap := h' }) e c dd (by decide) ⟨.ref kvs[i].2.1, H, I1, hkey, ⟨rfl, _, hp, rfl⟩, st', fun b nb => (hf b nb).1⟩⟩
  done := by
    intro X hP hw hK hc i pins s σ H E I hf st hg
    subst hP hw hK
    obtain ⟨hd, hi⟩ := hg
    obtain ⟨z0, z1, z2, z3, z4, z5⟩ := hf j (List.mem_singleton.mpr rfl)
    obtain ⟨hs, hgd, hx, es', ep', hdt, hsz, ent⟩ := frzN I hd
    obtain ⟨rfl, rfl⟩ := dict_ep hod hdt
    exact next_key_end (I.ok.hd hc) st hgd hdt hsz hi fun h' eb => ⟨rfl, I.turned (t' := s.toks) (fun b ob nb q => eb b ob nb q) z0 z1 z3 z4 z5⟩
  self := fun A i s Q E st h => wpAny_pyIter_keyiter st h
def iKeysN (w : World) (td : TE) : TI := fun σ H R => td σ H fun x H1 => ∃ d o kvs, x = .ref d ∧ H1 d = some (.frz o (rawN w d kvs)) ∧ R (ItN w d o kvs) H1
theorem pi_keysN {tg : Expr} (he : PE X e td) : PI X tg e (iKeysN X.w td) := by
  refine ⟨fun pins s σ H R I h => ?_⟩
  refine thn (he.run pins s σ H _ I h) fun u s1 ⟨x, H1, I1, rx, d, o, kvs, ex, hd, q⟩ => ?_
  subst ex
  obtain rfl : u = Value.ref d := rx
  obtain ⟨hs, hgd, hx, es, ep, hdt, hsz, ent⟩ := frzN I1 hd
  refine iter_keys hs hgd hx hdt (pi_one (tk := s1.toks) I1 _ (turn_keysN _ hdt) ⟨_, Heap.get?_push_size _ rfl, rfl, ?_⟩ q)
  rw [hsz] <;> rfl
theorem walk_keysN {w : World} {d : Addr} {o : Obj} {kvs : List NE} : Walk (ItN w d o kvs) kvs.length (fun H => H d = some (.frz o (rawN w d kvs))) (fun i H x H' => H' = H ∧ ∃ p, kvs[i]? = some p ∧ x = .ref p.2.1) where
  goes := fun i H hi g => ⟨g, hi⟩
  stops := fun H g => ⟨g, Nat.le_refl _⟩
  yields := fun i H x H' hi g h => h
end
/-! ### o.m(*y, e); len of a set of tuples -/
section
variable {X : Cx}
theorem starcallA_of {M : Model} {A : Around} {E : Value → Shared → Prop} {s : Shared} {env : Env} {o e1 e2 : Expr} {m : Str} {p apos pos : Pos} {Q : Value → Shared → Prop} (hb : attributeBase o m env (eval o env) = eval o env)
    (hs : starEach [.Starred e1 p, e2] env = [(true, eval e1 env), (false, eval e2 env)])
    (h : wpAny M A (eval o env) (fun ov s₁ => wpAny M A (getAttr ov m true) (fun f s₂ => wpAny M A (callWith pos f [] (backTo pos [(true, eval e1 env), (false, eval e2 env)]) []) Q E s₂) E s₁) E s) :
    wpAny M A (eval (.Call (.Attribute o m apos) [.Starred e1 p, e2] [] pos) env) Q E s := by
  have k1 : backToKw pos (keywordEach [] env) = [] := rfl
  have k2 : methodCallForm ([Expr.Starred e1 p, e2].length + ([] : List Keyword).length) (backTo pos [(true, eval e1 env), (false, eval e2 env)]) [] = false := rfl
  have k3 : methodCallPos false o env apos pos = pure pos := rfl
  have k4 : ∀ ov, calleeOf false o env ov m = (getAttr ov m true >>= fun v => pure (v, [])) := fun _ => rfl
  rw [arm_eval_Call, hb, hs, k1]
  refine wpAny_bind (wpAny_mono h (fun ov s₁ g => wpAny_bind (wpAny_standAt ?_)) fun _ _ z => z)
  unfold methodCall
  rw [k2, k3, k4]
  refine wpAny_bind (wpAny_holding (wpAny_bind (wpAny_mono g (fun f s₂ g2 => wpAny_pure ?_) fun _ _ z => z)))
  exact wpAny_bind (wpAny_pure g2)
theorem evalArgs_two {M : Model} {A : Around} {E : Value → Shared → Prop} {s : Shared} {f : Value} {a b : Bool × Sem Value} {Q : Args → Shared → Prop} (h : wpAny M A (spliced [a, b]) (fun vs s2 => Q ⟨vs, []⟩ s2) E s) : wpAny M A (evalArgs f true [a, b] []) Q E s := by
  unfold evalArgs
  obtain ⟨p, x⟩ := a
  cases p <;>
  · refine wpAny_bind (wpAny_mono h (fun vs s2 g => ?_) fun _ _ z => z)
    exact wpAny_holding (wpAny_bind (wpAny_pure (wpAny_bind (wpAny_pure (wpAny_pure g)))))
/-- o.m(*y, e) -/
def tMethSA (K : PySem.W.Frag) (C : Addr) (m : Str) (g : Addr) (sp : Sp) (E : XK) (ta t1 t2 : TE) : TE := fun σ H Q => ta σ H fun x H1 => ∃ a dx fs, x = .ref a ∧ H1 a = some (.ins C dx fs) ∧ fs.lookup m = none ∧
  ∀ q, H1 q = none → t1 σ (upd H1 q (.met g a)) fun y1 H2 => ∃ b vs, y1 = .ref b ∧ (SqT K H2 b vs ∨ SqL K H2 b vs) ∧ t2 σ H2 fun y2 H3 => H3 q = some (.met g a) ∧ sp (.ref a :: (vs ++ [y2])) H3 Q E
theorem pe_methSA {CX : CXT} {k : Nat} {C g : Addr} {m : Str} {sp : Sp} {E : XK} {o e1 e2 : Expr} {ta t1 t2 : TE} {p apos pos : Pos} (he : PE X o ta) (c : Cls X.K C) (b : BMeth X.K C m g) (F : FnR X.prog X.w X.K X.mg X.base CX k g sp) (hr : Room k X.A)
    (hx : Passes CX X E) (h1 : PE X e1 t1) (h2 : PE X e2 t2) (hb : attributeBase o m X.env (eval o X.env) = eval o X.env := by rfl)
    (hs : starEach [.Starred e1 p, e2] X.env = [(true, eval e1 X.env), (false, eval e2 X.env)] := by rfl) : PE X (.Call (.Attribute o m apos) [.Starred e1 p, e2] [] pos) (tMethSA X.K C m g sp E ta t1 t2) := by
  refine ⟨fun pins s σ H Q I h => ?_⟩
  refine starcallA_of hb hs (thn (he.run pins s σ H _ I h) fun u s1 ⟨x, H1, I1, rx, a, dx, fs, ex, ea, l, q⟩ => ?_)
  subst ex
  obtain rfl : u = Value.ref a := rx
  refine getbound_ok I1 ea c b l fun q1 s2 hq1 I2 => ?_
  refine PySem.W.ks_call (P := PySem.W.MethP X.K q1 g (.ref a)) rfl (PySem.W.keeps_M b.fi) (evalArgs_two
    (PySem.W.ks_spliced (thn (h1.run pins s2 σ _ _ I2 (q q1 hq1)) fun v1 s3 ⟨y1, H2, I3, ry1, t, vs, ey, ht, q2⟩ => ?_)))
  subst ey
  obtain rfl : v1 = Value.ref t := ry1
  refine StX.star_any I3 ht fun us s4 I4 rv => Calls.spliced_cons (thn (h2.run pins s4 σ H2 _ I4 q2) fun v2 s5 ⟨y2, H3, I5, ry2, hm, hsp⟩ => Calls.spliced_nil ?_)
  show PySem.W.MethP X.K q1 g (.ref a) s5.heap ∧ wpAny (model X.prog X.w) X.A (call (.ref q1) (us ++ [v2]) []) (EP X pins σ Q) X.xe s5
  exact ⟨met_P I5 hm, wpAny_call (PySem.W.method_call (met_P I5 hm).1 (run_fnR (us := Value.ref a :: (us ++ [v2])) (vs := V.ref a :: (vs ++ [y2])) F hr hx I5 (.cons rfl (rv.append (.cons ry2 .nil))) hsp))⟩
/-- len of a set of tuples of ints -/
def rLenTO (K : PySem.W.Frag) (P : Program) (w : World) : List V → Hp → VK → Prop := fun vs H Q => ∃ (a : Addr) (L : List (Addr × List Int)), vs = [V.ref a] ∧ H a = some (SetTO P w a L) ∧ (∀ p ∈ L, SqT K H p.1 (p.2.map V.int)) ∧ Q (.int ((L.length : Nat) : Int)) H
theorem call_lenTO : CallR X (.builtin "len") (rLenTO X.K X.prog X.w) := by
  intro pins s σ H vs us Q I r h
  obtain ⟨a, L, rfl, ha, hk, q⟩ := h
  rw [Vals.ref1 r]
  obtain ⟨R0, _⟩ := (show ObjOk X.prog X.w H s.heap a (SetTO X.prog X.w a L) from I.hok a _ ha)
  obtain ⟨es, ep, t, R⟩ := SetT0.full R0 fun p hp => Inv.isT I (hk p hp)
  obtain ⟨o, ho, hex, hd⟩ := R.ob
  have sz : es.size = L.length := by
    have := congrArg List.length R.rows
    rw [Array.length_toList] at this
    rw [this]
    simp [rowsOf]
  have few := R.few
  refine call_len_set ho hex hd (SetTR.fits R) (by rw [sz]; omega) ⟨.int L.length, H, I.tok _, ⟨_, by rw [sz]⟩, q⟩
end
theorem pa_starK {X : Cx} {K : PySem.W.Frag} {e : Expr} {es : List Expr} {te : TE} {t : TA} {p : Pos} (hK : X.K = K) (he : PE X e te) (hr : PA X es t) (hs : starEach (.Starred e p :: es) X.env = (true, eval e X.env) :: starEach es X.env := by rfl) : PA X (.Starred e p :: es) (StX.tStar K te t) := by
  subst hK
  exact StX.pa_star he hr hs
/-! ### pen strokes -/
abbrev P3 := Int × Int × Int
def plL (p : P3) : List Int := [p.1, p.2.1, p.2.2]
def sideR (lf : Lf) (s : Int) : List Str := if s = 1 then lf.bk else lf.fr
def toksR (z : Str) : List Str := Txt.split z " "
def plB (lf : Lf) (p : P3) : Bool := (decide (p.1 = 0) || decide (p.1 = 1)) && (decide (0 ≤ p.2.1 ∧ p.2.1 < ((sideR lf p.1).length : Nat)) && decide (0 ≤ p.2.2 ∧ p.2.2 < ((toksR ((sideR lf p.1).getD p.2.1.toNat ⟨#[]⟩)).length : Nat)))
def prn (lf : Lf) (p : P3) : Str := (toksR ((sideR lf p.1).getD p.2.1.toNat ⟨#[]⟩)).getD p.2.2.toNat ⟨#[]⟩
def penAt (ss : List Sk) (p : P3) : Option Str := (ss.find? fun s => decide (s.1 = p)).map Prod.snd
def saysL (lf : Lf) (p : P3) : Option Str := if plB lf p then some ((penAt lf.pen p).getD (prn lf p)) else none
def ltP3 (a b : P3) : Bool := HT.lexLt (plL a) (plL b)
def okPen (lf : Lf) (ss : List Sk) : Prop := ∀ s ∈ ss, plB lf s.1 = true ∧ tokB s.2 = true
def okLw (l : Lf) : Prop := okL l.L ∧ rowsB 1 l.fr = true ∧ rowsB 0 l.bk = true ∧ okPen l l.pen ∧ l.pen.Pairwise fun a b => ltP3 a.1 b.1 = true
def okBw (bk : List Lf) : Prop := bk.length ≤ 60 ∧ (∀ l ∈ bk, okLw l) ∧ bk.Pairwise fun a b => HT.lexLt a.L b.L = true
theorem kSk_inj {a b : Sk} : kSk a = kSk b ↔ a.1 = b.1 := by
  obtain ⟨⟨a1, a2, a3⟩, a4⟩ := a
  obtain ⟨⟨b1, b2, b3⟩, b4⟩ := b
  simp [kSk]
theorem plL_inj {a b : P3} (h : plL a = plL b) : a = b := by
  obtain ⟨a1, a2, a3⟩ := a
  obtain ⟨b1, b2, b3⟩ := b
  simp [plL] at h
  simp [h]
theorem penAt_nil {p : P3} : penAt [] p = none := rfl
theorem penAt_cons {s : Sk} {r : List Sk} {p : P3} : penAt (s :: r) p = if s.1 = p then some s.2 else penAt r p := by
  unfold penAt
  by_cases e : s.1 = p <;> simp [List.find?_cons, e]
theorem valT {ss : List Sk} {s : Sk} : valV (entT ss) (kSk s) = (penAt ss s.1).map V.str := by
  induction ss with
  | nil => rfl
  | cons a r ih =>
    rw [penAt_cons]
    by_cases e : a.1 = s.1
    · rw [if_pos e]
      exact valV_pos (p := (kSk a, V.str a.2)) (kSk_inj.mpr e)
    · rw [if_neg e]
      exact (valV_neg (p := (kSk a, V.str a.2)) (fun z => e (kSk_inj.mp z))).trans ih
/-- a stroke laid upon others -/
def putS (ss : List Sk) (s : Sk) : List Sk := if ss.any (fun a => decide (a.1 = s.1)) then ss.map (fun a => if a.1 = s.1 then (a.1, s.2) else a) else ss ++ [s]
theorem any_ent {ss : List Sk} {s : Sk} : ((entT ss).any fun kv => decide (kv.1 = kSk s)) = ss.any fun a => decide (a.1 = s.1) := by
  unfold entT
  rw [List.any_map]
  congr 1
  funext a
  exact decide_eq_decide.mpr kSk_inj
theorem entT_put {ss : List Sk} {s : Sk} : putK (entT ss) (kSk s) (.str s.2) = entT (putS ss s) := by
  unfold putK putS
  rw [any_ent]
  split
  · unfold entT
    rw [List.map_map, List.map_map]
    refine List.map_congr_left fun a _ => ?_
    show (if kSk a = kSk s then (kSk a, V.str s.2) else (kSk a, V.str a.2)) = _
    by_cases e : a.1 = s.1
    · rw [if_pos (kSk_inj.mpr e)]
      show _ = (kSk (if a.1 = s.1 then (a.1, s.2) else a), V.str (if a.1 = s.1 then (a.1, s.2) else a).2)
      rw [if_pos e]
      rfl
    · rw [if_neg (fun z => e (kSk_inj.mp z))]
      show _ = (kSk (if a.1 = s.1 then (a.1, s.2) else a), V.str (if a.1 = s.1 then (a.1, s.2) else a).2)
      rw [if_neg e]
  · unfold entT
    rw [List.map_append]
    rfl
theorem putS_keys {ss : List Sk} {s : Sk} : (putS ss s).map Prod.fst = if ss.any (fun a => decide (a.1 = s.1)) then ss.map Prod.fst else ss.map Prod.fst ++ [s.1] := by
  unfold putS
  split
  · rw [List.map_map]
    refine List.map_congr_left fun a _ => ?_
    show (if a.1 = s.1 then (a.1, s.2) else a).1 = a.1
    split <;> rfl
  · rw [List.map_append]
    rfl
theorem putS_nodup {ss : List Sk} {s : Sk} (h : (ss.map Prod.fst).Nodup) : ((putS ss s).map Prod.fst).Nodup := by
  rw [putS_keys]
  split
  · exact h
  · next hn =>
    rw [List.nodup_append]
    refine ⟨h, by simp, fun a ha b hb e => ?_⟩
    rw [List.mem_singleton.mp hb] at e
    obtain ⟨c, hc, e2⟩ := List.mem_map.mp ha
    exact hn (List.any_eq_true.mpr ⟨c, hc, decide_eq_true (e2.trans e)⟩)
theorem putS_at {ss : List Sk} {s : Sk} {p : P3} : penAt (putS ss s) p = if s.1 = p then some s.2 else penAt ss p := by
  unfold putS
  split
  · next hy =>
    induction ss with
    | nil => cases hy
    | cons a r ih =>
      rw [List.map_cons, penAt_cons, penAt_cons]
      by_cases e : a.1 = s.1
      · rw [if_pos e]
        by_cases e2 : s.1 = p
        · rw [if_pos e2, if_pos (e.trans e2)]
        · rw [if_neg e2]
          have e3 : ¬ a.1 = p := fun z => e2 (e.symm.trans z)
          rw [if_neg e3, if_neg e3]
          have go : ∀ l : List Sk, penAt (l.map fun a => if a.1 = s.1 then (a.1, s.2) else a) p = penAt l p := by
            intro l
            induction l with
            | nil => rfl
            | cons b l ih =>
              rw [List.map_cons, penAt_cons, penAt_cons, ih]
              by_cases e4 : b.1 = s.1
              · rw [if_pos e4]
                have e5 : ¬ b.1 = p := fun z => e2 (e4.symm.trans z)
                rw [if_neg e5, if_neg e5]
              · rw [if_neg e4]
          exact go r
      · rw [if_neg e]
        have hr : (r.any fun a => decide (a.1 = s.1)) = true := by
          rw [List.any_cons, Bool.or_eq_true] at hy
          rcases hy with h | h
          · exact absurd (of_decide_eq_true h) e
          · exact h
        rw [ih hr]
        by_cases e2 : s.1 = p
        · rw [if_pos e2, if_neg (fun z => e (z.trans e2.symm)), if_pos e2]
        · rw [if_neg e2, if_neg e2]
  · next hn =>
    induction ss with
    | nil => rw [List.nil_append, penAt_cons]
    | cons a r ih =>
      have h1 : ¬ a.1 = s.1 := fun z => hn (List.any_eq_true.mpr ⟨a, List.mem_cons_self .., decide_eq_true z⟩)
      have h2 : ¬ (r.any fun a => decide (a.1 = s.1)) = true := fun z => by
        obtain ⟨b, hb, eb⟩ := List.any_eq_true.mp z
        exact hn (List.any_eq_true.mpr ⟨b, List.mem_cons_of_mem _ hb, eb⟩)
      rw [List.cons_append, penAt_cons, penAt_cons, ih h2]
      by_cases e2 : s.1 = p
      · rw [if_pos e2, if_neg (fun z => h1 (z.trans e2.symm)), if_pos e2]
      · rw [if_neg e2, if_neg e2]
theorem putS_mem {ss : List Sk} {s a : Sk} (h : a ∈ putS ss s) : a ∈ ss ∨ a = s := by
  unfold putS at h
  split at h
  · obtain ⟨b, hb, rfl⟩ := List.mem_map.mp h
    by_cases e : b.1 = s.1
    · rw [if_pos e]
      exact .inr (Prod.ext e rfl)
    · rw [if_neg e]
      exact .inl hb
  · rcases List.mem_append.mp h with h | h
    · exact .inl h
    · exact .inr (List.mem_singleton.mp h)
theorem putS_len {ss : List Sk} {s : Sk} : (putS ss s).length ≤ ss.length + 1 := by
  unfold putS
  split
  · rw [List.length_map]; omega
  · rw [List.length_append]; exact Nat.le_refl _
/-- strokes in a row laid upon others -/
def layS (ss : List Sk) (ts : List Sk) : List Sk := ts.foldl putS ss
theorem layS_nodup {ts : List Sk} : ∀ {ss : List Sk}, (ss.map Prod.fst).Nodup → ((layS ss ts).map Prod.fst).Nodup := by
  induction ts with
  | nil => intro ss h; exact h
  | cons t r ih => intro ss h; exact ih (putS_nodup h)
theorem layS_mem {ts : List Sk} : ∀ {ss : List Sk} {a : Sk}, a ∈ layS ss ts → a ∈ ss ∨ a ∈ ts := by
  induction ts with
  | nil => intro ss a h; exact .inl h
  | cons t r ih =>
    intro ss a h
    rcases ih (ss := putS ss t) h with h | h
    · rcases putS_mem h with h | h
      · exact .inl h
      · exact .inr (h ▸ List.mem_cons_self ..)
    · exact .inr (List.mem_cons_of_mem _ h)
theorem layS_len {ts : List Sk} : ∀ {ss : List Sk}, (layS ss ts).length ≤ ss.length + ts.length := by
  induction ts with
  | nil => intro ss; exact Nat.le_refl _
  | cons t r ih =>
    intro ss
    have h1 := ih (ss := putS ss t)
    have h2 : (putS ss t).length ≤ ss.length + 1 := putS_len
    show (layS (putS ss t) r).length ≤ _
    rw [List.length_cons]
    omega
theorem penAt_none {ss : List Sk} {p : P3} (h : p ∉ ss.map Prod.fst) : penAt ss p = none := by
  induction ss with
  | nil => rfl
  | cons a r ih =>
    rw [List.map_cons, List.mem_cons, not_or] at h
    rw [penAt_cons, if_neg (fun z => h.1 z.symm)]
    exact ih h.2
theorem layS_at {ts : List Sk} : ∀ {ss : List Sk} {p : P3}, (ts.map Prod.fst).Nodup → penAt (layS ss ts) p = match penAt ts p with | some z => some z | none => penAt ss p := by
  induction ts with
  | nil => intro ss p _; rfl
  | cons t r ih =>
    intro ss p h
    obtain ⟨h1, h2⟩ := List.nodup_cons.mp (by rw [← List.map_cons]; exact h)
    show penAt (layS (putS ss t) r) p = _
    rw [ih h2, putS_at, penAt_cons]
    by_cases e : t.1 = p
    · subst e
      rw [if_pos rfl, if_pos rfl, penAt_none h1]
    · rw [if_neg e, if_neg e]
theorem putS_new {ss : List Sk} {s : Sk} (h : s.1 ∉ ss.map Prod.fst) : putS ss s = ss ++ [s] := by
  unfold putS
  rw [if_neg]
  intro z
  obtain ⟨b, hb, eb⟩ := List.any_eq_true.mp z
  exact h (by rw [← of_decide_eq_true eb]; exact List.mem_map_of_mem hb)
theorem penAt_mem {ss : List Sk} {p : P3} {z : Str} (h : penAt ss p = some z) : (p, z) ∈ ss := by
  induction ss with
  | nil => cases h
  | cons a r ih =>
    rw [penAt_cons] at h
    by_cases e : a.1 = p
    · rw [if_pos e] at h
      have : a = (p, z) := Prod.ext e (Option.some.inj h)
      rw [← this]
      exact List.mem_cons_self ..
    · rw [if_neg e] at h
      exact List.mem_cons_of_mem _ (ih h)
theorem penAt_of {ss : List Sk} (nd : (ss.map Prod.fst).Nodup) {s : Sk} (h : s ∈ ss) : penAt ss s.1 = some s.2 := by
  induction ss with
  | nil => cases h
  | cons a r ih =>
    obtain ⟨h1, h2⟩ := List.nodup_cons.mp (by rw [← List.map_cons]; exact nd)
    rw [penAt_cons]
    rcases List.mem_cons.mp h with rfl | h
    · rw [if_pos rfl]
    · rw [if_neg (fun z => h1 (by rw [z]; exact List.mem_map_of_mem h))]
      exact ih h2 h
theorem penAt_perm {ss ts : List Sk} (hp : ss.Perm ts) (nd : (ss.map Prod.fst).Nodup) (p : P3) : penAt ss p = penAt ts p := by
  have nd2 : (ts.map Prod.fst).Nodup := (hp.map Prod.fst).nodup_iff.mp nd
  cases e : penAt ss p with
  | some z =>
    have := penAt_of nd2 (hp.mem_iff.mp (penAt_mem e))
    exact this.symm
  | none =>
    cases e2 : penAt ts p with
    | none => rfl
    | some z =>
      have := penAt_of nd (hp.mem_iff.mpr (penAt_mem e2))
      rw [← this, e]
theorem pw_nodup {ss : List Sk} (h : ss.Pairwise fun a b => ltP3 a.1 b.1 = true) : (ss.map Prod.fst).Nodup := by
  rw [List.Nodup, List.pairwise_map]
  refine h.imp fun {a b} q e => ?_
  unfold ltP3 at q
  rw [e, ← dlt_L, dlt_irrefl] at q
  cases q
/-! strokes by the order of data -/
theorem dlt_Sk {a b : Sk} (h : a.1 ≠ b.1) : PySem.W.dataLt (dSk a) (dSk b) = ltP3 a.1 b.1 := by
  obtain ⟨⟨a1, a2, a3⟩, a4⟩ := a
  obtain ⟨⟨b1, b2, b3⟩, b4⟩ := b
  unfold dSk ltP3 plL
  rw [PySem.W.dataLt_tuple, HT.lexLt_cons, HT.lexLt_cons, HT.lexLt_cons]
  have al : ∀ x y : Int, PySem.W.alike (.int x) (.int y) = true := fun _ _ => rfl
  by_cases e1 : a1 = b1
  · subst e1
    rw [if_pos rfl, PySem.W.dataLt_all_yes (al _ _) (by show (a1 == a1) = true; exact beq_self_eq_true a1)]
    by_cases e2 : a2 = b2
    · subst e2
      rw [if_pos rfl, PySem.W.dataLt_all_yes (al _ _) (by show (a2 == a2) = true; exact beq_self_eq_true a2)]
      have e3 : ¬ a3 = b3 := fun z => h (by rw [z])
      rw [if_neg e3, PySem.W.dataLt_all_no (al _ _) (by show (a3 == b3) = false; exact beq_eq_false_iff_ne.mpr e3), PySem.W.dataLt_int]
    · rw [if_neg e2, PySem.W.dataLt_all_no (al _ _) (by show (a2 == b2) = false; exact beq_eq_false_iff_ne.mpr e2), PySem.W.dataLt_int]
  · rw [if_neg e1, PySem.W.dataLt_all_no (al _ _) (by show (a1 == b1) = false; exact beq_eq_false_iff_ne.mpr e1), PySem.W.dataLt_int]
theorem alike_Sk (a b : Sk) : PySem.W.alike (dSk a) (dSk b) = true := by
  unfold dSk
  simp only [PySem.W.alike, PySem.W.alikeAll]
  rfl
theorem alike_Sks (ss : List Sk) : PySem.W.AllAlike (ss.map dSk) := PySem.W.AllAlike.of alike_Sk
theorem sortable_Sks (ss : List Sk) : PySem.W.Sortable (ss.map dSk) := PySem.W.Sortable.tuples fun _ => ⟨_, _, rfl⟩
/-- sorted of strokes at places of their own -/
theorem srt_Sk {H : Hp} {xs : List V} {ss : List Sk} (h : TpAll H xs (ss.map dSk)) (nd : (ss.map Prod.fst).Nodup) : ∃ qs : List Sk, qs.Perm ss ∧ TpAll H ((srtV xs (ss.map dSk)).map Prod.fst) (qs.map dSk) ∧ qs.Pairwise fun a b => ltP3 a.1 b.1 = true := by
  have hp : (srtV xs (ss.map dSk)).Perm (xs.zip (ss.map dSk)) := List.mergeSort_perm ..
  have hm : ∀ b ∈ srtV xs (ss.map dSk), Tp H b.1 b.2 := fun b hb => tpAll_mem h b (hp.mem_iff.mp hb)
  have h2 := tpAll_of _ hm
  have z : (xs.zip (ss.map dSk)).map Prod.snd = ss.map dSk := by
    rw [List.map_snd_zip]
    rw [h.len]
    exact Nat.le_refl _
  have h3 : ((srtV xs (ss.map dSk)).map Prod.snd).Perm (ss.map dSk) := by
    have := hp.map Prod.snd
    rwa [z] at this
  obtain ⟨qs, e, hq⟩ : ∃ qs : List Sk, (srtV xs (ss.map dSk)).map Prod.snd = qs.map dSk ∧ qs.Perm ss := perm_of_map h3
  have le_iff : ∀ a b : V × PyData, PySem.W.dataLe false Prod.snd a b = !PySem.W.dataLt b.2 a.2 := fun a b => rfl
  have pw : (srtV xs (ss.map dSk)).Pairwise fun a b => PySem.W.dataLe false Prod.snd a b = true := by
    refine List.pairwise_mergeSort (fun a b c h1 h2 => ?_) (fun a b => ?_) _
    · rw [le_iff, Bool.not_eq_true'] at *
      exact dle_trans h1 h2
    · rw [le_iff, le_iff]
      cases e1 : PySem.W.dataLt b.2 a.2 with
      | false => rfl
      | true =>
        cases e2 : PySem.W.dataLt a.2 b.2 with
        | false => rfl
        | true =>
          have := dlt_trans e1 e2
          rw [dlt_irrefl] at this
          cases this
  have nq : (qs.map Prod.fst).Nodup := (hq.map Prod.fst).nodup_iff.mpr nd
  refine ⟨qs, hq, by rw [← e]; exact h2, ?_⟩
  have pd : (qs.map dSk).Pairwise fun a b => PySem.W.dataLt b a = false := by
    rw [← e, List.pairwise_map]
    exact pw.imp fun {a b} q => by rw [le_iff, Bool.not_eq_true'] at q; exact q
  rw [List.pairwise_map] at pd
  have n2 : qs.Pairwise fun a b => a.1 ≠ b.1 := by rwa [List.Nodup, List.pairwise_map] at nq
  refine (pd.and n2).imp fun {a b} q => ?_
  have d1 := dlt_Sk (a := b) (b := a) (fun z => q.2 z.symm)
  rw [q.1] at d1
  unfold ltP3 at d1 ⊢
  cases e3 : HT.lexLt (plL a.1) (plL b.1) with
  | true => rfl
  | false =>
    exact absurd (plL_inj (lexLt_total _ _ e3 d1.symm)) q.2
theorem sk_inv {H : Hp} {v : V} {s : Sk} (h : Tp H v (dSk s)) : ∃ a, v = .ref a ∧ H a = some (.tup [.int s.1.1, .int s.1.2.1, .int s.1.2.2, .str s.2]) := by
  cases h with
  | tup e r =>
    cases r with
    | cons a1 r =>
      cases r with
      | cons a2 r =>
        cases r with
        | cons a3 r =>
          cases r with
          | cons a4 r =>
            cases r
            cases a1
            cases a2
            cases a3
            cases a4
            exact ⟨_, rfl, e⟩
theorem rows_small {l : Nat} {zs : List Str} (h : rowsB l zs = true) : l ≤ zs.length ∧ zs.length ≤ 12 ∧ ∀ y ∈ zs, y.length ≤ 120 ∧ (Txt.split y " ").length ≤ 30 ∧ ∀ t ∈ Txt.split y " ", tokB t = true := by
  unfold rowsB at h
  simp only [Bool.and_eq_true, decide_eq_true_eq] at h
  refine ⟨h.1.1, h.1.2, fun y hy => ?_⟩
  have := List.all_eq_true.mp h.2 y hy
  unfold rowB at this
  simp only [Bool.and_eq_true, decide_eq_true_eq] at this
  exact ⟨this.1.1, this.1.2, fun t ht => List.all_eq_true.mp this.2 t ht⟩
theorem side_small {lf : Lf} (r1 : rowsB 1 lf.fr = true) (r2 : rowsB 0 lf.bk = true) (s : Int) : (sideR lf s).length ≤ 12 ∧ ∀ y ∈ sideR lf s, y.length ≤ 120 ∧ (Txt.split y " ").length ≤ 30 ∧ ∀ t ∈ Txt.split y " ", tokB t = true := by
  unfold sideR
  split
  · exact (rows_small r2).2
  · exact (rows_small r1).2
theorem plB_in {lf : Lf} {p : P3} (h : plB lf p = true) : (p.1 = 0 ∨ p.1 = 1) ∧ (0 ≤ p.2.1 ∧ p.2.1 < ((sideR lf p.1).length : Nat)) ∧ 0 ≤ p.2.2 ∧ p.2.2 < ((toksR ((sideR lf p.1).getD p.2.1.toNat ⟨#[]⟩)).length : Nat) := by
  unfold plB at h
  simpa [Bool.and_eq_true, Bool.or_eq_true, decide_eq_true_eq] using h
theorem plB_small {lf : Lf} (r1 : rowsB 1 lf.fr = true) (r2 : rowsB 0 lf.bk = true) {p : P3} (h : plB lf p = true) : (0 ≤ p.1 ∧ p.1 ≤ 1) ∧ (0 ≤ p.2.1 ∧ p.2.1 ≤ 11) ∧ (0 ≤ p.2.2 ∧ p.2.2 ≤ 29) := by
  obtain ⟨h1, h2, h3, h4⟩ := plB_in h
  obtain ⟨l1, l2⟩ := side_small r1 r2 p.1
  obtain ⟨n, hn⟩ := Int.eq_ofNat_of_zero_le h2.1
  have ln : n < (sideR lf p.1).length := by
    have := h2.2
    omega
  have hy := l2 _ (List.getElem_mem ln)
  have e : (sideR lf p.1).getD p.2.1.toNat ⟨#[]⟩ = (sideR lf p.1)[n] := by
    rw [hn, List.getD_eq_getElem?_getD]
    show ((sideR lf p.1)[n]?).getD _ = _
    rw [List.getElem?_eq_getElem ln]
    rfl
  rw [e] at h4
  have := hy.2.1
  unfold toksR at h4
  refine ⟨by omega, by omega, by omega⟩
theorem sl_goT {K : PySem.W.Frag} {H : Hp} {Q : VK} {a : Addr} {xs : List V} {lo hi : Option Int} (ha : H a = some (.tup xs)) (h : ∀ c H', Same H H' → H' c = some (.tup (cutV xs lo hi)) → Q (.ref c) H') : rSlA K (.ref a) lo hi H Q :=
  ⟨a, xs, rfl, .inl (.inl ha), fun e => h a H (Same.refl H) (by rw [cut_whole e]; exact ha), fun _ p np => h p _ (same_upd np) upd_same⟩
theorem pw_next {α : Type} {R : α → α → Prop} : ∀ {l : List α} {i : Nat} {a b : α}, l.Pairwise R → l[i]? = some a → l[i + 1]? = some b → R a b
  | _ :: _, 0, _, _, h, e1, e2 => by
    cases e1
    rw [List.getElem?_cons_succ] at e2
    exact (List.pairwise_cons.mp h).1 _ (List.mem_of_getElem? e2)
  | _ :: r, i + 1, _, _, h, e1, e2 => pw_next (i := i) (List.pairwise_cons.mp h).2 e1 e2
theorem seq_but {K : PySem.W.Frag} {H H' : Hp} {x C dx a : Addr} {fs : List (Str × V)} {xs : List V} (hx : H x = some (.ins C dx fs)) (m : But x H H') (h : Seq K H a xs) : Seq K H' a xs := by
  have ne : ∀ {o : HO}, H a = some o → (∀ C dx fs, o ≠ .ins C dx fs) → a ≠ x := fun e n z => by
    rw [z, hx] at e
    exact n _ _ _ (Option.some.inj e).symm
  rcases h with ((h | ⟨o, h⟩) | h) | ((h | ⟨o, h⟩) | h)
  · exact .inl (.inl (.inl (m _ _ (ne h fun _ _ _ z => nomatch z) h)))
  · exact .inl (.inl (.inr ⟨o, m _ _ (ne h fun _ _ _ z => nomatch z) h⟩))
  · exact .inl (.inr h)
  · exact .inr (.inl (.inl (m _ _ (ne h fun _ _ _ z => nomatch z) h)))
  · exact .inr (.inl (.inr ⟨o, m _ _ (ne h fun _ _ _ z => nomatch z) h⟩))
  · exact .inr (.inr h)
theorem seq_same {K : PySem.W.Frag} {H H' : Hp} {a : Addr} {xs : List V} (m : Same H H') (h : Seq K H a xs) : Seq K H' a xs := by
  rcases h with h | h
  · exact .inl (m.seq h)
  · exact .inr (same_seqT m h)
/-- tuples of ints, by their places -/
theorem tups_of {H : Hp} : ∀ {ws : List V} {Ls : List (List Int)}, TpAll H ws (Ls.map dL) → ∃ ks : List (Addr × List Int), ks.map (fun p => V.ref p.1) = ws ∧ ks.map Prod.snd = Ls ∧ ∀ p ∈ ks, H p.1 = some (.tup (p.2.map V.int))
  | _, [], h => by
    cases h
    exact ⟨[], rfl, rfl, fun _ h => nomatch h⟩
  | _, L :: Ls, h => by
    cases h with
    | cons a r =>
      obtain ⟨b, rfl, hb⟩ := tpL_inv a
      obtain ⟨ks, e1, e2, e3⟩ := tups_of r
      refine ⟨(b, L) :: ks, by rw [List.map_cons, e1], by rw [List.map_cons, e2], fun p hp => ?_⟩
      rcases List.mem_cons.mp hp with rfl | hp
      · exact hb
      · exact e3 p hp
theorem nodup_subP {α : Type} [DecidableEq α] : ∀ {l m : List α}, l.Nodup → (∀ x ∈ l, x ∈ m) → l.length ≤ m.length
  | [], _, _, _ => Nat.zero_le _
  | a :: l, m, h, s => by
    obtain ⟨h1, h2⟩ := List.nodup_cons.mp h
    have ha := s a (List.mem_cons_self ..)
    have z := nodup_subP (m := m.erase a) h2 fun x hx => by
      have ne : x ≠ a := fun e => h1 (e ▸ hx)
      exact (List.mem_erase_of_ne ne).mpr (s x (List.mem_cons_of_mem _ hx))
    rw [List.length_erase_of_mem ha] at z
    have := List.length_pos_of_mem ha
    rw [List.length_cons]
    omega
theorem depth_Sk (s : Sk) : (dSk s).depth ≤ 60 := by
  obtain ⟨⟨a, b, c⟩, z⟩ := s
  unfold dSk
  simp [PyData.depth, PyData.depthAll]
theorem walkE {d : Addr} {o : Obj} {ss : List Sk} : Walk (Itkt d o (entT ss)) ss.length (fun H => H d = some (.frz o (.dT (entT ss)))) (fun i H x H' => H' = H ∧ ∃ (k : List L2.Key) (v : V) (q : Addr), (entT ss)[i]? = some (k, v) ∧ x = .ref q ∧ H q = some (.tup (k.map kV))) := by
  have h := walk_keysT (d := d) (o := o) (kvs := entT ss)
  rwa [show (entT ss).length = ss.length from List.length_map ..] at h
theorem entT_get {ss : List Sk} {i : Nat} {k : List L2.Key} {v : V} (e : (entT ss)[i]? = some (k, v)) : ∃ s, ss[i]? = some s ∧ k = kSk s ∧ v = .str s.2 := by
  unfold entT at e
  rw [List.getElem?_map] at e
  obtain ⟨s, es, e2⟩ := Option.map_eq_some_iff.mp e
  cases e2
  exact ⟨s, es, rfl, rfl⟩
theorem layS_snoc (ss ts : List Sk) (t : Sk) : layS ss (ts ++ [t]) = putS (layS ss ts) t := by
  unfold layS
  rw [List.foldl_append]
  rfl
theorem small99 {n : Nat} (h : n ≤ 100000) : n < sizeLine := Nat.lt_of_le_of_lt h (by decide +kernel)
theorem mk_same {H : Hp} {x dx C : Addr} (nx : H x = none) (ndx : H dx = none) : Same H (upd (upd H dx (.own x)) x (.ins C dx [])) := fun b o e => by
  have c1 : b ≠ x := fun z => by rw [z, nx] at e; cases e
  have c2 : b ≠ dx := fun z => by rw [z, ndx] at e; cases e
  rw [upd_ne c1, upd_ne c2]
  exact e
theorem mk_after {H H1 H6 : Hp} {x : Addr} (nx : H x = none) (z : Same H H1) (b : But x H1 H6) : Same H H6 := fun c o e => b c o (fun y => by rw [y, nx] at e; cases e) (z c o e)
theorem none_back {H H' : Hp} (s : Same H H') {p : Addr} (n : H' p = none) : H p = none := by
  cases e : H p with
  | none => rfl
  | some o => rw [s _ _ e] at n; cases n
theorem inl_inj {L M : List Int} (h : L.map (Sum.inl : Int → L2.Key) = M.map Sum.inl) : L = M := by
  induction L generalizing M with
  | nil => cases M with
    | nil => rfl
    | cons _ _ => cases h
  | cons x r ih => cases M with
    | nil => cases h
    | cons y s =>
      injection h with h1 h2
      injection h1 with h1
      rw [h1, ih h2]
theorem spots_get (bk : List Lf) (L : List Int) : ∀ n, n ≤ bk.length → (∃ i, i < n ∧ (bk.map (·.L))[i]? = some L) → ∃ i : Nat, i < n ∧ valV (spots bk n) (L.map Sum.inl) = some (.int (i : Nat)) ∧ (bk.map (·.L))[i]? = some L
  | 0, _, h => by
    obtain ⟨i, hi, _⟩ := h
    exact absurd hi (Nat.not_lt_zero _)
  | n + 1, hn, h => by
    obtain ⟨l, el⟩ : ∃ l, bk[n]? = some l := ⟨_, List.getElem?_eq_getElem hn⟩
    have e : spots bk (n + 1) = putK (spots bk n) (l.L.map Sum.inl) (.int (n : Nat)) := by
      show (match bk[n]? with | some l => putK (spots bk n) (l.L.map Sum.inl) (.int (n : Nat)) | none => spots bk n) = _
      rw [el]
    have em : (bk.map (·.L))[n]? = some l.L := by rw [List.getElem?_map, el]; rfl
    rw [e, valV_put]
    by_cases c : L = l.L
    · refine ⟨n, Nat.lt_succ_self _, if_pos (by rw [c]), by rw [em, c]⟩
    · obtain ⟨i, hi, ei⟩ := h
      have hne : i ≠ n := fun z => by rw [z, em] at ei; exact c (Option.some.inj ei).symm
      obtain ⟨i, h1, h2, h3⟩ := spots_get bk L n (Nat.le_of_succ_le hn) ⟨i, by omega, ei⟩
      exact ⟨i, Nat.lt_succ_of_lt h1, by rw [if_neg (fun z => c (inl_inj z))]; exact h2, h3⟩
theorem label_one {bk : List Lf} (h : bk.Pairwise fun a b => HT.lexLt a.L b.L = true) {i j : Nat} {a b : Lf} (ei : bk[i]? = some a) (ej : bk[j]? = some b) (e : a.L = b.L) : i = j := by
  have irr : ∀ L : List Int, HT.lexLt L L = false := fun L => by rw [← dlt_L, dlt_irrefl]
  obtain ⟨hi, e1⟩ := List.getElem?_eq_some_iff.mp ei
  obtain ⟨hj, e2⟩ := List.getElem?_eq_some_iff.mp ej
  rcases Nat.lt_trichotomy i j with l | l | l
  · have := List.pairwise_iff_getElem.mp h i j hi hj l
    rw [e1, e2, e, irr] at this
    cases this
  · exact l
  · have := List.pairwise_iff_getElem.mp h j i hj hi l
    rw [e1, e2, e, irr] at this
    cases this
theorem spots_val {bk : List Lf} (ok : okBw bk) {i : Nat} {lf : Lf} (e : bk[i]? = some lf) : valV (spots bk bk.length) (lf.L.map Sum.inl) = some (.int (i : Nat)) := by
  obtain ⟨j, hj, h1, h2⟩ := spots_get bk lf.L bk.length (Nat.le_refl _) ⟨i, (List.getElem?_eq_some_iff.mp e).1, by rw [List.getElem?_map, e]; rfl⟩
  rw [List.getElem?_map] at h2
  obtain ⟨b, hb, h3⟩ := Option.map_eq_some_iff.mp h2
  have := label_one ok.2.2 hb e h3
  rw [← this]
  exact h1
section
variable {K : PySem.W.Frag} {f : Addr} {fd : FuncData} {e : Addr}
abbrev LeafD (K : PySem.W.Frag) (e f : Addr) (fd : FuncData) : Prop := FunD K "__init__" "Leaf.__init__" (defArgs s_Leaf_init) (defBody s_Leaf_init) (defScope s_Leaf_init) [V.ref e] [] f fd
theorem leaf_b5 (F : LeafD K e f fd) : Binds K fd ["self", "label", "front", "back", "pen"] [] := by
  obtain ⟨ds, h1, h2⟩ := F.binds1 (ps := ["self", "label", "front", "back", "pen"]) 5 1 (by simp) rfl fun T kV doc pm an cdv ct us its hu hi => match us, its, hu, hi with
    | [_, _, _, _, _], [_], _, _ => ⟨_, rfl, rfl⟩
  cases h1
  exact h2
theorem leaf_b4 (F : LeafD K e f fd) : ∃ ds, Vals [V.ref e] ds ∧ Binds K fd ["self", "label", "front", "back", "pen"] ds :=
  F.binds1 (ps := ["self", "label", "front", "back", "pen"]) 4 0 (by simp) rfl fun T kV doc pm an cdv ct us its hu hi => match us, its, hu, hi with
    | [_, _, _, _], [_], _, _ => ⟨_, rfl, rfl⟩
theorem written_nil {ed : Option Addr} {en : Nat} {es : Array (Option Value)} {H : Hp} (h : K.lookup e = some ⟨.type "tuple", ed, .seq #[] en, es⟩) : SqT K H e [] :=
  .inr ⟨_, #[], _, h, rfl, rfl, Nat.zero_le _, .nil⟩
end
/-! ### sorted data are told in one way -/
theorem eqv_of_toks {x y : PyData} (al : PySem.W.alike x y = true) (h : PySem.W.keyToks x = PySem.W.keyToks y) : PyData.eqv x y = true := by
  cases e : PyData.eqv x y with
  | true => rfl
  | false =>
    have q := (PySem.W.toks_eqv x y al).2 e [] [.inl 0]
    rw [h, PySem.W.lex_pre] at q
    have i : PyProof.Rows.lexLt PyProof.Rows.itemOrd (PySem.W.keyToks y) (PySem.W.keyToks y) = false := TO.irrefl _
    rw [i] at q
    cases (show true = false from q)
section
variable {α : Type} (f : α → PyData)
def sortBy (l : List α) : List α := l.mergeSort (PySem.W.dataLe false f)
theorem sortBy_perm (l : List α) : (sortBy f l).Perm l := List.mergeSort_perm ..
theorem dle_eq (a b : α) : PySem.W.dataLe false f a b = !PySem.W.dataLt (f b) (f a) := rfl
theorem sortBy_pw (l : List α) : (sortBy f l).Pairwise fun a b => PySem.W.dataLt (f b) (f a) = false := by
  have h : (sortBy f l).Pairwise fun a b => PySem.W.dataLe false f a b = true := by
    refine List.pairwise_mergeSort (fun a b c h1 h2 => ?_) (fun a b => ?_) l
    · rw [dle_eq, Bool.not_eq_true'] at *
      exact dle_trans h1 h2
    · rw [dle_eq, dle_eq]
      cases e : PySem.W.dataLt (f b) (f a) with
      | false => rfl
      | true =>
        cases e2 : PySem.W.dataLt (f a) (f b) with
        | false => rfl
        | true =>
          have := dlt_trans e e2
          rw [dlt_irrefl] at this
          cases this
  exact h.imp fun {a b} q => by rwa [dle_eq, Bool.not_eq_true'] at q
theorem sort_uniq (al : ∀ a b, PySem.W.alike (f a) (f b) = true) (inj : ∀ a b, PyData.eqv (f a) (f b) = true → a = b) {l m : List α} (p : l.Perm m) : sortBy f l = sortBy f m :=
  List.Perm.eq_of_pairwise (le := fun a b => PySem.W.dataLt (f b) (f a) = false) (fun a b _ _ h1 h2 => inj a b (eqv_of_toks (al a b) (TO.total _ _ h2 h1))) (sortBy_pw f l) (sortBy_pw f m) (((sortBy_perm f l).trans p).trans (sortBy_perm f m).symm)
variable {f}
theorem srt_T {H : Hp} {xs : List V} {l : List α} (h : TpAll H xs (l.map f)) : TpAll H ((srtV xs (l.map f)).map Prod.fst) ((sortBy f l).map f) := by
  have hp : (srtV xs (l.map f)).Perm (xs.zip (l.map f)) := List.mergeSort_perm ..
  have h2 := tpAll_of _ fun b hb => tpAll_mem h b (hp.mem_iff.mp hb)
  have z : (xs.zip (l.map f)).map Prod.snd = l.map f := by
    rw [List.map_snd_zip]
    rw [h.len]
    exact Nat.le_refl _
  have e : (srtV xs (l.map f)).map Prod.snd = (sortBy f l).map f := by
    have e1 := List.map_mergeSort (r := PySem.W.dataLe false (Prod.snd : V × PyData → PyData)) (s := PySem.W.dataLe false (id : PyData → PyData)) (f := Prod.snd) (l := xs.zip (l.map f)) (fun a _ b _ => rfl)
    have e2 := List.map_mergeSort (r := PySem.W.dataLe false f) (s := PySem.W.dataLe false (id : PyData → PyData)) (f := f) (l := l) (fun a _ b _ => rfl)
    rw [z] at e1
    exact e1.trans e2.symm
  rw [e] at h2
  exact h2
end
/-! ### dicts with nested keys: d[k] = v, k in d, list(d) -/
section
variable {X : Cx} {o i value : Expr} {td ty tv : TE} {pos pos' : Pos}
def sNPut (w : World) (td ty tv : TE) : TS := fun D σ H => tv σ H fun v H1 => td σ H1 fun x H2 => ty σ H2 fun y H3 => ∃ a kvs b k, x = .ref a ∧ y = .ref b ∧ DN w H3 a kvs ∧ NKey H3 b k ∧ kvs.length < sizeLine ∧ D.nx σ (upd H3 a (rawN w a (putN kvs k b v)))
theorem ps_nput (hu : X.A.units + 64 < cLine) (ho : PE X o td) (hi : PE X i ty) (hv : PE X value tv) (hs : swapsWith value (some (.Subscript o i pos')) pos.line X.env = pure false) :
    PS X (.Assign [.Subscript o i pos'] value pos) (sNPut X.w td ty tv) := by
  refine ⟨fun pins s σ H D I h => ?_⟩
  refine wpAny_Assign_Subscript (thn (hv.run pins s σ H _ I h) fun r s1 ⟨v, H1, I1, rv, q1⟩ => thn (ho.run pins s1 σ H1 _ I1 q1) fun u s2 ⟨x, H2, I2, rx, q2⟩ => thn (hi.run pins s2 σ H2 _ I2 q2) fun iv s3 ⟨y, H3, I3, ry, a, kvs, b, k, ex, ey, e, nk, small, q3⟩ => ?_) hs
  subst ex ey
  obtain rfl : u = Value.ref a := rx
  obtain rfl : iv = Value.ref b := ry
  obtain ⟨le, nsys, xs, rel, dd⟩ := dn_rd I3.hok e
  have le2 : (putN kvs k b v).length ≤ sizeLine := Nat.le_trans (putN_len kvs k b v) small
  refine wpAny_setItem_heap (knd := PySem.nestedKind X.prog X.w) (hsz := by rw [← Paired.length rel]; exact le) (show X.A.units + 1 + 8 < cLine by omega) (nkey_is I3.hok nk) dd fun h' new only => ?_
  obtain ⟨ob, es, ep, at_, _⟩ := id new
  exact ⟨σ, _, d_write I3 (by rw [e.1]; exact True.intro) only ⟨ob, at_⟩ (dn_new le2 nsys (relN_put rel k b rv) new), q3⟩
def rInN (K : PySem.W.Frag) (w : World) (neg : Bool) : R2 := fun x y H Q => ∃ a kvs b d, y = .ref a ∧ DN w H a kvs ∧ x = .ref b ∧ Dp K H (.ref b) d ∧ noL d = true ∧ (nkD d).depth ≤ 8 ∧ Q (.bl (neg != (atN kvs (nkD d)).isSome)) H
theorem relO_some {o : Option V} {p : Option Value} (h : RelO o p) : o.isSome = p.isSome := by
  cases o <;> cases p <;> first | rfl | exact (show False from h).elim
theorem op_inN (hu : X.A.units + 64 < cLine) : OpR X (compareOp .In) (rInN X.K X.w false) := by
  intro pins s σ H x y v u Q I rx ry h
  obtain ⟨a, kvs, b, d, rfl, e, rfl, hd, nl, dep, q⟩ := h
  obtain rfl : u = Value.ref a := ry
  obtain rfl : v = Value.ref b := rx
  obtain ⟨le, nsys, xs, rel, dd⟩ := dn_rd I.hok e
  have hk : (PySem.nestedKind X.prog X.w).is s.heap (nkD d) b := ⟨nested_dp I hd nl (show RelV (.ref b) (.ref b) from rfl), dep⟩
  refine wpAny_in_heap (knd := PySem.nestedKind X.prog X.w) (show X.A.units + 1 + 8 < cLine by omega) hk nsys dd ?_
  have e2 : (atKey xs (nkD d)).isSome = (atN kvs (nkD d)).isSome := by
    rw [relO_some (relN_at rel (nkD d)), Option.isSome_map]
  rw [e2]
  rw [Bool.false_bne] at q
  exact ⟨.bl _, H, I.tok _, rfl, q⟩
theorem vals_by_at : ∀ {xs : List V} {us : List Value}, xs.length = us.length → (∀ (j : Nat) (x : V) (v : Value), xs[j]? = some x → us[j]? = some v → RelV x v) → Vals xs us
  | [], [], _, _ => .nil
  | [], _ :: _, h, _ => nomatch h
  | _ :: _, [], h, _ => nomatch h
  | x :: xs, u :: us, h, g => .cons (g 0 x u rfl rfl) (vals_by_at (Nat.succ.inj h) fun j y v e1 e2 => g (j + 1) y v e1 e2)
theorem call_listN (hc : X.calm = true) : CallR X (.type "list") (fun xs H Q => ∃ (a : Addr) (kvs : List NE), xs = [.ref a] ∧ DN X.w H a kvs ∧ ∀ p, H p = none → Q (.ref p) (upd H p (.lst (kvs.map fun e => V.ref e.2.1)))) := by
  intro pins s σ H xs us Q I r q
  obtain ⟨a, kvs, rfl, e, q⟩ := q
  rw [Vals.ref1 r]
  obtain ⟨le, nsys, zs, rel, dd⟩ := dn_rd I.hok e
  obtain ⟨es, ep, raw, sz, ent⟩ := dd.raw
  have lz : kvs.length = zs.length := Paired.length rel
  refine PySem.W.kdl_call (PySem.KdlSrc.rawDict (es := es) (ep := ep) nsys) (I.ok.hd hc) raw (by omega) fun h' tk acc c' hk hD hacc => ?_
  have same : ∀ {l : List NE} {m : List NU}, Paired RelN l m → l.map (fun e => V.ref e.2.1) = m.map fun e => V.ref e.2.1 := by
    intro l m q
    induction q with
    | nil => rfl
    | cons h t ih => rw [List.map_cons, List.map_cons, ih, h.2.1]
  have hv : Vals (zs.map fun e => V.ref e.2.1) acc.toList := by
    refine vals_by_at (by have l1 := hacc.1; rw [List.length_map]; show zs.length = acc.size; omega) fun j x v ex ev => ?_
    rw [List.getElem?_map] at ex
    obtain ⟨z, hz, rfl⟩ := Option.map_eq_some_iff.mp ex
    rw [Array.getElem?_toList] at ev
    obtain ⟨hi, rfl⟩ := hacc.2 j v ev
    obtain ⟨y, hy, ek, _⟩ := ent j hi
    rw [hz] at hy
    cases hy
    exact ek
  refine ⟨.ref s.heap.objs.size, upd H s.heap.objs.size (.lst (kvs.map fun e => V.ref e.2.1)), I.laid (t' := tk) hk (Nat.le_refl _)
    (show ObjOk X.prog X.w _ _ _ (.lst (kvs.map fun e => V.ref e.2.1)) from ⟨by rw [List.length_map]; exact le, acc.toList, c', by rw [same rel]; exact hv, by rw [Array.toArray_toList]; exact hD⟩), rfl, q _ (I.hok.fresh (Nat.le_refl _))⟩
end
/-! ### the head by one run: what the end leans on is read off the state behind the top -/
section
theorem fb_at {l : List Bool} (h : l.all id = true) (i : Nat) {b : Bool} (e : l[i]? = some b) : b = true := List.all_eq_true.mp h b (List.mem_of_getElem? e)
theorem fb_is {p : Prop} {_ : Decidable p} {l : List Bool} (h : l.all id = true) (i : Nat) (e : l[i]? = some (decide p)) : p := of_decide_eq_true (fb_at h i e)
theorem fb_app {a b : List Bool} (h : (a ++ b).all id = true) : a.all id = true ∧ b.all id = true := by
  rw [List.all_append] at h
  exact Bool.and_eq_true_iff.mp h
/-- what is asked of a function object -/
abbrev FnQ : Type := Option (Str × Str × Arguments × FuncBody × Scope × Addr × List (Str × Addr) × Value × Addr)
def fnQ (K : PySem.W.Frag) (a : Addr) : FnQ := match K.lookup a with
  | some ⟨_, _, .func fd, _⟩ => some (fd.name, fd.qualname, fd.params, fd.body, fd.scope, fd.globals, fd.closure, fd.defaults, fd.builtins)
  | _ => none
def fnV (x q : Str) (st : Stmt) (dv : Value) : FnQ := some (x, q, defArgs st, .stmts (defBody st), defScope st, mainGlobals, [], dv, builtinsNs)
def codeQ (K : PySem.W.Frag) (a : Addr) (q : Str) : Bool := match K.lookup a with
  | some ⟨_, _, .func fd, _⟩ => PySem.W.codeIn K fd.code q
  | _ => false
theorem fnQ_ok {K : PySem.W.Frag} {a : Addr} {x q : Str} {st : Stmt} {dv : Value} (e : fnQ K a = fnV x q st dv) (c : codeQ K a q = true) :
    ∃ oc od osl kV doc pm an cdv ct, K.lookup a = some ⟨oc, od, .func (PySem.W.fnOf x q (defArgs st) (defBody st) (defScope st) dv kV doc pm an cdv ct), osl⟩ ∧ PySem.W.codeIn K cdv q = true := by
  unfold fnQ at e
  unfold codeQ at c
  cases r : K.lookup a with
  | none =>
    rw [r] at c
    cases c
  | some o =>
    obtain ⟨oc, od, dt, osl⟩ := o
    rw [r] at c e
    cases dt with
    | func fd =>
      obtain ⟨n1, n2, n3, n4, n5, n6, n7, n8, n9, n10, n11, n12, n13, n14, n15⟩ := fd
      unfold fnV at e
      simp only [Option.some.injEq, Prod.mk.injEq] at e
      obtain ⟨h1, h2, h3, h4, h5, h6, h7, h8, h9⟩ := e
      subst h1 h2 h3 h4 h5 h6 h7 h8 h9
      exact ⟨oc, od, osl, n9, n10, n11, n12, n13, n14, rfl, c⟩
    | _ => cases c
/-- a list, a tuple of such values -/
def seqQ (K : PySem.W.Frag) (a : Addr) (vs : List Value) : Bool := match K.lookup a with
  | some ⟨_, _, .seq its _, _⟩ => decide (its.toList = vs)
  | _ => false
theorem seqQ_ok {K : PySem.W.Frag} {a : Addr} {vs : List Value} (c : seqQ K a vs = true) : ∃ oc od n sl, K.lookup a = some ⟨oc, od, .seq vs.toArray n, sl⟩ := by
  unfold seqQ at c
  cases r : K.lookup a with
  | none =>
    rw [r] at c
    cases c
  | some o =>
    obtain ⟨oc, od, dt, sl⟩ := o
    rw [r] at c
    cases dt with
    | seq its n =>
      have e : its.toList = vs := of_decide_eq_true c
      exact ⟨oc, od, n, sl, by rw [← e]⟩
    | _ => cases c
def tupQ (K : PySem.W.Frag) (a : Addr) : Bool := match K.lookup a with
  | some ⟨.type t, _, .seq its _, _⟩ => decide (t = "tuple") && decide (its.toList = [])
  | _ => false
theorem tupQ_ok {K : PySem.W.Frag} {a : Addr} (c : tupQ K a = true) : ∃ od n sl, K.lookup a = some ⟨.type "tuple", od, .seq #[] n, sl⟩ := by
  unfold tupQ at c
  cases r : K.lookup a with
  | none =>
    rw [r] at c
    cases c
  | some o =>
    obtain ⟨oc, od, dt, sl⟩ := o
    rw [r] at c
    cases oc with
    | type t =>
      cases dt with
      | seq its n =>
        obtain ⟨c1, c2⟩ := Bool.and_eq_true_iff.mp c
        have e1 : t = "tuple" := of_decide_eq_true c1
        have e2 : its.toList = [] := of_decide_eq_true c2
        have e3 : its = #[] := by rw [← Array.toArray_toList (xs := its), e2]
        subst e1 e3
        exact ⟨od, n, sl, rfl⟩
      | _ => cases c
    | _ => cases dt <;> cases c
/-- an error's class -/
def excQ (K : PySem.W.Frag) (C : Addr) : Bool := match K.lookup C with
  | some ⟨.type t, _, .cls cd, sl⟩ => decide (t = "type") && (match cd.mro with
    | .ref c :: bm => decide (c = C) && PySem.HandSPX.refsVE bm
    | _ => false) && decide (cd.hasDict = true) && decide (cd.hasDel = false) && (match sl.toList with
    | [_, _, _, _, some (.builtin n), _] => decide (n = "ValueError.__new__")
    | _ => false)
  | _ => false
theorem excQ_ok {K : PySem.W.Frag} {C : Addr} (c : excQ K C = true) :
    ∃ nm qn N bs sub sn ab col dd m0 m1 m2 m3 m5 bm, K.lookup C = some (excClassObj nm qn C N bs bm true sn sub ab col dd m0 m1 m2 m3 m5 "ValueError.__new__") ∧ PySem.HandSPX.refsVE bm = true := by
  unfold excQ at c
  cases r : K.lookup C with
  | none =>
    rw [r] at c
    cases c
  | some o =>
    obtain ⟨oc, dd, dt, sl⟩ := o
    rw [r] at c
    cases oc with
    | type t =>
      cases dt with
      | cls cd =>
        obtain ⟨nm, bs, mro, N, qn, hd, sn, sub, ab, col, hdl⟩ := cd
        dsimp only at c
        obtain ⟨c, c5⟩ := Bool.and_eq_true_iff.mp c
        obtain ⟨c, c4⟩ := Bool.and_eq_true_iff.mp c
        obtain ⟨c, c3⟩ := Bool.and_eq_true_iff.mp c
        obtain ⟨c1, c2⟩ := Bool.and_eq_true_iff.mp c
        have e1 : t = "type" := of_decide_eq_true c1
        have e3 : hd = true := of_decide_eq_true c3
        have e4 : hdl = false := of_decide_eq_true c4
        subst e1 e3 e4
        cases mro with
        | nil => cases c2
        | cons v bm =>
          cases v with
          | ref b =>
            obtain ⟨d1, d2⟩ := Bool.and_eq_true_iff.mp c2
            have e2 : b = C := of_decide_eq_true d1
            subst e2
            obtain ⟨ls⟩ := sl
            dsimp only at c5
            match ls, c5 with
            | [k0, k1, k2, k3, some (.builtin n), k5], c5 =>
              have e5 : n = "ValueError.__new__" := of_decide_eq_true c5
              subst e5
              exact ⟨nm, qn, N, bs, sub, sn, ab, col, dd, k0, k1, k2, k3, k5, bm, rfl, d2⟩
          | _ => cases c2
      | _ => cases c
    | _ => cases dt <;> cases c
def intQ (K : PySem.W.Frag) (x : Str) (i : Int) : Bool := match PySem.W.nsIn K mainGlobals x with
  | some (some (.int j _)) => decide (j = i)
  | _ => false
theorem intQ_ok {K : PySem.W.Frag} {x : Str} {i : Int} (c : intQ K x i = true) : ∃ t, PySem.W.nsIn K mainGlobals x = some (some (.int i t)) := by
  unfold intQ at c
  cases e : PySem.W.nsIn K mainGlobals x with
  | none =>
    rw [e] at c
    cases c
  | some o =>
    rw [e] at c
    cases o with
    | none => cases c
    | some v =>
      cases v with
      | int j t => exact ⟨t, by rw [of_decide_eq_true c]⟩
      | _ => cases c
def strQ (K : PySem.W.Frag) (x z : Str) : Bool := match PySem.W.nsIn K mainGlobals x with
  | some (some (.str y _)) => decide (y = z)
  | _ => false
theorem strQ_ok {K : PySem.W.Frag} {x z : Str} (c : strQ K x z = true) : ∃ t, PySem.W.nsIn K mainGlobals x = some (some (.str z t)) := by
  unfold strQ at c
  cases e : PySem.W.nsIn K mainGlobals x with
  | none =>
    rw [e] at c
    cases c
  | some o =>
    rw [e] at c
    cases o with
    | none => cases c
    | some v =>
      cases v with
      | str y t => exact ⟨t, by rw [of_decide_eq_true c]⟩
      | _ => cases c
abbrev AlQ : Type := Bool × List FnQ
def obsQ (fb : PySem.W.Frag → List Bool) (fl : List Addr) (K : PySem.W.Frag) : AlQ := ((fb K).all id, fl.map (fnQ K))
def obsQG (as : List Addr) (fb : PySem.W.Frag → List Bool) (fl : List Addr) (g : Addr → Option Obj) : AlQ := obsQ fb fl (He.frG g as)
def hookQ (as : List Addr) (fb : PySem.W.Frag → List Bool) (fl : List Addr) (vs : List FnQ) : PySem.W.Hook where
  α := AlQ
  obs := fun s => obsQG as fb fl s.heap.get?
  val := fun _ => (true, vs)
  says := fun _ h => ∃ K : PySem.W.Frag, K.In h ∧ obsQ fb fl K = (true, vs)
  of := fun _ _ e => ⟨_, He.frG_in, e⟩
  keeps := fun _ _ _ ⟨K, hK, c⟩ k => ⟨K, PySem.W.Frag.In.keeps hK k, c⟩
theorem obsQG_eq {as : List Addr} {fb : PySem.W.Frag → List Bool} {fl : List Addr} {vs : List FnQ} {g : Addr → Option Obj} {s : Shared} (h : ∀ a, g a = s.heap.get? a) : obsQG as fb fl g = (hookQ as fb fl vs).obs s := by
  have e : g = s.heap.get? := funext h
  rw [e] <;> rfl
theorem fl_at {K : PySem.W.Frag} {fl : List Addr} {vs : List FnQ} (e : fl.map (fnQ K) = vs) (i : Nat) {a : Addr} {v : FnQ} (h1 : fl[i]? = some a) (h2 : vs[i]? = some v) : fnQ K a = v := by
  rw [← e, List.getElem?_map, h1] at h2
  exact Option.some.inj h2
end
/-- the goal behind that head, for a law whose def counts on its guards -/
theorem walk_ofGQ {l : PySem.W.OpenLaw} {n k : Nat} {q : Program} {loose : List Str} {XP : (Str → Option Value) → Heap → Prop} {YP : World → Heap → Prop} {d : DefRec} {CX : World → CXT} {sp : World → PySem.W.Frag → Sp} {x : Str}
    (hn : l.most = some n) (hn2 : n ≤ sizeLine) (hdf : d.params.defaults = []) (hr : Room k callerA)
    (F : ∀ (w : World) (mg : Str → Option Value) (fa : Addr) (h : Heap), YP w h → h.Ns mainGlobals mg → mg d.name = some (.ref fa) → ∃ (K : PySem.W.Frag) (fd : FuncData), K.In h ∧ (∀ (s : Shared) (u : Value), BindsTo s fd ⟨[u], []⟩ [(x, u)]) ∧
      ∀ base : Heap, K.In base → base.Ns mainGlobals mg → GnOk l.prog w K mg base (CX w) k fa fd [x] (sp w K))
    (hsp : ∀ (w : World) (K : PySem.W.Frag) (H : Hp) (a : Addr) (ns : List Int), ns.length ≤ n → Only H → SqL K H a (ns.map V.int) → sp w K [.ref a] H (fun v _ => v = .bl true) fun _ _ _ => False)
    (hCX : ∀ (w : World) (H : Hp) (s : Shared) (e : Value) (s' : Shared), CX w [] H s (fun _ _ _ => False) e s' → False) : PySem.W.WalkO q loose XP YP l.row.toRowW d [] (fun f vs => PySem.call f vs) := by
  refine Att.attach_call hn hdf ?_
  intro w s₀ s₁ mg mb fa o pm cd doc a vs ns G Y ho hd hcd hmg hobj hints hlen hg
  obtain ⟨K, fd, KX, hb, hF⟩ := F w mg fa _ Y G.T.g hmg
  exact law_goG KX G.T.g G.T.b G.T.builtins G.T.nolimit hg hobj hints (Nat.le_trans hlen hn2) hr hF hb (fun H h1 h2 => hsp w K H a ns hlen h1 h2) (fun H e s' => hCX w H s₁ e s')
theorem join_cc (sep x y : Str) (r : List Str) : Txt.join sep (x :: y :: r) = x ++ sep ++ Txt.join sep (y :: r) := by
  unfold Txt.join
  rw [StrLaws.glued_eq_join, StrLaws.glued_eq_join]
  rfl
/-! ### corrections -/
structure Co where
  p : Pg
  r : Int
  w : Int
  o : Str
  n : Str
def dC (c : Co) : PyData := .tuple [dP c.p, .int c.r, .int c.w, .str c.o, .str c.n]
def Wd (z : Str) : Prop := tokB z = true ∧ ∀ x ∈ z.cps.toList, x < 128
def okC (c : Co) : Prop := okP c.p ∧ (0 ≤ c.r ∧ c.r ≤ 11) ∧ (0 ≤ c.w ∧ c.w ≤ 29) ∧ Wd c.o ∧ Wd c.n ∧ c.o ≠ c.n
def wC (c : Co) : List Str := ["on", fP c.p, toString c.r, toString c.w, "for", c.o, "read", c.n]
def fC (c : Co) : Str := Txt.join " " (wC c)
theorem Wd.free {z : Str} (h : Wd z) : 32 ∉ z.cps.toList := by
  have h := h.1
  unfold tokB at h
  simp only [Bool.and_eq_true, decide_eq_true_eq] at h
  exact h.2
theorem Wd.len {z : Str} (h : Wd z) : 1 ≤ z.length ∧ z.length ≤ 20 := by
  have h := h.1
  unfold tokB at h
  simp only [Bool.and_eq_true, decide_eq_true_eq] at h
  exact h.1
theorem num_free {i : Int} (h0 : 0 ≤ i) (h1 : i ≤ 99) : ∀ c ∈ ((toString i : Str)).cps.toList, 48 ≤ c ∧ c ≤ 57 := (num_ok h0 h1).2.2.1
theorem fL_sgn {L : List Int} (h : okL L) : ∀ c ∈ (fL L).cps.toList, c = 46 ∨ (48 ≤ c ∧ c ≤ 57) := by
  intro c hc
  unfold fL at hc
  rw [TL.join_eq] at hc
  rcases (mem_join _ _ _).mp hc with ⟨t, ht, h1⟩ | ⟨_, h1⟩
  · obtain ⟨i, hi, rfl⟩ := List.mem_map.mp ht
    exact .inr (num_free (h.2.2 i hi).1 (h.2.2 i hi).2 c h1)
  · revert h1
    have : TL.tl "." = [46] := by decide +kernel
    intro h1
    have h1 : c ∈ TL.tl "." := h1
    rw [this] at h1
    exact .inl (List.mem_singleton.mp h1)
theorem fP_sgn {p : Pg} (h : okP p) : ∀ c ∈ (fP p).cps.toList, c = 46 ∨ (48 ≤ c ∧ c ≤ 57) ∨ c = 97 ∨ c = 98 := by
  intro c hc
  unfold fP at hc
  rw [cps_toList_append] at hc
  rcases List.mem_append.mp hc with h1 | h1
  · rcases fL_sgn h.1 c h1 with h | h
    · exact .inl h
    · exact .inr (.inl h)
  · have ea : ("a" : Str).cps.toList = [97] := by decide +kernel
    have eb : ("b" : Str).cps.toList = [98] := by decide +kernel
    split at h1
    · rw [ea] at h1; exact .inr (.inr (.inl (List.mem_singleton.mp h1)))
    · rw [eb] at h1; exact .inr (.inr (.inr (List.mem_singleton.mp h1)))
theorem wC_sgn {c : Co} (h : okC c) : ∀ z ∈ wC c, ∀ x ∈ z.cps.toList, x ≠ 32 ∧ x < 128 := by
  obtain ⟨hp, hr, hw, ho, hn, _⟩ := h
  have lit : ∀ z : Str, z.cps.toList.all (fun x => decide (x ≠ 32) && decide (x < 128)) = true → ∀ x ∈ z.cps.toList, x ≠ 32 ∧ x < 128 := fun z e x hx => by
    have := List.all_eq_true.mp e x hx
    rw [Bool.and_eq_true] at this
    exact ⟨of_decide_eq_true this.1, of_decide_eq_true this.2⟩
  intro z hz
  simp only [wC, List.mem_cons, List.not_mem_nil, or_false] at hz
  rcases hz with rfl | rfl | rfl | rfl | rfl | rfl | rfl | rfl
  · exact lit _ (by decide +kernel)
  · intro x hx
    have := fP_sgn hp x hx
    omega
  · intro x hx
    have := num_free hr.1 (by omega) x hx
    omega
  · intro x hx
    have := num_free hw.1 (by omega) x hx
    omega
  · exact lit _ (by decide +kernel)
  · exact fun x hx => ⟨fun e => ho.free (e ▸ hx), ho.2 x hx⟩
  · exact lit _ (by decide +kernel)
  · exact fun x hx => ⟨fun e => hn.free (e ▸ hx), hn.2 x hx⟩
theorem split_fC {c : Co} (h : okC c) : Txt.split (fC c) " " = wC c := TL.split_join (s := 32) (S := []) (by rfl) (by decide +kernel) (by unfold wC; exact fun z => nomatch z) fun z hz hx => (wC_sgn h z hz 32 hx).1 rfl
theorem join_one (s x : Str) : Txt.join s [x] = x := by rw [TL.join_eq]; rfl
theorem fC_law (c : Co) : "on " ++ fP c.p ++ " " ++ toString c.r ++ " " ++ toString c.w ++ " for " ++ c.o ++ " read " ++ c.n = fC c := by
  unfold fC wC
  rw [join_cc, join_cc, join_cc, join_cc, join_cc, join_cc, join_cc, join_one]
  rw [show ("on " : Str) = "on" ++ " " by decide +kernel, show (" for " : Str) = " " ++ "for" ++ " " by decide +kernel, show (" read " : Str) = " " ++ "read" ++ " " by decide +kernel]
  simp only [Str.append_assoc]
theorem app_len (x y : Str) : (x ++ y).length = x.length + y.length := by
  show (x.cps ++ y.cps).size = _
  rw [Array.size_append]; rfl
theorem fC_len {c : Co} (h : okC c) : (fC c).length ≤ 80 := by
  obtain ⟨hp, hr, hw, ho, hn, _⟩ := h
  rw [← fC_law c]
  simp only [app_len]
  have := (fP_len hp).1
  have := (num_ok hr.1 (by omega)).1
  have := (num_ok hw.1 (by omega)).1
  have := ho.len.2
  have := hn.len.2
  have e1 : ("on " : Str).length = 3 := by decide +kernel
  have e2 : (" " : Str).length = 1 := by decide +kernel
  have e3 : (" for " : Str).length = 5 := by decide +kernel
  have e4 : (" read " : Str).length = 6 := by decide +kernel
  omega
theorem fC_sgn {c : Co} (h : okC c) : ∀ x ∈ (fC c).cps.toList, x < 128 := by
  intro x hx
  unfold fC at hx
  rw [TL.join_eq] at hx
  rcases (mem_join _ _ _).mp hx with ⟨t, ht, h1⟩ | ⟨_, h1⟩
  · exact (wC_sgn h t ht x h1).2
  · have : TL.tl " " = [32] := by decide +kernel
    have h1 : x ∈ TL.tl " " := h1
    rw [this] at h1
    rw [List.mem_singleton.mp h1]
    decide
/-! ### what is shown -/
/-- what repr serves -/
def Shown (d : PyData) : Prop := d.showable = true ∧ d.hasDict = false ∧ d.depth ≤ 8 ∧ d.shown.length ≤ sizeLine
def Sm (B k : Nat) (d : PyData) : Prop := d.showable = true ∧ d.hasDict = false ∧ d.depth ≤ k ∧ d.shown.length ≤ B
theorem sm_all {B k : Nat} : ∀ {ds : List PyData}, (∀ d ∈ ds, Sm B k d) → PyData.showableAll ds = true ∧ PyData.hasDictAll ds = false ∧ PyData.depthAll ds ≤ k ∧ ((PyData.shownAll ds).map (·.length)).sum ≤ ds.length * B ∧ (PyData.shownAll ds).length = ds.length
  | [], _ => ⟨rfl, rfl, Nat.zero_le _, Nat.zero_le _, rfl⟩
  | d :: r, h => by
    obtain ⟨h1, h2, h3, h4⟩ := h d (List.mem_cons_self ..)
    obtain ⟨k1, k2, k3, k4, k5⟩ := sm_all fun e he => h e (List.mem_cons_of_mem _ he)
    refine ⟨?_, ?_, ?_, ?_, ?_⟩
    · show (d.showable && PyData.showableAll r) = true
      rw [h1, k1]
      rfl
    · show (d.hasDict || PyData.hasDictAll r) = false
      rw [h2, k2]
      rfl
    · show max d.depth (PyData.depthAll r) ≤ k
      omega
    · show ((d.shown :: PyData.shownAll r).map (·.length)).sum ≤ (r.length + 1) * B
      rw [List.map_cons, List.sum_cons, Nat.add_mul, Nat.one_mul]
      omega
    · show (d.shown :: PyData.shownAll r).length = r.length + 1
      rw [List.length_cons, k5]
theorem sm_tup {B k : Nat} {ds : List PyData} (hl : ds.length ≤ 5) (h : ∀ d ∈ ds, Sm B k d) : Sm (5 * B + 13) (k + 1) (.tuple ds) := by
  obtain ⟨k1, k2, k3, k4, k5⟩ := sm_all h
  refine ⟨k1, k2, Nat.succ_le_succ k3, ?_⟩
  have := tupleText_len_le (PyData.shownAll ds)
  have hm : ds.length * B ≤ 5 * B := Nat.mul_le_mul_right _ hl
  show (tupleText (PyData.shownAll ds)).length ≤ _
  omega
theorem sm_shown {B k : Nat} {d : PyData} (h : Sm B k d) (hB : B ≤ 10000000) (hk : k ≤ 8) : Shown d := by
  obtain ⟨h1, h2, h3, h4⟩ := h
  refine ⟨h1, h2, by omega, ?_⟩
  rw [sizeLine_eq]
  omega
theorem Sm.mono {B B' k k' : Nat} {d : PyData} (h : Sm B k d) (hB : B ≤ B') (hk : k ≤ k') : Sm B' k' d := ⟨h.1, h.2.1, Nat.le_trans h.2.2.1 hk, Nat.le_trans h.2.2.2 hB⟩
theorem sm_tupN {B k n : Nat} {ds : List PyData} (hl : ds.length ≤ n) (h : ∀ d ∈ ds, Sm B k d) : Sm (n * B + 2 * n + 3) (k + 1) (.tuple ds) := by
  obtain ⟨k1, k2, k3, k4, k5⟩ := sm_all h
  refine ⟨k1, k2, Nat.succ_le_succ k3, ?_⟩
  have := tupleText_len_le (PyData.shownAll ds)
  have hm : ds.length * B ≤ n * B := Nat.mul_le_mul_right _ hl
  show (tupleText (PyData.shownAll ds)).length ≤ _
  omega
theorem sm_int {i : Int} (h : i.natAbs ≤ 200) : Sm 300 0 (.int i) := by
  refine ⟨decide_eq_true ?_, rfl, Nat.le_refl 0, ?_⟩
  · exact Nat.lt_of_le_of_lt (Nat.log2_le_self _) (by omega)
  · have := len_str_of_int i
    show (Str.ofString (toString i)).length ≤ 300
    omega
theorem sm_str {z : Str} {n : Nat} (h : z.length ≤ n) (hc : ∀ c ∈ z.cps.toList, c < 128) : Sm (10 * n + 2) 0 (.str z) := by
  refine ⟨rfl, rfl, Nat.le_refl 0, ?_⟩
  have := PySem.StrLaws.reprText_len z fun c h => Nat.lt_trans (hc c h) (by decide)
  show (reprText z).length ≤ _
  omega
theorem Tp.tups {H H' : Hp} (m : ∀ c ys, H c = some (.tup ys) → H' c = some (.tup ys)) : ∀ {u : V} {d : PyData}, Tp H u d → Tp H' u d := @Tp.rec H (fun u d _ => Tp H' u d) (fun us ds _ => TpAll H' us ds) .non .bl .int .str (fun h _ r => .tup (m _ _ h) r) .nil (fun _ _ a b => .cons a b)
theorem TpAll.tups {H H' : Hp} (m : ∀ c ys, H c = some (.tup ys) → H' c = some (.tup ys)) : ∀ {us : List V} {ds : List PyData}, TpAll H us ds → TpAll H' us ds
  | _, _, .nil => .nil
  | _, _, .cons a r => .cons (a.tups m) (r.tups m)
theorem tups_ins {x C dx : Addr} {fs : List (Str × V)} {H H' : Hp} (hx : H x = some (.ins C dx fs)) (b : But x H H') : ∀ c ys, H c = some (.tup ys) → H' c = some (.tup ys) := fun c ys e => b _ _ (fun z => by rw [z, hx] at e; cases e) e
theorem Tp.butI {x C dx : Addr} {fs : List (Str × V)} {H H' : Hp} {u : V} {d : PyData} (h : Tp H u d) (hx : H x = some (.ins C dx fs)) (b : But x H H') : Tp H' u d := h.tups (tups_ins hx b)
theorem TpAll.butI {x C dx : Addr} {fs : List (Str × V)} {H H' : Hp} {us : List V} {ds : List PyData} (h : TpAll H us ds) (hx : H x = some (.ins C dx fs)) (b : But x H H') : TpAll H' us ds := h.tups (tups_ins hx b)
theorem tpC_inv {H : Hp} {v : V} {c : Co} (h : Tp H v (dC c)) : ∃ (a : Addr) (pv : V), v = .ref a ∧ H a = some (.tup [pv, .int c.r, .int c.w, .str c.o, .str c.n]) ∧ Tp H pv (dP c.p) := by
  cases h with
  | tup h r =>
    cases r with
    | cons h1 r =>
      cases r with
      | cons h2 r =>
        cases r with
        | cons h3 r =>
          cases r with
          | cons h4 r =>
            cases r with
            | cons h5 r =>
              cases r
              cases h2
              cases h3
              cases h4
              cases h5
              exact ⟨_, _, rfl, h, h1⟩
def Pd : Nat → PyData → Prop
  | 0, _ => False
  | _ + 1, .int _ => True
  | _ + 1, .str z => PyData.strOk z = true
  | n + 1, .tuple ds => ds.length ≤ 1000 ∧ ∀ d ∈ ds, Pd n d
  | _ + 1, _ => False
theorem lay_pd : ∀ (n : Nat) (d : PyData), Pd n d → d.canLay0 = true ∧ d.depth ≤ n
  | 0, _, h => h.elim
  | _ + 1, .int _, _ => ⟨rfl, Nat.zero_le _⟩
  | _ + 1, .str z, h => ⟨h, Nat.zero_le _⟩
  | n + 1, .tuple ds, h => by
    have key : ∀ es : List PyData, (∀ d ∈ es, Pd n d) → PyData.canLayAll0 es = true ∧ PyData.depthAll es ≤ n := by
      intro es
      induction es with
      | nil => exact fun _ => ⟨rfl, Nat.zero_le _⟩
      | cons d r ih =>
        intro hh
        have h1 := lay_pd n d (hh d (List.mem_cons_self ..))
        have h2 := ih fun e he => hh e (List.mem_cons_of_mem _ he)
        refine ⟨?_, ?_⟩
        · show (d.canLay0 && PyData.canLayAll0 r) = true
          rw [h1.1, h2.1]
          rfl
        · show max d.depth (PyData.depthAll r) ≤ n
          omega
    have := key ds h.2
    exact ⟨this.1, Nat.succ_le_succ this.2⟩
  | _ + 1, .none, h => by simp [Pd] at h
  | _ + 1, .bool _, h => by simp [Pd] at h
  | _ + 1, .list _, h => by simp [Pd] at h
  | _ + 1, .dict _, h => by simp [Pd] at h
theorem layl_pd {n : Nat} {ds : List PyData} (h : ∀ d ∈ ds, Pd n d) : (PyData.list ds).canLay0 = true ∧ (PyData.list ds).depth ≤ n + 1 := by
  induction ds with
  | nil => exact ⟨rfl, Nat.succ_le_succ (Nat.zero_le _)⟩
  | cons d r ih =>
    have h1 := lay_pd n d (h d (List.mem_cons_self ..))
    have h2 := ih fun e he => h e (List.mem_cons_of_mem _ he)
    refine ⟨?_, ?_⟩
    · show (d.canLay0 && (PyData.list r).canLay0) = true
      rw [h1.1, h2.1]
      rfl
    · have h3 : PyData.depthAll r + 1 ≤ n + 1 := h2.2
      show max d.depth (PyData.depthAll r) + 1 ≤ n + 1
      omega
theorem shaped_pdl {n : Nat} {ds : List PyData} (h : ∀ d ∈ ds, Pd n d) (hn : n ≤ 60) : SeqAt.shaped (.list ds) = true := by
  have := layl_pd h
  unfold SeqAt.shaped
  rw [Bool.and_eq_true]
  exact ⟨this.1, decide_eq_true (by omega)⟩
theorem eqv_pdl {n : Nat} {ds : List PyData} (h : ∀ d ∈ ds, Pd n d) : PyData.eqv (.list ds) (.list ds) = true := SeqAt.eqv_refl _ (layl_pd h).1
theorem nk_ints : ∀ L : List Int, nkDs (L.map PyData.int) = L.map PySem.NestedKey.num
  | [] => rfl
  | i :: r => by
    show PySem.NestedKey.num i :: nkDs (r.map PyData.int) = _
    rw [nk_ints r]
    rfl
theorem nk_P (p : Pg) : nkD (dP p) = .tup [.tup (p.1.map PySem.NestedKey.num), .num p.2] := by
  show PySem.NestedKey.tup [.tup (nkDs (p.1.map PyData.int)), .num p.2] = _
  rw [nk_ints]
def keyC (c : Co) : PyData := .tuple [dP c.p, .int c.r, .int c.w]
theorem key_depth (c : Co) : (nkD (keyC c)).depth ≤ 8 := by
  have : ∀ L : List Int, PySem.NestedKey.depthAll (L.map PySem.NestedKey.num) = 0 := by
    intro L
    induction L with
    | nil => rfl
    | cons x r ih => show max 0 (PySem.NestedKey.depthAll (r.map PySem.NestedKey.num)) = 0; rw [ih]; rfl
  show (PySem.NestedKey.tup [nkD (dP c.p), .num c.r, .num c.w]).depth ≤ 8
  rw [nk_P]
  show max (max (PySem.NestedKey.depthAll (c.p.1.map PySem.NestedKey.num) + 1) (max 0 0) + 1) (max 0 (max 0 0)) + 1 ≤ 8
  rw [this]
  decide
theorem ok_tok {z : Str} (h : ∀ x ∈ z.cps.toList, x < 128) : PyData.strOk z = true := by
  show z.cps.all (· < 0x110000) = true
  rw [← Array.all_toList, List.all_eq_true]
  intro x hx
  exact decide_eq_true (Nat.lt_trans (h x hx) (by decide))
theorem pd_P {p : Pg} (h : okP p) (n : Nat) : Pd (n + 3) (dP p) := ⟨by show 2 ≤ 1000; decide, fun d hd => by
  rcases List.mem_cons.mp hd with e | e
  · rw [e]
    refine ⟨by rw [List.length_map]; have := h.1.1; omega, fun f hf => ?_⟩
    obtain ⟨i, _, rfl⟩ := List.mem_map.mp hf
    trivial
  · rw [List.mem_singleton.mp e]; trivial⟩
theorem pd_C {c : Co} (h : okC c) : Pd 4 (dC c) := ⟨by show 5 ≤ 1000; decide, fun d hd => by
  obtain ⟨hp, hr, hw, ho, hn, _⟩ := h
  simp only [List.mem_cons, List.not_mem_nil, or_false] at hd
  rcases hd with rfl | rfl | rfl | rfl | rfl
  · exact pd_P hp 0
  · trivial
  · trivial
  · exact ok_tok ho.2
  · exact ok_tok hn.2⟩
theorem pd_Cs {cs : List Co} (h : ∀ c ∈ cs, okC c) : ∀ d ∈ cs.map dC, Pd 4 d := fun d hd => by
  obtain ⟨c, hc, rfl⟩ := List.mem_map.mp hd
  exact pd_C (h c hc)
theorem pd_Ct {cs : List Co} (h : ∀ c ∈ cs, okC c) (l : cs.length ≤ 60) : Pd 5 (.tuple (cs.map dC)) := ⟨by rw [List.length_map]; omega, pd_Cs h⟩
theorem shaped_pd {n : Nat} {d : PyData} (h : Pd n d) (hn : n ≤ 60) : SeqAt.shaped d = true := by
  have := lay_pd n d h
  unfold SeqAt.shaped
  rw [Bool.and_eq_true]
  exact ⟨this.1, decide_eq_true (by omega)⟩
theorem eqv_pd {n : Nat} {d : PyData} (h : Pd n d) : PyData.eqv d d = true := SeqAt.eqv_refl _ (lay_pd n d h).1
theorem no_none (cs : List Co) : ((cs.map dC).any fun z => PyData.eqv z .none) = false := by
  rw [List.any_eq_false]
  intro z hz
  obtain ⟨c, _, rfl⟩ := List.mem_map.mp hz
  exact Bool.false_ne_true
theorem atN_mem {kvs : List NE} {k : PySem.NestedKey} {v : V} (h : atN kvs k = some v) : ∃ p ∈ kvs, p.2.2 = v := by
  unfold atN at h
  obtain ⟨p, hp, e⟩ := Option.map_eq_some_iff.mp h
  exact ⟨p, List.mem_of_find?_eq_some hp, e⟩
theorem none_of {H H' : Hp} (s : Same H H') {p : Addr} (n : H' p = none) : H p = none := by
  cases e : H p with
  | none => rfl
  | some o => rw [s _ _ e] at n; cases n
/-! ### tokens that the law draws -/
def SG : Str := "abmw0129/.-:()*+!\"#$&',;<=>?@ABCDEFGHIJKLMNOPQRSTUVWXYZ[\\]^_`cdefghijklnopqrstuvxyz345678{|}~"
theorem SG_len : SG.cps.toList.length = 93 := by decide +kernel
theorem all_sgn {z : Str} (h : z.cps.toList.all (fun x => decide (x ≠ 32) && decide (x < 128)) = true) : ∀ x ∈ z.cps.toList, x ≠ 32 ∧ x < 128 := fun x hx => by
  have := List.all_eq_true.mp h x hx
  rw [Bool.and_eq_true] at this
  exact ⟨of_decide_eq_true this.1, of_decide_eq_true this.2⟩
theorem SG_sgn : ∀ x ∈ SG.cps.toList, x ≠ 32 ∧ x < 128 := all_sgn (by decide +kernel)
theorem tok_of {z : Str} (l1 : 1 ≤ z.length) (l2 : z.length ≤ 20) (h : ∀ x ∈ z.cps.toList, x ≠ 32 ∧ x < 128) : Wd z := by
  refine ⟨?_, fun x hx => (h x hx).2⟩
  unfold tokB
  simp only [Bool.and_eq_true, decide_eq_true_eq]
  exact ⟨⟨l1, l2⟩, fun m => (h 32 m).1 rfl⟩
theorem Wd.sgn {z : Str} (h : Wd z) : ∀ x ∈ z.cps.toList, x ≠ 32 ∧ x < 128 := fun x hx => ⟨fun e => h.free (e ▸ hx), h.2 x hx⟩
theorem app_sgn {x y : Str} {P : Nat → Prop} (hx : ∀ c ∈ x.cps.toList, P c) (hy : ∀ c ∈ y.cps.toList, P c) : ∀ c ∈ (x ++ y).cps.toList, P c := fun c hc => by
  rw [cps_toList_append] at hc
  rcases List.mem_append.mp hc with h | h
  · exact hx c h
  · exact hy c h
theorem one_sgn {c : Nat} {P : Nat → Prop} (h : P c) : ∀ x ∈ (⟨#[c]⟩ : Str).cps.toList, P x := fun x hx => by
  rw [List.mem_singleton.mp (show x ∈ [c] from hx)]
  exact h
theorem str_len (z : Str) : z.length = z.cps.toList.length := rfl
theorem cut1 {z : Str} (h : 1 ≤ z.length) : (cutS z (some 1) none).cps.toList = z.cps.toList.drop 1 := by
  unfold cutS
  rw [HT.sIx_none, show HT.sIx z.length 0 (some 1) = 1 by
    have := HT.sIx_nat z.length 0 1
    rw [show ((1 : Nat) : Int) = 1 from rfl] at this
    rw [this]
    omega]
  show (((z.cps.toList.drop 1).take (z.length - 1)).toArray).toList = _
  rw [List.take_of_length_le (by rw [List.length_drop]; exact Nat.le_refl _)]
theorem cut1_len {z : Str} (h : 1 ≤ z.length) : (cutS z (some 1) none).length = z.length - 1 := by
  rw [str_len, cut1 h, List.length_drop]
  rfl
theorem tok_new {z y : Str} (hz : Wd z) (hy : y.length = 1) (hs : ∀ x ∈ y.cps.toList, x ≠ 32 ∧ x < 128) : Wd (y ++ cutS z (some 1) none) := by
  have l := hz.len
  refine tok_of (by rw [app_len]; omega) (by rw [app_len, cut1_len l.1]; omega) (app_sgn hs fun c hc => hz.sgn c ?_)
  rw [cut1 l.1] at hc
  exact List.mem_of_mem_drop hc
def WS : List Str := ["on", "for", "read", "0", "11", "7a", "7.0.1b", "clear", "leaf", "-"]
theorem WS_len : WS.length = 10 := rfl
theorem WS_tok : ∀ z ∈ WS, Wd z := fun z hz => by
  simp only [WS, List.mem_cons, List.not_mem_nil, or_false] at hz
  rcases hz with rfl | rfl | rfl | rfl | rfl | rfl | rfl | rfl | rfl | rfl <;> exact tok_of (by decide +kernel) (by decide +kernel) (all_sgn (by decide +kernel))
theorem shown_Ps {p : Pg} (h : okP p) : Sm 7578 2 (dP p) := by
  obtain ⟨⟨h1, h2, h3⟩, h4⟩ := h
  refine sm_tup (B := 1513) (k := 1) (by show 2 ≤ 5; decide) fun d hd => ?_
  rcases List.mem_cons.mp hd with e | e
  · rw [e]
    refine sm_tup (B := 300) (k := 0) (by rw [List.length_map]; omega) fun f hf => ?_
    obtain ⟨i, hi, rfl⟩ := List.mem_map.mp hf
    have := h3 i hi
    exact sm_int (by omega)
  · rw [List.mem_singleton.mp e]
    exact (sm_int (by omega)).mono (by decide) (by decide)
theorem shown_C {c : Co} (h : okC c) : Sm 37903 3 (dC c) := by
  obtain ⟨hp, hr, hw, ho, hn, _⟩ := h
  refine sm_tup (B := 7578) (k := 2) (by show 5 ≤ 5; decide) fun d hd => ?_
  simp only [List.mem_cons, List.not_mem_nil, or_false] at hd
  rcases hd with rfl | rfl | rfl | rfl | rfl
  · exact shown_Ps hp
  · exact (sm_int (by omega)).mono (by decide) (by decide)
  · exact (sm_int (by omega)).mono (by decide) (by decide)
  · exact (sm_str (n := 20) ho.len.2 ho.2).mono (by decide) (by decide)
  · exact (sm_str (n := 20) hn.len.2 hn.2).mono (by decide) (by decide)
theorem shown_Cs {cs : List Co} (h : ∀ c ∈ cs, okC c) (l : cs.length ≤ 60) : Shown (.tuple (cs.map dC)) := by
  refine sm_shown (sm_tupN (B := 37903) (k := 3) (n := 60) (by rw [List.length_map]; exact l) fun d hd => ?_) (by decide) (by decide)
  obtain ⟨c, hc, rfl⟩ := List.mem_map.mp hd
  exact shown_C (h c hc)
theorem shown_Fs {cs : List Co} (h : ∀ c ∈ cs, okC c) (l : cs.length ≤ 60) : Shown (dS (cs.map fC)) := by
  refine sm_shown (sm_tupN (B := 802) (k := 0) (n := 60) (by rw [List.length_map, List.length_map]; exact l) fun d hd => ?_) (by decide) (by decide)
  obtain ⟨z, hz, rfl⟩ := List.mem_map.mp hd
  obtain ⟨c, hc, rfl⟩ := List.mem_map.mp hz
  exact sm_str (fC_len (h c hc)) (fC_sgn (h c hc))
theorem fC_map (cs : List Co) : (cs.map fun c => V.str (fC c)) = (cs.map fC).map V.str := by rw [List.map_map]; rfl
/-! ### corrections by their places -/
abbrev PL := Pg × Int × Int
def Co.pl (c : Co) : PL := (c.p, c.r, c.w)
def dQ (q : PL) : PyData := .tuple [dP q.1, .int q.2.1, .int q.2.2]
def okQ (q : PL) : Prop := okP q.1 ∧ (0 ≤ q.2.1 ∧ q.2.1 ≤ 11) ∧ (0 ≤ q.2.2 ∧ q.2.2 ≤ 29)
theorem okC.q {c : Co} (h : okC c) : okQ c.pl := ⟨h.1, h.2.1, h.2.2.1⟩
theorem nkQ (q : PL) : nkD (dQ q) = .tup [nkD (dP q.1), .num q.2.1, .num q.2.2] := rfl
theorem nums_inj : ∀ {a b : List Int}, a.map PySem.NestedKey.num = b.map PySem.NestedKey.num → a = b
  | [], [], _ => rfl
  | [], _ :: _, h => by cases h
  | _ :: _, [], h => by cases h
  | x :: a, y :: b, h => by
    simp only [List.map_cons, List.cons.injEq] at h
    injection h.1 with e
    rw [e, nums_inj h.2]
theorem nkQ_inj {q r : PL} (h : nkD (dQ q) = nkD (dQ r)) : q = r := by
  obtain ⟨⟨L, s⟩, a, b⟩ := q
  obtain ⟨⟨M, t⟩, c, d⟩ := r
  rw [nkQ, nkQ, nk_P, nk_P] at h
  injection h with h
  simp only [List.cons.injEq, and_true] at h
  obtain ⟨h1, h2, h3⟩ := h
  injection h1 with h1
  simp only [List.cons.injEq, and_true] at h1
  obtain ⟨h4, h5⟩ := h1
  injection h4 with h4
  injection h2 with h2
  injection h3 with h3
  injection h5 with h5
  have e := nums_inj h4
  subst e h2 h3 h5
  rfl
def dT2 (t : Str × Str) : PyData := .tuple [.str t.1, .str t.2]
def turnsOf (cs : List Co) (q : PL) : List (Str × Str) := (cs.filter fun c => decide (c.pl = q)).map fun c => (c.o, c.n)
def addP (l : List PL) (q : PL) : List PL := if q ∈ l then l else l ++ [q]
def placesOf (cs : List Co) : List PL := cs.foldl (fun l c => addP l c.pl) []
theorem turnsOf_snoc (cs : List Co) (c : Co) (q : PL) : turnsOf (cs ++ [c]) q = turnsOf cs q ++ if c.pl = q then [(c.o, c.n)] else [] := by
  unfold turnsOf
  rw [List.filter_append, List.map_append]
  by_cases e : c.pl = q <;> simp [e]
theorem placesOf_snoc (cs : List Co) (c : Co) : placesOf (cs ++ [c]) = addP (placesOf cs) c.pl := by
  unfold placesOf
  rw [List.foldl_append]
  rfl
theorem addP_mem {l : List PL} {q r : PL} : r ∈ addP l q ↔ r ∈ l ∨ r = q := by
  unfold addP
  split
  · next h => exact ⟨.inl, fun z => z.elim id fun e => e ▸ h⟩
  · simp
theorem addP_nodup {l : List PL} {q : PL} (h : l.Nodup) : (addP l q).Nodup := by
  unfold addP
  split
  · exact h
  · next hn => exact List.nodup_append.mpr ⟨h, by simp, fun a ha b hb e => hn (by rw [← List.mem_singleton.mp hb, ← e]; exact ha)⟩
theorem places_nodup (cs : List Co) : (placesOf cs).Nodup := by
  have go : ∀ (cs : List Co) (l : List PL), l.Nodup → (cs.foldl (fun l c => addP l c.pl) l).Nodup := by
    intro cs
    induction cs with
    | nil => intro l h; exact h
    | cons c r ih => intro l h; exact ih _ (addP_nodup h)
  exact go cs [] List.nodup_nil
theorem places_mem {cs : List Co} {q : PL} : q ∈ placesOf cs ↔ ∃ c ∈ cs, c.pl = q := by
  have go : ∀ (cs : List Co) (l : List PL), q ∈ cs.foldl (fun l c => addP l c.pl) l ↔ q ∈ l ∨ ∃ c ∈ cs, c.pl = q := by
    intro cs
    induction cs with
    | nil => intro l; simp
    | cons c r ih =>
      intro l
      show q ∈ r.foldl (fun l c => addP l c.pl) (addP l c.pl) ↔ _
      rw [ih, addP_mem]
      simp only [List.mem_cons, exists_eq_or_imp]
      constructor
      · rintro ((h | h) | h)
        · exact .inl h
        · exact .inr (.inl h.symm)
        · exact .inr (.inr h)
      · rintro (h | h | h)
        · exact .inl (.inl h)
        · exact .inl (.inr h.symm)
        · exact .inr h
  unfold placesOf
  rw [go]
  simp
theorem places_len (cs : List Co) : (placesOf cs).length ≤ cs.length := by
  have go : ∀ (cs : List Co) (l : List PL), (cs.foldl (fun l c => addP l c.pl) l).length ≤ l.length + cs.length := by
    intro cs
    induction cs with
    | nil => intro l; exact Nat.le_refl _
    | cons c r ih =>
      intro l
      have h1 := ih (addP l c.pl)
      have h2 : (addP l c.pl).length ≤ l.length + 1 := by
        unfold addP
        split
        · omega
        · rw [List.length_append]; exact Nat.le_refl _
      show (r.foldl (fun l c => addP l c.pl) (addP l c.pl)).length ≤ _
      rw [List.length_cons]
      omega
  exact Nat.le_trans (go cs []) (by simp)
theorem turns_none {cs : List Co} {q : PL} (h : q ∉ placesOf cs) : turnsOf cs q = [] := by
  unfold turnsOf
  rw [List.map_eq_nil_iff, List.filter_eq_nil_iff]
  intro c hc z
  exact h (places_mem.mpr ⟨c, hc, of_decide_eq_true z⟩)
theorem turns_len (cs : List Co) (q : PL) : (turnsOf cs q).length ≤ cs.length := by
  unfold turnsOf
  rw [List.length_map]
  exact List.length_filter_le ..
/-- the turns that are taken, from what stands there -/
def stepsO : List (Str × Str) → Option Str → List (Str × Str)
  | [], _ => []
  | t :: r, z => if z = some t.1 then t :: stepsO r (some t.2) else stepsO r z
theorem stepsO_none : ∀ ts, stepsO ts none = []
  | [] => rfl
  | t :: r => by
    unfold stepsO
    rw [if_neg (by simp)]
    exact stepsO_none r
theorem stepsO_len : ∀ ts z, (stepsO ts z).length ≤ ts.length
  | [], _ => Nat.le_refl _
  | t :: r, z => by
    unfold stepsO
    split
    · exact Nat.succ_le_succ (stepsO_len r _)
    · exact Nat.le_succ_of_le (stepsO_len r z)
def tstep (ts : List (Str × Str)) (z : Str) : Str := ts.foldl (fun t p => if p.1 = t then p.2 else t) z
theorem steps_last : ∀ (ts : List (Str × Str)) (z : Str), ((stepsO ts (some z)).getLast?.map Prod.snd).getD z = tstep ts z
  | [], _ => rfl
  | t :: r, z => by
    unfold stepsO tstep
    rw [List.foldl_cons]
    by_cases e : t.1 = z
    · rw [if_pos (by rw [e]), if_pos e]
      show _ = tstep r t.2
      rw [← steps_last r t.2]
      cases h : stepsO r (some t.2) with
      | nil => rfl
      | cons a b => rw [List.getLast?_cons_cons]; cases hl : (a :: b).getLast? with
        | none => simp at hl
        | some y => rfl
    · rw [if_neg (by intro z2; exact e (Option.some.inj z2).symm), if_neg e]
      exact steps_last r z
theorem steps_same : ∀ (ts : List (Str × Str)) (z : Str), stepsO ts (some z) = [] → tstep ts z = z := fun ts z h => by
  have := steps_last ts z
  rw [h] at this
  exact this.symm
theorem steps_mem : ∀ {ts : List (Str × Str)} {z : Option Str} {t : Str × Str}, t ∈ stepsO ts z → t ∈ ts
  | [], _, _, h => by cases h
  | a :: r, z, t, h => by
    unfold stepsO at h
    split at h
    · rcases List.mem_cons.mp h with rfl | h
      · exact List.mem_cons_self ..
      · exact List.mem_cons_of_mem _ (steps_mem h)
    · exact List.mem_cons_of_mem _ (steps_mem h)
/-- what a token becomes at a place -/
def chain (cs : List Co) (q : PL) (z : Str) : Str := cs.foldl (fun t c => if c.pl = q ∧ c.o = t then c.n else t) z
theorem chain_turns : ∀ (cs : List Co) (q : PL) (z : Str), chain cs q z = tstep (turnsOf cs q) z
  | [], _, _ => rfl
  | c :: r, q, z => by
    show chain r q (if c.pl = q ∧ c.o = z then c.n else z) = _
    rw [chain_turns r q]
    unfold turnsOf
    by_cases e : c.pl = q
    · rw [List.filter_cons, if_pos (decide_eq_true e), List.map_cons]
      unfold tstep
      rw [List.foldl_cons]
      by_cases e2 : c.o = z
      · rw [if_pos ⟨e, e2⟩, if_pos e2]
      · rw [if_neg (fun h => e2 h.2), if_neg e2]
    · rw [if_neg (fun h : c.pl = q ∧ c.o = z => e h.1), List.filter_cons, if_neg (by simpa using e)]
theorem chain_snoc (cs : List Co) (c : Co) (q : PL) (z : Str) : chain (cs ++ [c]) q z = if c.pl = q ∧ c.o = chain cs q z then c.n else chain cs q z := by
  unfold chain
  rw [List.foldl_append]
  rfl
theorem chain_none {cs : List Co} {q : PL} (h : q ∉ placesOf cs) (z : Str) : chain cs q z = z := by
  rw [chain_turns, turns_none h]
  rfl
theorem chain_of : ∀ (cs : List Co) (q : PL) (z : Str), chain cs q z = z ∨ ∃ c ∈ cs, chain cs q z = c.n
  | [], _, _ => .inl rfl
  | c :: r, q, z => by
    rw [show chain (c :: r) q z = chain r q (if c.pl = q ∧ c.o = z then c.n else z) from rfl]
    split
    · rcases chain_of r q c.n with h | ⟨d, hd, h⟩
      · exact .inr ⟨c, List.mem_cons_self .., h⟩
      · exact .inr ⟨d, List.mem_cons_of_mem _ hd, h⟩
    · rcases chain_of r q z with h | ⟨d, hd, h⟩
      · exact .inl h
      · exact .inr ⟨d, List.mem_cons_of_mem _ hd, h⟩
/-! entries of the dict of turns -/
structure En where
  q : PL
  b : Addr
  l : Addr
  us : List V
def kvE (es : List En) : List NE := es.map fun e => (nkD (dQ e.q), e.b, V.ref e.l)
theorem atE : ∀ (es : List En) (q : PL), atN (kvE es) (nkD (dQ q)) = (es.find? fun e => decide (e.q = q)).map fun e => V.ref e.l
  | [], _ => rfl
  | e :: r, q => by
    unfold atN kvE
    rw [List.map_cons, List.find?_cons, List.find?_cons]
    by_cases h : e.q = q
    · rw [decide_eq_true (by rw [h] : nkD (dQ e.q) = nkD (dQ q)), decide_eq_true h]
      rfl
    · rw [decide_eq_false (fun z => h (nkQ_inj z)), decide_eq_false h]
      exact atE r q
def EnOk (H : Hp) (cs : List Co) (e : En) : Prop := Tp H (.ref e.b) (dQ e.q) ∧ TpAll H e.us ((turnsOf cs e.q).map dT2)
theorem EnOk.nl {H H' : Hp} {cs : List Co} {e : En} (m : NL H H') (h : EnOk H cs e) : EnOk H' cs e := ⟨h.1.nl m, h.2.nl m⟩
def TurnsAt (w : World) (H : Hp) (t : Addr) (cs : List Co) : Prop := ∃ es : List En, DNf w H t (kvE es) ∧ es.map En.q = placesOf cs ∧ ∀ e ∈ es, EnOk H cs e ∧ ∃ o, H e.l = some (.frz o (.lst e.us))
theorem TurnsAt.nl {w : World} {H H' : Hp} {t : Addr} {cs : List Co} (m : NL H H') (h : TurnsAt w H t cs) : TurnsAt w H' t cs := by
  obtain ⟨es, h1, h2, h3⟩ := h
  refine ⟨es, h1.nl m, h2, fun e he => ?_⟩
  obtain ⟨h4, o, h5⟩ := h3 e he
  exact ⟨h4.nl m, o, m _ _ h5 fun _ z => nomatch z⟩
theorem dQ_depth (q : PL) : (nkD (dQ q)).depth ≤ 8 := key_depth ⟨q.1, q.2.1, q.2.2, ⟨#[]⟩, ⟨#[]⟩⟩
theorem noL_Q (q : PL) : noL (dQ q) = true := by
  have h : ∀ L : List Int, noLs (L.map PyData.int) = true := by
    intro L
    induction L with
    | nil => rfl
    | cons x r ih => exact ih
  show (noL (dP q.1) && _) = true
  have : noL (dP q.1) = true := by
    show (noLs (q.1.1.map PyData.int) && _) = true
    rw [h]
    rfl
  rw [this]
  rfl
/-! a leaf's turns -/
def p3 (q : PL) : P3 := (q.1.2, q.2.1, q.2.2)
def turnL (cs : List Co) (lf : Lf) (q : PL) : Option (PL × Str) := if q.1.1 = lf.L then (match saysL lf (p3 q) with | some z => if stepsO (turnsOf cs q) (some z) = [] then none else some (q, chain cs q z) | none => none) else none
def lturns (cs : List Co) (lf : Lf) : List (PL × Str) := (placesOf cs).filterMap (turnL cs lf)
def dLT (t : PL × Str) : PyData := .tuple [dQ t.1, .str t.2]
def skT (t : PL × Str) : Sk := (p3 t.1, t.2)
theorem turnL_some {cs : List Co} {lf : Lf} {q : PL} {t : PL × Str} (h : turnL cs lf q = some t) : t.1 = q ∧ q.1.1 = lf.L ∧ ∃ z, saysL lf (p3 q) = some z ∧ t.2 = chain cs q z ∧ stepsO (turnsOf cs q) (some z) ≠ [] := by
  unfold turnL at h
  split at h
  · next e =>
    split at h
    · next z hz =>
      split at h
      · cases h
      · next hn => cases h; exact ⟨rfl, e, z, hz, rfl, hn⟩
    · cases h
  · cases h
theorem lturns_places (cs : List Co) (lf : Lf) : ((lturns cs lf).map Prod.fst).Sublist (placesOf cs) := by
  unfold lturns
  generalize placesOf cs = l
  induction l with
  | nil => exact .slnil
  | cons q r ih =>
    rw [List.filterMap_cons]
    cases h : turnL cs lf q with
    | none => exact ih.cons _
    | some t =>
      rw [List.map_cons, (turnL_some h).1]
      exact ih.cons₂ _
theorem lturns_nodup (cs : List Co) (lf : Lf) : (((lturns cs lf).map skT).map Prod.fst).Nodup := by
  have h1 := (lturns_places cs lf).nodup (places_nodup cs)
  rw [List.map_map]
  have key : ∀ t ∈ lturns cs lf, t.1.1.1 = lf.L := fun t ht => by
    obtain ⟨q, _, hq⟩ := List.mem_filterMap.mp ht
    obtain ⟨e, e2, _⟩ := turnL_some hq
    rw [e]
    exact e2
  rw [List.Nodup, List.pairwise_map] at h1 ⊢
  refine h1.imp_of_mem fun {a b} ha hb hn e => hn ?_
  have e' : p3 a.1 = p3 b.1 := e
  unfold p3 at e'
  injection e' with e1 e2
  injection e2 with e2 e3
  have k1 := key a ha
  have k2 := key b hb
  obtain ⟨⟨⟨La, sa⟩, ra, wa⟩, za⟩ := a
  obtain ⟨⟨⟨Lb, sb⟩, rb, wb⟩, zb⟩ := b
  simp only at *
  rw [k1, k2, e1, e2, e3]
theorem lturns_len (cs : List Co) (lf : Lf) : (lturns cs lf).length ≤ cs.length := Nat.le_trans (List.length_filterMap_le ..) (places_len cs)
theorem says_pl {lf : Lf} {p : P3} {z : Str} (h : saysL lf p = some z) : plB lf p = true := by
  unfold saysL at h
  split at h
  · assumption
  · cases h
theorem lturns_ok {cs : List Co} {lf : Lf} (hc : ∀ c ∈ cs, okC c) : okPen lf ((lturns cs lf).map skT) := fun s hs => by
  obtain ⟨t, ht, rfl⟩ := List.mem_map.mp hs
  obtain ⟨q, _, hq⟩ := List.mem_filterMap.mp ht
  obtain ⟨e, _, z, hz, e2, hn⟩ := turnL_some hq
  refine ⟨by show plB lf (p3 t.1) = true; rw [e]; exact says_pl hz, ?_⟩
  show tokB t.2 = true
  rw [e2, chain_turns, ← steps_last]
  cases h : (stepsO (turnsOf cs q) (some z)).getLast? with
  | none => exact absurd (List.getLast?_eq_none_iff.mp h) hn
  | some t2 =>
    have hm := steps_mem (List.mem_of_getLast? h)
    unfold turnsOf at hm
    obtain ⟨c, hc2, rfl⟩ := List.mem_map.mp hm
    exact (hc c (List.mem_filter.mp hc2).1).2.2.2.2.1.1
theorem lturns_at {cs : List Co} {lf : Lf} {p : P3} {z : Str} (h : saysL lf p = some z) : (penAt ((lturns cs lf).map skT) p).getD z = chain cs ((lf.L, p.1), p.2) z := by
  have ep : p3 ((lf.L, p.1), p.2) = p := rfl
  by_cases hp : ((lf.L, p.1), p.2) ∈ placesOf cs
  · by_cases hs : stepsO (turnsOf cs ((lf.L, p.1), p.2)) (some z) = []
    · have e : chain cs ((lf.L, p.1), p.2) z = z := by rw [chain_turns]; exact steps_same _ _ hs
      rw [e]
      have : penAt ((lturns cs lf).map skT) p = none := penAt_none fun hm => by
        obtain ⟨s, hs2, es⟩ := List.mem_map.mp hm
        obtain ⟨t, ht, rfl⟩ := List.mem_map.mp hs2
        obtain ⟨q, _, hq⟩ := List.mem_filterMap.mp ht
        obtain ⟨e1, e2, y, hy, _, hn⟩ := turnL_some hq
        have eq : q = ((lf.L, p.1), p.2) := by
          have z1 : p3 t.1 = p := es
          rw [e1] at z1
          obtain ⟨⟨L, s⟩, a, b⟩ := q
          rw [← z1]
          simp only at e2
          rw [← e2]
          rfl
        rw [eq] at hy hn
        rw [ep, h] at hy
        cases hy
        exact hn hs
      rw [this]
      rfl
    · have hm : (((lf.L, p.1), p.2), chain cs ((lf.L, p.1), p.2) z) ∈ lturns cs lf := by
        refine List.mem_filterMap.mpr ⟨_, hp, ?_⟩
        unfold turnL
        rw [if_pos rfl, ep, h]
        exact if_neg hs
      have := penAt_of (lturns_nodup cs lf) (List.mem_map_of_mem (f := skT) hm)
      rw [show (skT (((lf.L, p.1), p.2), chain cs ((lf.L, p.1), p.2) z)).1 = p from rfl] at this
      rw [this]
      rfl
  · rw [chain_none hp]
    have : penAt ((lturns cs lf).map skT) p = none := penAt_none fun hm => by
      obtain ⟨s, hs2, es⟩ := List.mem_map.mp hm
      obtain ⟨t, ht, rfl⟩ := List.mem_map.mp hs2
      obtain ⟨q, hq0, hq⟩ := List.mem_filterMap.mp ht
      obtain ⟨e1, e2, y, hy, _, hn⟩ := turnL_some hq
      have eq : q = ((lf.L, p.1), p.2) := by
        have z1 : p3 t.1 = p := es
        rw [e1] at z1
        obtain ⟨⟨L, s⟩, a, b⟩ := q
        rw [← z1]
        simp only at e2
        rw [← e2]
        rfl
      exact hp (eq ▸ hq0)
    rw [this]
    rfl
/-- a leaf with corrections carried out on it -/
def Car (cs : List Co) (lf lf' : Lf) : Prop := lf'.L = lf.L ∧ lf'.fr = lf.fr ∧ lf'.bk = lf.bk ∧ okLw lf' ∧ lf'.pen.length ≤ lf.pen.length + cs.length ∧ ∀ p, saysL lf' p = (saysL lf p).map fun z => chain cs ((lf.L, p.1), p.2) z
theorem t2_inv {H : Hp} {v : V} {t : Str × Str} (h : Tp H v (dT2 t)) : ∃ a, v = .ref a ∧ H a = some (.tup [.str t.1, .str t.2]) := by
  cases h with
  | tup e r =>
    cases r with
    | cons a1 r =>
      cases r with
      | cons a2 r =>
        cases r
        cases a1
        cases a2
        exact ⟨_, rfl, e⟩
/-! the entries while they are made: H the heap ahead -/
def EsOk (H H1 : Hp) (cs : List Co) (es : List En) (i : Nat) : Prop := es.map En.q = placesOf cs ∧ es.length ≤ i ∧ (es.map En.l).Nodup ∧ ∀ e ∈ es, EnOk H1 cs e ∧ H e.l = none ∧ H1 e.l = some (.lst e.us) ∧ e.us.length ≤ i
def addE (q : PL) (v : V) (e : En) : En := if e.q = q then ⟨e.q, e.b, e.l, e.us ++ [v]⟩ else e
theorem addE_q (q : PL) (v : V) (e : En) : (addE q v e).q = e.q := by unfold addE; split <;> rfl
theorem addE_l (q : PL) (v : V) (e : En) : (addE q v e).l = e.l := by unfold addE; split <;> rfl
theorem addE_b (q : PL) (v : V) (e : En) : (addE q v e).b = e.b := by unfold addE; split <;> rfl
theorem kvE_add (q : PL) (v : V) (es : List En) : kvE (es.map (addE q v)) = kvE es := by
  unfold kvE
  rw [List.map_map]
  refine List.map_congr_left fun e _ => ?_
  show (nkD (dQ (addE q v e).q), (addE q v e).b, V.ref (addE q v e).l) = _
  rw [addE_q, addE_b, addE_l]
theorem nodup_at {α β : Type} {f : α → β} {l : List α} (h : (l.map f).Nodup) {a b : α} (ha : a ∈ l) (hb : b ∈ l) (e : f a = f b) : a = b := by
  induction l with
  | nil => cases ha
  | cons x r ih =>
    obtain ⟨h1, h2⟩ := List.nodup_cons.mp (by rw [← List.map_cons]; exact h)
    rcases List.mem_cons.mp ha with e1 | ha1
    · rcases List.mem_cons.mp hb with e2 | hb1
      · exact e1.trans e2.symm
      · exact absurd (by rw [← e1, e]; exact List.mem_map_of_mem hb1) h1
    · rcases List.mem_cons.mp hb with e2 | hb1
      · exact absurd (by rw [← e2, ← e]; exact List.mem_map_of_mem ha1) h1
      · exact ih h2 ha1 hb1
theorem EsOk.old {H H1 H4 H5 : Hp} {cs : List Co} {c : Co} {es : List En} {i : Nat} {e0 : En} {e : Addr} (h : EsOk H H1 cs es i) (he : e0 ∈ es) (q0 : e0.q = c.pl) (s : Same H1 H4) (m : NL H4 H5) (te : Tp H4 (.ref e) (dT2 (c.o, c.n)))
    (ne : ∀ l, l ≠ e0.l → H5 l = H4 l) (at_ : H5 e0.l = some (.lst (e0.us ++ [.ref e]))) : EsOk H H5 (cs ++ [c]) (es.map (addE c.pl (.ref e))) (i + 1) := by
  obtain ⟨h1, h2, h3, h4⟩ := h
  have nq : (es.map En.q).Nodup := h1 ▸ places_nodup cs
  refine ⟨?_, by rw [List.length_map]; omega, ?_, fun x hx => ?_⟩
  · rw [List.map_map, placesOf_snoc, ← h1]
    have : (En.q ∘ addE c.pl (.ref e)) = En.q := by funext x; exact addE_q _ _ x
    rw [this]
    unfold addP
    rw [if_pos]
    rw [← q0]
    exact List.mem_map_of_mem he
  · rw [List.map_map]
    have : (En.l ∘ addE c.pl (.ref e)) = En.l := by funext x; exact addE_l _ _ x
    rw [this]
    exact h3
  · obtain ⟨y, hy, rfl⟩ := List.mem_map.mp hx
    obtain ⟨k1, k2, k3, k4⟩ := h4 y hy
    have k1' := (k1.nl (NL.of s)).nl m
    by_cases eq : y.q = c.pl
    · have ey : y = e0 := nodup_at nq hy he (eq.trans q0.symm)
      subst ey
      unfold addE
      rw [if_pos eq]
      refine ⟨⟨k1'.1, ?_⟩, k2, at_, by rw [List.length_append]; exact Nat.succ_le_succ k4⟩
      rw [turnsOf_snoc, if_pos eq.symm, List.map_append]
      exact k1'.2.snoc (te.nl m)
    · have nl : y.l ≠ e0.l := fun z => eq ((congrArg En.q (nodup_at h3 hy he z)).trans q0)
      unfold addE
      rw [if_neg eq]
      refine ⟨⟨k1'.1, ?_⟩, k2, by rw [ne _ nl]; exact s _ _ k3, by omega⟩
      rw [turnsOf_snoc, if_neg (fun z => eq z.symm), List.append_nil]
      exact k1'.2
theorem EsOk.new {H H1 H2 H5 : Hp} {cs : List Co} {c : Co} {es : List En} {i : Nat} {kb z e : Addr} (h : EsOk H H1 cs es i) (nq : c.pl ∉ placesOf cs) (nz : H2 z = none) (fz : H z = none) (k : ∀ {l : Addr} {ys : List V}, H1 l = some (.lst ys) → H5 l = some (.lst ys) ∧ l ≠ z) (tu : ∀ {q : Addr} {ys : List V}, H1 q = some (.tup ys) → H5 q = some (.tup ys))
    (tk : Tp H5 (.ref kb) (dQ c.pl)) (te : Tp H5 (.ref e) (dT2 (c.o, c.n))) (at_ : H5 z = some (.lst [.ref e])) : EsOk H H5 (cs ++ [c]) (es ++ [⟨c.pl, kb, z, [.ref e]⟩]) (i + 1) := by
  obtain ⟨h1, h2, h3, h4⟩ := h
  refine ⟨?_, by rw [List.length_append]; exact Nat.succ_le_succ h2, ?_, fun x hx => ?_⟩
  · rw [List.map_append, h1, placesOf_snoc]
    unfold addP
    rw [if_neg nq]
    rfl
  · rw [List.map_append]
    refine List.nodup_append.mpr ⟨h3, by simp, fun a ha b hb e2 => ?_⟩
    obtain ⟨y, hy, rfl⟩ := List.mem_map.mp ha
    rw [List.mem_singleton.mp hb] at e2
    obtain ⟨_, k2, k3, _⟩ := h4 y hy
    exact (k k3).2 e2
  · rcases List.mem_append.mp hx with hx | hx
    · obtain ⟨k1, k2, k3, k4⟩ := h4 x hx
      refine ⟨⟨k1.1.tups fun _ _ e => tu e, ?_⟩, k2, (k k3).1, by omega⟩
      have eq : ¬ c.pl = x.q := fun z => nq (by rw [z, ← h1]; exact List.mem_map_of_mem hx)
      rw [turnsOf_snoc, if_neg eq, List.append_nil]
      exact k1.2.tups fun _ _ e => tu e
    · rw [List.mem_singleton.mp hx]
      refine ⟨⟨tk, ?_⟩, fz, at_, Nat.succ_le_succ (Nat.zero_le _)⟩
      show TpAll H5 [.ref e] ((turnsOf (cs ++ [c]) c.pl).map dT2)
      rw [turnsOf_snoc, if_pos rfl, turns_none nq]
      exact .cons te .nil
theorem TurnsAt.butI {w : World} {H H' : Hp} {x C dx t : Addr} {fs : List (Str × V)} {cs : List Co} (hx : H x = some (.ins C dx fs)) (m : But x H H') (h : TurnsAt w H t cs) : TurnsAt w H' t cs := by
  have tups := tups_ins hx m
  have fz : ∀ {a : Addr} {o : Obj} {u : HO}, H a = some (.frz o u) → H' a = some (.frz o u) := fun {a o u} e => m _ _ (fun z => by rw [z, hx] at e; cases e) e
  obtain ⟨es, ⟨⟨o, e1⟩, e2⟩, e3, e4⟩ := h
  refine ⟨es, ⟨⟨o, fz e1⟩, fun p hp => ?_⟩, e3, fun e he => ?_⟩
  · obtain ⟨d, t1, t2⟩ := e2 p hp
    exact ⟨d, t1.tups tups, t2⟩
  · obtain ⟨⟨t1, t2⟩, o, e5⟩ := e4 e he
    exact ⟨⟨t1.tups tups, t2.tups tups⟩, o, fz e5⟩
/-- what the dict of turns gives at a place -/
theorem TurnsAt.get {K : PySem.W.Frag} {w : World} {H : Hp} {t : Addr} {cs : List Co} (h : TurnsAt w H t cs) : ∃ kvs, DNf w H t kvs ∧ ∀ (H' : Hp), NL H H' → DNf w H' t kvs ∧ ∀ (q : PL), (∃ l us, atN kvs (nkD (dQ q)) = some (.ref l) ∧ SqL K H' l us ∧ TpAll H' us ((turnsOf cs q).map dT2)) ∨ (atN kvs (nkD (dQ q)) = none ∧ q ∉ placesOf cs) := by
  obtain ⟨es, e1, e2, e3⟩ := h
  refine ⟨kvE es, e1, fun H' m => ⟨e1.nl m, fun q => ?_⟩⟩
  rw [atE]
  cases hf : es.find? fun e => decide (e.q = q) with
  | some e =>
    have he := List.mem_of_find?_eq_some hf
    have eq : e.q = q := by have := List.find?_some hf; simpa using this
    obtain ⟨k, o, f⟩ := e3 e he
    refine .inl ⟨e.l, e.us, rfl, .inl (.inr ⟨o, m _ _ f fun _ z => nomatch z⟩), ?_⟩
    rw [← eq]
    exact (k.nl m).2
  | none =>
    refine .inr ⟨rfl, fun hm => ?_⟩
    rw [← e2] at hm
    obtain ⟨e, he, eq⟩ := List.mem_map.mp hm
    exact List.find?_eq_none.mp hf e he (decide_eq_true eq)
theorem tp_last {H : Hp} {ws : List V} {ds : List PyData} {d : PyData} (h : TpAll H ws (ds ++ [d])) : ∃ us v, ws = us ++ [v] ∧ Tp H v d := by
  have l := h.len
  rw [List.length_append] at l
  rcases List.eq_nil_or_concat ws with rfl | ⟨us, v, e⟩
  · cases l
  · rw [List.concat_eq_append] at e
    subst e
    have lu : us.length = ds.length := by rw [List.length_append] at l; exact Nat.succ.inj l
    obtain ⟨d', e1, t⟩ := h.get (i := us.length) (v := v) (by simp)
    rw [lu, List.getElem?_append_right (Nat.le_refl _), Nat.sub_self] at e1
    cases e1
    exact ⟨us, v, rfl, t⟩
theorem q_inv {H : Hp} {v : V} {q : PL} (h : Tp H v (dQ q)) : ∃ (a : Addr) (pv : V), v = .ref a ∧ H a = some (.tup [pv, .int q.2.1, .int q.2.2]) ∧ Tp H pv (dP q.1) := by
  cases h with
  | tup e r =>
    cases r with
    | cons a1 r =>
      cases r with
      | cons a2 r =>
        cases r with
        | cons a3 r =>
          cases r
          cases a2
          cases a3
          exact ⟨_, _, rfl, e, a1⟩
def turnZ (cs : List Co) (q : PL) : Option Str → Option (PL × Str)
  | some z => if stepsO (turnsOf cs q) (some z) = [] then none else some (q, chain cs q z)
  | none => none
theorem turnL_eq {cs : List Co} {lf : Lf} {q : PL} {zo : Option Str} (h : zo = if q.1.1 = lf.L then saysL lf (p3 q) else none) : turnL cs lf q = turnZ cs q zo := by
  unfold turnL
  by_cases e : q.1.1 = lf.L
  · rw [if_pos e] at h ⊢
    rw [h]
    cases saysL lf (p3 q) <;> rfl
  · rw [if_neg e] at h ⊢
    rw [h]
    rfl
theorem fm_snoc {α β : Type} {f : α → Option β} {l : List α} {i : Nat} {q : α} (e : l[i]? = some q) : (l.take (i + 1)).filterMap f = (l.take i).filterMap f ++ (f q).toList := fm_step e
theorem Car.of {cs : List Co} {lf lf' : Lf} (hc : ∀ c ∈ cs, okC c) (e1 : lf'.L = lf.L) (e2 : lf'.fr = lf.fr) (e3 : lf'.bk = lf.bk) (ok : okLw lf') (hl : lf'.pen.length ≤ lf.pen.length + ((lturns cs lf).map skT).length) (at_ : ∀ p, penAt lf'.pen p = match penAt ((lturns cs lf).map skT) p with | some z => some z | none => penAt lf.pen p) : Car cs lf lf' := by
  refine ⟨e1, e2, e3, ok, ?_, fun p => ?_⟩
  · rw [List.length_map] at hl
    have := lturns_len cs lf
    omega
  · have hB : plB lf' p = plB lf p := by unfold plB sideR; rw [e2, e3]
    have hP : prn lf' p = prn lf p := by unfold prn sideR; rw [e2, e3]
    cases hs : saysL lf p with
    | none =>
      unfold saysL at hs ⊢
      rw [hB]
      split at hs
      · cases hs
      · next h => rw [if_neg h]; rfl
    | some z =>
      have c := lturns_at (cs := cs) hs
      have hb := says_pl hs
      show _ = some (chain cs ((lf.L, p.1), p.2) z)
      rw [← c]
      unfold saysL at hs ⊢
      rw [if_pos hb] at hs
      rw [hB, if_pos hb, hP, at_]
      cases h9 : penAt ((lturns cs lf).map skT) p with
      | some y => rfl
      | none => exact hs
theorem Car.none {cs : List Co} {lf : Lf} (ok : okLw lf) (h : lturns cs lf = []) : Car cs lf lf := by
  refine ⟨rfl, rfl, rfl, ok, by omega, fun p => ?_⟩
  cases hs : saysL lf p with
  | none => rfl
  | some z =>
    have c := lturns_at (cs := cs) hs
    rw [h] at c
    show some z = some (chain cs ((lf.L, p.1), p.2) z)
    rw [← c]
    rfl
theorem lt_inv {H : Hp} {v : V} {t : PL × Str} (h : Tp H v (dLT t)) : ∃ (a k pa la : Addr), v = .ref a ∧ H a = some (.tup [.ref k, .str t.2]) ∧ H k = some (.tup [.ref pa, .int t.1.2.1, .int t.1.2.2]) ∧ H pa = some (.tup [.ref la, .int t.1.1.2]) := by
  cases h with
  | tup e r =>
    cases r with
    | cons a1 r =>
      cases r with
      | cons a2 r =>
        cases r
        cases a2
        obtain ⟨k, pv, rfl, hk, hp⟩ := q_inv a1
        obtain ⟨pa, la, rfl, h1, _⟩ := pg_inv hp
        exact ⟨_, k, pa, la, rfl, e, hk, h1⟩
theorem pn_Q (q : PL) : Pn 3 (dQ q) := fun d hd => by
  rcases List.mem_cons.mp hd with rfl | hd
  · exact pn_P q.1
  · rcases List.mem_cons.mp hd with rfl | hd
    · exact True.intro
    · rw [List.mem_singleton.mp hd]
      exact True.intro
theorem shaped_Q (q : PL) : SeqAt.shaped (dQ q) = true := shaped_pn (pn_Q q) (by decide)
theorem eqv_Q (a b : PL) : PyData.eqv (dQ a) (dQ b) = decide (a = b) := by
  show (PyData.eqv (dP a.1) (dP b.1) && ((a.2.1 == b.2.1) && ((a.2.2 == b.2.2) && true))) = _
  rw [eqv_P, Bool.eq_iff_iff]
  obtain ⟨a1, a2, a3⟩ := a
  obtain ⟨b1, b2, b3⟩ := b
  simp
/-! ### all that can be said at a place -/
/-- few lists, each short -/
def SmallCs (css : List (List Co)) : Prop := css.length ≤ 7 ∧ ∀ cs ∈ css, (∀ c ∈ cs, okC c) ∧ cs.length ≤ 6
def addS (f : List Str) (y : Str) : List Str := if y ∈ f then f else f ++ [y]
def expand (css : List (List Co)) (q : PL) (f : List Str) (x : Str) : List Str := css.foldl (fun f cs => addS f (chain cs q x)) f
def reachN (css : List (List Co)) (q : PL) (z : Str) : Nat → List Str
  | 0 => [z]
  | n + 1 => match (reachN css q z n)[n]? with
    | some x => expand css q (reachN css q z n) x
    | none => reachN css q z n
def reachL (css : List (List Co)) (q : PL) (z : Str) : List Str := reachN css q z 400
/-- a way through the lists -/
def goW (css : List (List Co)) (q : PL) (z : Str) (ks : List Nat) : Str := ks.foldl (fun t k => chain (css.getD k []) q t) z
theorem addS_sub {f : List Str} {y x : Str} (h : x ∈ f) : x ∈ addS f y := by
  unfold addS
  split
  · exact h
  · exact List.mem_append_left _ h
theorem addS_self (f : List Str) (y : Str) : y ∈ addS f y := by
  unfold addS
  split
  · assumption
  · exact List.mem_append_right _ (List.mem_singleton.mpr rfl)
theorem addS_nodup {f : List Str} {y : Str} (h : f.Nodup) : (addS f y).Nodup := by
  unfold addS
  split
  · exact h
  · next hn => exact List.nodup_append.mpr ⟨h, by simp, fun a ha b hb e => hn (by rw [← List.mem_singleton.mp hb, ← e]; exact ha)⟩
theorem addS_pre (f : List Str) (y : Str) : f <+: addS f y := by
  unfold addS
  split
  · exact List.prefix_rfl
  · exact List.prefix_append ..
theorem expand_pre : ∀ (css : List (List Co)) (q : PL) (f : List Str) (x : Str), f <+: expand css q f x
  | [], _, f, _ => List.prefix_rfl
  | cs :: r, q, f, x => (addS_pre f _).trans (expand_pre r q (addS f (chain cs q x)) x)
theorem expand_nodup : ∀ (css : List (List Co)) (q : PL) (f : List Str) (x : Str), f.Nodup → (expand css q f x).Nodup
  | [], _, _, _, h => h
  | cs :: r, q, f, x, h => expand_nodup r q (addS f (chain cs q x)) x (addS_nodup h)
theorem expand_has : ∀ (css : List (List Co)) (q : PL) (f : List Str) (x : Str), ∀ cs ∈ css, chain cs q x ∈ expand css q f x
  | [], _, _, _, _, h => by cases h
  | c :: r, q, f, x, cs, h => by
    rcases List.mem_cons.mp h with rfl | h
    · exact (expand_pre r q (addS f (chain cs q x)) x).subset (addS_self f _)
    · exact expand_has r q (addS f (chain c q x)) x cs h
theorem expand_snoc (css : List (List Co)) (cs : List Co) (q : PL) (f : List Str) (x : Str) : expand (css ++ [cs]) q f x = addS (expand css q f x) (chain cs q x) := by
  unfold expand
  rw [List.foldl_append]
  rfl
theorem expand_of : ∀ (css : List (List Co)) (q : PL) (f : List Str) (x y : Str), y ∈ expand css q f x → y ∈ f ∨ ∃ cs ∈ css, y = chain cs q x
  | [], _, _, _, _, h => .inl h
  | c :: r, q, f, x, y, h => by
    rcases expand_of r q (addS f (chain c q x)) x y h with h | ⟨cs, hc, h⟩
    · unfold addS at h
      split at h
      · exact .inl h
      · rcases List.mem_append.mp h with h | h
        · exact .inl h
        · exact .inr ⟨c, List.mem_cons_self .., List.mem_singleton.mp h⟩
    · exact .inr ⟨cs, List.mem_cons_of_mem _ hc, h⟩
theorem reach_pre (css : List (List Co)) (q : PL) (z : Str) (n : Nat) : reachN css q z n <+: reachN css q z (n + 1) := by
  show _ <+: (match (reachN css q z n)[n]? with | some x => expand css q (reachN css q z n) x | none => reachN css q z n)
  split
  · exact expand_pre ..
  · exact List.prefix_rfl
theorem reach_nodup (css : List (List Co)) (q : PL) (z : Str) : ∀ n, (reachN css q z n).Nodup
  | 0 => by simp [reachN]
  | n + 1 => by
    show (match (reachN css q z n)[n]? with | some x => expand css q (reachN css q z n) x | none => reachN css q z n).Nodup
    split
    · exact expand_nodup _ _ _ _ (reach_nodup css q z n)
    · exact reach_nodup css q z n
/-- all that may be told -/
def univ (css : List (List Co)) (z : Str) : List Str := z :: css.flatMap fun cs => cs.map Co.n
theorem reach_univ (css : List (List Co)) (q : PL) (z : Str) : ∀ n, ∀ y ∈ reachN css q z n, y ∈ univ css z
  | 0, y, h => by
    rw [List.mem_singleton.mp h]
    exact List.mem_cons_self ..
  | n + 1, y, h => by
    have h' : y ∈ (match (reachN css q z n)[n]? with | some x => expand css q (reachN css q z n) x | none => reachN css q z n) := h
    split at h'
    · next x hx =>
      rcases expand_of _ _ _ _ _ h' with h' | ⟨cs, hc, rfl⟩
      · exact reach_univ css q z n y h'
      · rcases chain_of cs q x with e | ⟨c, hc2, e⟩
        · rw [e]
          exact reach_univ css q z n x (List.mem_of_getElem? hx)
        · rw [e]
          exact List.mem_cons_of_mem _ (List.mem_flatMap.mpr ⟨cs, hc, List.mem_map_of_mem hc2⟩)
    · exact reach_univ css q z n y h'
theorem nodup_subS {α : Type} [DecidableEq α] : ∀ {l m : List α}, l.Nodup → (∀ x ∈ l, x ∈ m) → l.length ≤ m.length
  | [], _, _, _ => Nat.zero_le _
  | a :: l, m, h, s => by
    obtain ⟨h1, h2⟩ := List.nodup_cons.mp h
    have ha := s a (List.mem_cons_self ..)
    have z := nodup_subS (m := m.erase a) h2 fun x hx => by
      have ne : x ≠ a := fun e => h1 (e ▸ hx)
      exact (List.mem_erase_of_ne ne).mpr (s x (List.mem_cons_of_mem _ hx))
    rw [List.length_erase_of_mem ha] at z
    have := List.length_pos_of_mem ha
    rw [List.length_cons]
    omega
theorem univ_len {css : List (List Co)} {z : Str} (h : SmallCs css) : (univ css z).length ≤ 43 := by
  obtain ⟨h1, h2⟩ := h
  have go : ∀ l : List (List Co), (∀ cs ∈ l, cs.length ≤ 6) → (l.flatMap fun cs => cs.map Co.n).length ≤ 6 * l.length := by
    intro l
    induction l with
    | nil => intro _; exact Nat.le_refl _
    | cons c r ih =>
      intro k
      rw [List.flatMap_cons, List.length_append, List.length_map, List.length_cons]
      have := k c (List.mem_cons_self ..)
      have := ih fun cs hc => k cs (List.mem_cons_of_mem _ hc)
      omega
  have := go css fun cs hc => (h2 cs hc).2
  unfold univ
  rw [List.length_cons]
  omega
theorem reach_len {css : List (List Co)} {q : PL} {z : Str} (h : SmallCs css) (n : Nat) : (reachN css q z n).length ≤ 43 := Nat.le_trans (nodup_subS (reach_nodup css q z n) (reach_univ css q z n)) (univ_len h)
theorem reach_stay {css : List (List Co)} {q : PL} {z : Str} {n : Nat} (h : (reachN css q z n).length ≤ n) : ∀ k, reachN css q z (n + k) = reachN css q z n
  | 0 => rfl
  | k + 1 => by
    have e := reach_stay h k
    show (match (reachN css q z (n + k))[n + k]? with | some x => expand css q (reachN css q z (n + k)) x | none => reachN css q z (n + k)) = _
    rw [e, List.getElem?_eq_none (by omega)]
theorem reach_fin {css : List (List Co)} {q : PL} {z : Str} {n : Nat} (h : (reachN css q z n).length ≤ n) (hn : n ≤ 400) : reachN css q z n = reachL css q z := by
  have := reach_stay h (400 - n)
  unfold reachL
  rw [← this]
  congr 1
  omega
theorem reach_wd {css : List (List Co)} {q : PL} {z : Str} (h : SmallCs css) (hz : Wd z) (n : Nat) : ∀ y ∈ reachN css q z n, Wd y := fun y hy => by
  rcases List.mem_cons.mp (reach_univ css q z n y hy) with rfl | hy
  · exact hz
  · obtain ⟨cs, hc, hy⟩ := List.mem_flatMap.mp hy
    obtain ⟨c, hc2, rfl⟩ := List.mem_map.mp hy
    exact ((h.2 cs hc).1 c hc2).2.2.2.2.1
theorem reach_mono (css : List (List Co)) (q : PL) (z : Str) (n : Nat) : ∀ k, reachN css q z n <+: reachN css q z (n + k)
  | 0 => List.prefix_rfl
  | k + 1 => (reach_mono css q z n k).trans (reach_pre css q z (n + k))
/-- what is reached is closed -/
theorem reach_closed {css : List (List Co)} {q : PL} {z : Str} (h : SmallCs css) {x : Str} (hx : x ∈ reachL css q z) {cs : List Co} (hc : cs ∈ css) : chain cs q x ∈ reachL css q z := by
  obtain ⟨i, hi⟩ := List.getElem?_of_mem hx
  have li : i < 43 := by
    have := (List.getElem?_eq_some_iff.mp hi).1
    have := reach_len (q := q) (z := z) h 400
    unfold reachL at *
    omega
  have fin : reachN css q z 43 = reachL css q z := reach_fin (reach_len h 43) (by omega)
  rw [← fin] at hi ⊢
  by_cases hl : i < (reachN css q z i).length
  · have e1 : (reachN css q z i)[i]? = some x := by
      have p : reachN css q z i <+: reachN css q z 43 := by
        have := reach_mono css q z i (43 - i)
        rwa [show i + (43 - i) = 43 by omega] at this
      obtain ⟨t, ht⟩ := p
      rw [← ht, List.getElem?_append_left hl] at hi
      exact hi
    have e2 : reachN css q z (i + 1) = expand css q (reachN css q z i) x := by
      show (match (reachN css q z i)[i]? with | some x => expand css q (reachN css q z i) x | none => reachN css q z i) = _
      rw [e1]
    have p : reachN css q z (i + 1) <+: reachN css q z 43 := by
      have := reach_mono css q z (i + 1) (43 - (i + 1))
      rwa [show i + 1 + (43 - (i + 1)) = 43 by omega] at this
    refine p.subset ?_
    rw [e2]
    exact expand_has css q _ x cs hc
  · have e := reach_fin (n := i) (Nat.not_lt.mp hl) (by omega)
    rw [fin, ← e] at hi
    exact absurd (List.getElem?_eq_some_iff.mp hi).1 hl
theorem reach_start {css : List (List Co)} {q : PL} {z : Str} : z ∈ reachL css q z := (by
  have := reach_mono css q z 0 400
  rw [Nat.zero_add] at this
  exact this.subset (List.mem_singleton.mpr rfl))
theorem reach_go {css : List (List Co)} {q : PL} {z : Str} (h : SmallCs css) : ∀ (ks : List Nat), (∀ k ∈ ks, k < css.length) → ∀ x ∈ reachL css q z, goW css q x ks ∈ reachL css q z
  | [], _, x, hx => hx
  | k :: ks, hk, x, hx => by
    have h1 := hk k (List.mem_cons_self ..)
    have e : css.getD k [] ∈ css := by
      rw [List.getD_eq_getElem?_getD, List.getElem?_eq_getElem h1]
      exact List.getElem_mem h1
    exact reach_go h ks (fun j hj => hk j (List.mem_cons_of_mem _ hj)) _ (reach_closed h hx e)
theorem goW_snoc (css : List (List Co)) (q : PL) (z : Str) (ks : List Nat) (k : Nat) : goW css q z (ks ++ [k]) = chain (css.getD k []) q (goW css q z ks) := by
  unfold goW
  rw [List.foldl_append]
  rfl
theorem expand_app (a b : List (List Co)) (q : PL) (f : List Str) (x : Str) : expand (a ++ b) q f x = expand b q (expand a q f x) x := by
  unfold expand
  rw [List.foldl_append]
theorem expand_take (css : List (List Co)) (q : PL) (f : List Str) (x : Str) (j : Nat) : expand (css.take j) q f x <+: expand css q f x := by
  have := expand_pre (css.drop j) q (expand (css.take j) q f x) x
  rwa [← expand_app, List.take_append_drop] at this
theorem reach_step {css : List (List Co)} {q : PL} {z : Str} {n : Nat} {x : Str} (e : (reachN css q z n)[n]? = some x) : reachN css q z (n + 1) = expand css q (reachN css q z n) x := by
  show (match (reachN css q z n)[n]? with | some x => expand css q (reachN css q z n) x | none => reachN css q z n) = _
  rw [e]
/-! ### a book of one token -/
def loneR (q : PL) (z : Str) : List Str := List.replicate q.2.1.toNat ("x" : Str) ++ [Txt.join " " (List.replicate q.2.2.toNat ("x" : Str) ++ [z])]
def lone (q : PL) (z : Str) : Lf := ⟨q.1.1, if q.1.2 = 0 then loneR q z else [("x" : Str)], if q.1.2 = 0 then [] else loneR q z, []⟩

theorem dLf_inv4 {H : Hp} {v : V} {lf : Lf} (h : Tp H v (dLf lf)) : ∃ (t : Addr) (u1 u2 u3 : V) (c : Addr), v = .ref t ∧ H t = some (.tup [u1, u2, u3, .ref c]) ∧ Tp H u1 (dL lf.L) ∧ Tp H u2 (dS lf.fr) ∧ Tp H u3 (dS lf.bk) ∧ H c = some (.tup []) := by
  cases h with
  | tup h r =>
    cases r with
    | cons h1 r =>
      cases r with
      | cons h2 r =>
        cases r with
        | cons h3 r =>
          cases r with
          | cons h4 r =>
            cases r
            cases h4 with
            | tup h5 r5 =>
              cases r5
              exact ⟨_, _, _, _, _, rfl, h, h1, h2, h3, h5⟩
theorem x_tok : tokB ("x" : Str) = true := by decide +kernel
theorem x_row : rowB ("x" : Str) = true := by decide +kernel
def loneL (n : Nat) (z : Str) : List Str := List.replicate n ("x" : Str) ++ [z]
theorem loneL_tok {n : Nat} {z : Str} (hz : tokB z = true) : ∀ y ∈ loneL n z, tokB y = true := by
  intro y hy
  rcases List.mem_append.mp hy with h | h
  · rw [(List.mem_replicate.mp h).2]
    exact x_tok
  · rw [List.mem_singleton.mp h]
    exact hz
theorem tokB_free {z : Str} (h : tokB z = true) : 32 ∉ z.cps.toList := by
  unfold tokB at h
  simp only [Bool.and_eq_true, decide_eq_true_eq] at h
  exact h.2
theorem lone_split {n : Nat} {z : Str} (hz : tokB z = true) : Txt.split (Txt.join " " (loneL n z)) " " = loneL n z := TL.split_join (s := 32) (S := []) (by rfl) (by decide +kernel) (by unfold loneL; simp) fun y hy hx => tokB_free (loneL_tok hz y hy) hx
theorem lone_len (z : Str) : ∀ n : Nat, (Txt.join " " (loneL n z)).length = 2 * n + z.length
  | 0 => by
    show z.length = _
    omega
  | n + 1 => by
    have ih := lone_len z n
    have e : loneL (n + 1) z = ("x" : Str) :: loneL n z := rfl
    obtain ⟨y, r, e2⟩ : ∃ y r, loneL n z = y :: r := by
      cases h : loneL n z with
      | nil => unfold loneL at h; simp at h
      | cons y r => exact ⟨y, r, rfl⟩
    have l : ∀ a b : Str, (a ++ b).length = a.length + b.length := fun a b => by
      show (a.cps ++ b.cps).size = _
      rw [Array.size_append]; rfl
    rw [e2] at ih
    rw [e, e2, join_cc, l, l, ih]
    have e1 : (" " : Str).length = 1 := by decide +kernel
    have e3 : ("x" : Str).length = 1 := by decide +kernel
    rw [e1, e3]
    omega
theorem loneR_eq (q : PL) (z : Str) : loneR q z = List.replicate q.2.1.toNat ("x" : Str) ++ [Txt.join " " (loneL q.2.2.toNat z)] := rfl
theorem lone_row {n : Nat} {z : Str} (hz : Wd z) (hn : n ≤ 29) : rowB (Txt.join " " (loneL n z)) = true := by
  have hl := hz.len
  have h3 : (loneL n z).length = n + 1 := by unfold loneL; simp
  unfold rowB
  rw [lone_split hz.1, lone_len, h3]
  simp only [Bool.and_eq_true, decide_eq_true_eq, List.all_eq_true]
  exact ⟨⟨by omega, by omega⟩, loneL_tok hz.1⟩
theorem loneR_rows {q : PL} {z : Str} (hq : okQ q) (hz : Wd z) : rowsB 1 (loneR q z) = true := by
  have h3 : (loneR q z).length = q.2.1.toNat + 1 := by unfold loneR; simp
  obtain ⟨_, ⟨r0, r1⟩, ⟨w0, w1⟩⟩ := hq
  unfold rowsB
  rw [h3]
  simp only [Bool.and_eq_true, decide_eq_true_eq, List.all_eq_true]
  refine ⟨⟨by omega, by omega⟩, fun y hy => ?_⟩
  rw [loneR_eq] at hy
  rcases List.mem_append.mp hy with h | h
  · rw [(List.mem_replicate.mp h).2]
    exact x_row
  · rw [List.mem_singleton.mp h]
    exact lone_row hz (by omega)
theorem lone_ok {q : PL} {z : Str} (hq : okQ q) (hz : Wd z) : okLw (lone q z) := by
  have h1 := loneR_rows hq hz
  have ep : (lone q z).pen = [] := rfl
  have hp : okPen (lone q z) (lone q z).pen := by
    rw [ep]
    intro s hs
    cases hs
  refine ⟨hq.1.1, ?_, ?_, hp, by rw [ep]; exact List.Pairwise.nil⟩
  · show rowsB 1 (if q.1.2 = 0 then loneR q z else [("x" : Str)]) = true
    split
    · exact h1
    · decide +kernel
  · show rowsB 0 (if q.1.2 = 0 then [] else loneR q z) = true
    split
    · decide +kernel
    · unfold rowsB at h1 ⊢
      simp only [Bool.and_eq_true, decide_eq_true_eq] at h1 ⊢
      exact ⟨⟨Nat.zero_le _, h1.1.2⟩, h1.2⟩
theorem lone_side {q : PL} {z : Str} (hq : okQ q) : sideR (lone q z) q.1.2 = loneR q z := by
  rcases hq.1.2 with e | e
  · unfold sideR lone
    simp only [e]
    rfl
  · unfold sideR lone
    simp only [e]
    rfl
theorem loneR_at {q : PL} {z : Str} : (loneR q z).getD q.2.1.toNat ⟨#[]⟩ = Txt.join " " (loneL q.2.2.toNat z) := by
  rw [loneR_eq, List.getD_eq_getElem?_getD, List.getElem?_append_right (by simp)]
  simp
theorem loneL_at {n : Nat} {z : Str} : (loneL n z).getD n ⟨#[]⟩ = z := by
  unfold loneL
  rw [List.getD_eq_getElem?_getD, List.getElem?_append_right (by simp)]
  simp
theorem lone_says {q : PL} {z : Str} (hq : okQ q) (hz : Wd z) : saysL (lone q z) (p3 q) = some z := by
  have h3 : (loneR q z).length = q.2.1.toNat + 1 := by unfold loneR; simp
  have h4 : (loneL q.2.2.toNat z).length = q.2.2.toNat + 1 := by unfold loneL; simp
  have hp : plB (lone q z) (p3 q) = true := by
    unfold plB p3 toksR
    dsimp only
    rw [lone_side hq, loneR_at, lone_split hz.1, h3, h4]
    obtain ⟨⟨_, s⟩, ⟨r0, r1⟩, ⟨w0, w1⟩⟩ := hq
    simp only [Bool.and_eq_true, Bool.or_eq_true, decide_eq_true_eq]
    exact ⟨s, ⟨r0, by omega⟩, ⟨w0, by omega⟩⟩
  unfold saysL
  rw [if_pos hp]
  have e1 : penAt (lone q z).pen (p3 q) = none := rfl
  have e2 : prn (lone q z) (p3 q) = z := by
    unfold prn p3 toksR
    dsimp only
    rw [lone_side hq, loneR_at, lone_split hz.1, loneL_at]
  rw [e1, e2]
  rfl
theorem inVs (z : Str) : ∀ zs : List Str, inV (.str z) (zs.map V.str) = decide (z ∈ zs)
  | [] => rfl
  | y :: r => by
    show ((y == z) || inV (.str z) (r.map V.str)) = _
    rw [inVs z r, Bool.eq_iff_iff, Bool.or_eq_true, beq_iff_eq, decide_eq_true_iff, decide_eq_true_iff, List.mem_cons]
    exact ⟨fun h => h.imp Eq.symm id, fun h => h.imp Eq.symm id⟩
theorem flatS (zs : List Str) : (zs.map V.str).all flatV = true := by
  rw [List.all_eq_true]
  intro x hx
  obtain ⟨z, _, rfl⟩ := List.mem_map.mp hx
  rfl
theorem rep1 (x : V) : ∀ n : Nat, (List.replicate n [x]).flatten = List.replicate n x
  | 0 => rfl
  | n + 1 => by
    show [x] ++ (List.replicate n [x]).flatten = x :: List.replicate n x
    rw [rep1 x n]
    rfl
theorem loneL_map (n : Nat) (z : Str) : (List.replicate n [V.str "x"]).flatten ++ [V.str z] = (loneL n z).map V.str := by
  rw [rep1]
  unfold loneL
  simp
/-! ### sorted texts are told in one way -/
theorem le_of {a b : Str} (h : PySem.Spec.ltCps b.cps.toList a.cps.toList = false) : a.cps.toList ≤ b.cps.toList := by
  rw [PyProof.Rows.ltCps_eq] at h
  exact of_decide_eq_false h
theorem rising_pw : ∀ (p : Str) (l : List Str), PyProof.Rows.risingS p l = true → (p :: l).Pairwise (fun a b => a.cps.toList ≤ b.cps.toList)
  | p, [], _ => List.pairwise_singleton ..
  | p, x :: r, h => by
    have h' : (!PySem.Spec.ltCps x.cps.toList p.cps.toList && PyProof.Rows.risingS x r) = true := h
    rw [Bool.and_eq_true, Bool.not_eq_true'] at h'
    have ih := rising_pw x r h'.2
    have px := le_of h'.1
    refine List.pairwise_cons.mpr ⟨fun y hy => ?_, ih⟩
    rcases List.mem_cons.mp hy with rfl | hy
    · exact px
    · exact List.le_trans px (List.rel_of_pairwise_cons ih hy)
theorem sorted_pw : ∀ (l : List Str), sortedS l = true → l.Pairwise (fun a b => a.cps.toList ≤ b.cps.toList)
  | [], _ => List.Pairwise.nil
  | x :: r, h => rising_pw x r h
theorem str_of_toList {a b : Str} (h : a.cps.toList = b.cps.toList) : a = b := by
  cases a
  cases b
  congr 1
  exact Array.toList_inj.mp h
theorem sorted_uniq {l m : List Str} (h1 : sortedS l = true) (h2 : sortedS m = true) (p : l.Perm m) : l = m :=
  List.Perm.eq_of_pairwise (le := fun a b : Str => a.cps.toList ≤ b.cps.toList) (fun a b _ _ x y => str_of_toList (List.le_antisymm x y)) (sorted_pw l h1) (sorted_pw m h2) p
theorem reach_sub {css css' : List (List Co)} {q : PL} {z : Str} (h : ∀ cs ∈ css', cs ∈ css) (sm : SmallCs css) : ∀ (n : Nat), ∀ y ∈ reachN css' q z n, y ∈ reachL css q z
  | 0, y, hy => by
    rw [List.mem_singleton.mp hy]
    exact reach_start
  | n + 1, y, hy => by
    have hy' : y ∈ (match (reachN css' q z n)[n]? with | some x => expand css' q (reachN css' q z n) x | none => reachN css' q z n) := hy
    split at hy'
    · next x ex =>
      rcases expand_of _ _ _ _ _ hy' with h1 | ⟨cs, hc, rfl⟩
      · exact reach_sub h sm n y h1
      · exact reach_closed sm (reach_sub h sm n x (List.mem_of_getElem? ex)) (h cs hc)
    · exact reach_sub h sm n y hy'
theorem small_rev {css : List (List Co)} (sm : SmallCs css) : SmallCs css.reverse := ⟨by rw [List.length_reverse]; exact sm.1, fun cs h => sm.2 cs (List.mem_reverse.mp h)⟩
theorem small_take {css : List (List Co)} (sm : SmallCs css) (n : Nat) : SmallCs (css.take n) := ⟨by rw [List.length_take]; have := sm.1; omega, fun cs h => sm.2 cs (List.mem_of_mem_take h)⟩
theorem reach_rev {css : List (List Co)} {q : PL} {z : Str} (sm : SmallCs css) : (reachL css.reverse q z).Perm (reachL css q z) :=
  (List.perm_ext_iff_of_nodup (reach_nodup _ _ _ 400) (reach_nodup _ _ _ 400)).mpr fun y => ⟨fun h => reach_sub (fun cs hc => List.mem_reverse.mp hc) sm 400 y h, fun h => reach_sub (fun cs hc => List.mem_reverse.mpr hc) (small_rev sm) 400 y h⟩
theorem reach_nil {q : PL} {z : Str} : reachL [] q z = [z] := (reach_fin (css := []) (q := q) (z := z) (n := 1) (Nat.le_refl 1) (by omega)).symm
/-! ### dicts from places to texts -/
structure ME where
  q : PL
  b : Addr
  z : Str
abbrev MF := PL → Option Str
def kvM (ms : List ME) : List NE := ms.map fun e => (nkD (dQ e.q), e.b, V.str e.z)
def atM (ms : List ME) (q : PL) : Option Str := (ms.find? fun e => decide (e.q = q)).map ME.z
def putM (ms : List ME) (q : PL) (b : Addr) (z : Str) : List ME := if (atM ms q).isSome = true then ms.map (fun e => if e.q = q then ⟨e.q, e.b, z⟩ else e) else ms ++ [⟨q, b, z⟩]
theorem nkQ_dec (q r : PL) : decide (nkD (dQ q) = nkD (dQ r)) = decide (q = r) := by
  by_cases e : q = r
  · rw [e, decide_eq_true rfl, decide_eq_true rfl]
  · rw [decide_eq_false e, decide_eq_false fun z => e (nkQ_inj z)]
theorem atN_kvM : ∀ (ms : List ME) (q : PL), atN (kvM ms) (nkD (dQ q)) = (atM ms q).map V.str
  | [], _ => rfl
  | e :: r, q => by
    have ih := atN_kvM r q
    unfold atN atM kvM at ih ⊢
    rw [List.map_cons, List.find?_cons, List.find?_cons]
    have k : decide ((nkD (dQ e.q), e.b, V.str e.z).1 = nkD (dQ q)) = decide (e.q = q) := nkQ_dec e.q q
    rw [k]
    cases decide (e.q = q) with
    | true => rfl
    | false => exact ih
theorem putN_kvM (ms : List ME) (q : PL) (b : Addr) (z : Str) : putN (kvM ms) (nkD (dQ q)) b (V.str z) = kvM (putM ms q b z) := by
  unfold putN putM
  rw [atN_kvM, Option.isSome_map]
  by_cases h : (atM ms q).isSome = true
  · rw [if_pos h, if_pos h]
    unfold kvM
    rw [List.map_map, List.map_map]
    refine List.map_congr_left fun e _ => ?_
    show (if nkD (dQ e.q) = nkD (dQ q) then _ else _) = _
    by_cases e1 : e.q = q
    · rw [if_pos (by rw [e1])]
      show _ = (_, (if e.q = q then _ else _ : ME).b, V.str (if e.q = q then _ else _ : ME).z)
      rw [if_pos e1]
      simp [e1]
    · rw [if_neg fun y => e1 (nkQ_inj y)]
      show _ = (_, (if e.q = q then _ else _ : ME).b, V.str (if e.q = q then _ else _ : ME).z)
      rw [if_neg e1]
      simp [e1]
  · rw [if_neg h, if_neg h]
    unfold kvM
    rw [List.map_append]
    rfl
theorem atM_some {ms : List ME} {q : PL} : (atM ms q).isSome = true ↔ q ∈ ms.map ME.q := by
  unfold atM
  rw [Option.isSome_map, List.find?_isSome, List.mem_map]
  exact ⟨fun ⟨e, h, d⟩ => ⟨e, h, of_decide_eq_true d⟩, fun ⟨e, h, d⟩ => ⟨e, h, decide_eq_true d⟩⟩
theorem putM_keys (ms : List ME) (q : PL) (b : Addr) (z : Str) : (putM ms q b z).map ME.q = if q ∈ ms.map ME.q then ms.map ME.q else ms.map ME.q ++ [q] := by
  unfold putM
  by_cases h : (atM ms q).isSome = true
  · rw [if_pos h, if_pos (atM_some.mp h), List.map_map]
    refine List.map_congr_left fun e _ => ?_
    show (if e.q = q then _ else _ : ME).q = _
    split <;> rfl
  · rw [if_neg h, if_neg (fun y => h (atM_some.mpr y)), List.map_append]
    rfl
theorem putM_nodup {ms : List ME} {q : PL} {b : Addr} {z : Str} (h : (ms.map ME.q).Nodup) : ((putM ms q b z).map ME.q).Nodup := by
  rw [putM_keys]
  split
  · exact h
  · next n =>
    refine List.nodup_append.mpr ⟨h, by simp, fun a ha c hc e => n ?_⟩
    rw [← List.mem_singleton.mp hc, ← e]
    exact ha
theorem putM_at (ms : List ME) (q : PL) (b : Addr) (z : Str) (r : PL) : atM (putM ms q b z) r = if r = q then some z else atM ms r := by
  have e := atN_put (kvM ms) (nkD (dQ q)) (nkD (dQ r)) b (V.str z)
  rw [putN_kvM, atN_kvM, atN_kvM] at e
  have inj : ∀ {o p : Option Str}, o.map V.str = p.map V.str → o = p := by
    intro o p h
    cases o <;> cases p <;> simp at h <;> first | rfl | (rw [h])
  by_cases h : r = q
  · rw [if_pos (by rw [h])] at e
    rw [if_pos h]
    exact inj e
  · rw [if_neg (fun y => h (nkQ_inj y))] at e
    rw [if_neg h]
    exact inj e
theorem putM_len (ms : List ME) (q : PL) (b : Addr) (z : Str) : (putM ms q b z).length ≤ ms.length + 1 := by
  unfold putM
  split
  · rw [List.length_map]
    exact Nat.le_succ _
  · rw [List.length_append]
    exact Nat.le_refl _
theorem putM_mem {ms : List ME} {q : PL} {b : Addr} {z : Str} {e : ME} (h : e ∈ putM ms q b z) : (∃ e' ∈ ms, e'.q = e.q ∧ e'.b = e.b) ∨ (e.q = q ∧ e.b = b) := by
  unfold putM at h
  split at h
  · obtain ⟨e', he, rfl⟩ := List.mem_map.mp h
    refine .inl ⟨e', he, ?_⟩
    split <;> exact ⟨rfl, rfl⟩
  · rcases List.mem_append.mp h with h | h
    · exact .inl ⟨e, h, rfl, rfl⟩
    · rw [List.mem_singleton.mp h]
      exact .inr ⟨rfl, rfl⟩
/-- the dict at a tells f; it has at most n entries -/
def MpAt (w : World) (H : Hp) (a : Addr) (f : MF) (n : Nat) : Prop := ∃ ms : List ME, DN w H a (kvM ms) ∧ (∀ e ∈ ms, Tp H (.ref e.b) (dQ e.q)) ∧ (∀ q, atM ms q = f q) ∧ (ms.map ME.q).Nodup ∧ ms.length ≤ n
theorem MpAt.nl {w : World} {H H' : Hp} {a : Addr} {f : MF} {n : Nat} (m : NL H H') (h : MpAt w H a f n) : MpAt w H' a f n := by
  obtain ⟨ms, h1, h2, h3⟩ := h
  exact ⟨ms, h1.nl m, fun e he => (h2 e he).nl m, h3⟩
theorem MpAt.mono {w : World} {H : Hp} {a : Addr} {f : MF} {n m : Nat} (h : MpAt w H a f n) (l : n ≤ m) : MpAt w H a f m := by
  obtain ⟨ms, h1, h2, h3, h4, h5⟩ := h
  exact ⟨ms, h1, h2, h3, h4, Nat.le_trans h5 l⟩
theorem nkey_Q {H : Hp} {b : Addr} {q : PL} (h : Tp H (.ref b) (dQ q)) : NKey H b (nkD (dQ q)) := ⟨_, h, rfl, dQ_depth q⟩
theorem MpAt.put {w : World} {H : Hp} {a b : Addr} {f : MF} {n : Nat} {q : PL} {z : Str} {ms : List ME} (e : DN w H a (kvM ms)) (ht : ∀ e ∈ ms, Tp H (.ref e.b) (dQ e.q)) (hf : ∀ q, atM ms q = f q) (nd : (ms.map ME.q).Nodup) (l : ms.length ≤ n) (hb : Tp H (.ref b) (dQ q)) :
    MpAt w (upd H a (rawN w a (putN (kvM ms) (nkD (dQ q)) b (V.str z)))) a (fun r => if r = q then some z else f r) (n + 1) := by
  have tp : ∀ {c : Addr} {r : PL}, Tp H (.ref c) (dQ r) → Tp (upd H a (rawN w a (putN (kvM ms) (nkD (dQ q)) b (V.str z)))) (.ref c) (dQ r) := fun h => h.tups fun c ys ec => by
    rw [upd_ne (fun y => by rw [y, e.1] at ec; exact rawN_net (Option.some.inj ec))]
    exact ec
  refine ⟨putM ms q b z, ?_, fun x hx => ?_, fun r => ?_, putM_nodup nd, Nat.le_trans (putM_len ..) (Nat.succ_le_succ l)⟩
  · have := DN.put (v := V.str z) e (nkey_Q hb)
    rwa [putN_kvM] at this ⊢
  · rcases putM_mem hx with ⟨e', he, e1, e2⟩ | ⟨e1, e2⟩
    · rw [← e1, ← e2]
      exact tp (ht e' he)
    · rw [e1, e2]
      exact tp hb
  · rw [putM_at, hf]
theorem MpAt.zero {w : World} {H : Hp} {a : Addr} : MpAt w (upd H a (rawN w a [])) a (fun _ => none) 0 := ⟨[], ⟨upd_same, fun _ h => nomatch h⟩, (fun _ h => nomatch h), (fun _ => rfl), List.nodup_nil, Nat.le_refl 0⟩
/-! ### corrections carried out, stroke by stroke -/
def CarX (cs : List Co) (a b : Lf) : Prop := Car cs a b ∧ ∀ p, penAt b.pen p = match penAt ((lturns cs a).map skT) p with | some z => some z | none => penAt a.pen p
inductive CarAllX (cs : List Co) : List Lf → List Lf → Prop
  | nil : CarAllX cs [] []
  | cons {a b : Lf} {r s : List Lf} (h : CarX cs a b) (t : CarAllX cs r s) : CarAllX cs (a :: r) (b :: s)
theorem CarAllX.snoc {cs : List Co} : ∀ {r s : List Lf} {a b : Lf}, CarAllX cs r s → CarX cs a b → CarAllX cs (r ++ [a]) (s ++ [b])
  | _, _, _, _, .nil, h => .cons h .nil
  | _, _, _, _, .cons k t, h => .cons k (t.snoc h)
theorem CarX.none {cs : List Co} {lf : Lf} (ok : okLw lf) (h : lturns cs lf = []) : CarX cs lf lf := ⟨Car.none ok h, fun p => by rw [h]; rfl⟩
def prF (bk : List Lf) : MF := fun q => (bk.find? fun l => decide (l.L = q.1.1)).bind fun l => if plB l (p3 q) = true then some (prn l (p3 q)) else none
def peF (bk : List Lf) : MF := fun q => (bk.find? fun l => decide (l.L = q.1.1)).bind fun l => penAt l.pen (p3 q)
def sayF (f g : MF) (q : PL) : Option Str := match g q with
  | some z => some z
  | none => f q
def carF (f g : MF) (c : Co) : MF := if (f c.pl).isSome = true ∧ sayF f g c.pl = some c.o then fun q => if q = c.pl then some c.n else g q else g
theorem carF_no {f g : MF} {c : Co} {q : PL} (h : f q = none) : carF f g c q = g q := by
  unfold carF
  split
  · next k =>
    by_cases e : q = c.pl
    · rw [← e, h] at k
      cases k.1
    · exact if_neg e
  · rfl
theorem fold_no {f : MF} {q : PL} (h : f q = none) : ∀ (cs : List Co) (g : MF), cs.foldl (carF f) g q = g q
  | [], _ => rfl
  | c :: r, g => by
    rw [List.foldl_cons, fold_no h r]
    exact carF_no h
theorem turns_cons (c : Co) (cs : List Co) (q : PL) : turnsOf (c :: cs) q = if c.pl = q then (c.o, c.n) :: turnsOf cs q else turnsOf cs q := by
  unfold turnsOf
  rw [List.filter_cons]
  by_cases h : c.pl = q
  · rw [if_pos (decide_eq_true h), if_pos h, List.map_cons]
  · rw [if_neg (by rw [decide_eq_false h]; exact Bool.false_ne_true), if_neg h]
theorem fold_car {f : MF} {q : PL} {pr : Str} (h : f q = some pr) : ∀ (cs : List Co) (g : MF), cs.foldl (carF f) g q = if stepsO (turnsOf cs q) (some ((g q).getD pr)) = [] then g q else some (chain cs q ((g q).getD pr))
  | [], _ => rfl
  | c :: r, g => by
    rw [List.foldl_cons, fold_car h r, turns_cons]
    have hs : sayF f g q = some ((g q).getD pr) := by
      unfold sayF
      cases g q with
      | none => exact h
      | some z => rfl
    have ch : chain (c :: r) q ((g q).getD pr) = chain r q (if c.pl = q ∧ c.o = (g q).getD pr then c.n else (g q).getD pr) := rfl
    by_cases e : c.pl = q
    · rw [if_pos e]
      by_cases e2 : c.o = (g q).getD pr
      · have g1 : carF f g c q = some c.n := by
          unfold carF
          rw [e, if_pos ⟨by rw [h]; rfl, by rw [hs, e2]⟩]
          exact if_pos rfl
        rw [g1, ch, if_pos (show c.pl = q ∧ c.o = (g q).getD pr from ⟨e, e2⟩)]
        have st : stepsO ((c.o, c.n) :: turnsOf r q) (some ((g q).getD pr)) = (c.o, c.n) :: stepsO (turnsOf r q) (some c.n) := by
          show (if some ((g q).getD pr) = some c.o then _ else _) = _
          rw [if_pos (by rw [e2])]
        rw [st]
        have R : (if (c.o, c.n) :: stepsO (turnsOf r q) (some c.n) = [] then g q else some (chain r q c.n)) = some (chain r q c.n) := if_neg (fun z => by cases z)
        rw [R]
        show (if stepsO (turnsOf r q) (some c.n) = [] then some c.n else some (chain r q c.n)) = some (chain r q c.n)
        split
        · next k => rw [chain_turns, steps_same _ _ k]
        · rfl
      · have g1 : carF f g c q = g q := by
          unfold carF
          rw [e, if_neg (fun z => e2 (by have := z.2; rw [hs] at this; exact (Option.some.inj this).symm))]
        rw [g1, ch, if_neg (show ¬ (c.pl = q ∧ c.o = (g q).getD pr) from fun z => e2 z.2)]
        have st : stepsO ((c.o, c.n) :: turnsOf r q) (some ((g q).getD pr)) = stepsO (turnsOf r q) (some ((g q).getD pr)) := by
          show (if some ((g q).getD pr) = some c.o then _ else _) = _
          rw [if_neg (fun z => e2 (Option.some.inj z).symm)]
        rw [st]
    · have g1 : carF f g c q = g q := by
        unfold carF
        split
        · exact if_neg (fun z => e z.symm)
        · rfl
      rw [g1, ch, if_neg (show ¬ (c.pl = q ∧ c.o = (g q).getD pr) from fun z => e z.1), if_neg e]
theorem lx_irrefl (L : List Int) : HT.lexLt L L = false := by
  rw [← dlt_ints]
  exact TO.irrefl _
theorem lx_trans {L M N : List Int} (h1 : HT.lexLt L M = true) (h2 : HT.lexLt M N = true) : HT.lexLt L N = true := by
  rw [← dlt_ints] at *
  exact TO.trans _ _ _ h1 h2
/-- the strokes of the leaves are told by g -/
def PenRel (g : MF) (bk : List Lf) : Prop := ∀ l ∈ bk, ∀ p, penAt l.pen p = g ((l.L, p.1), p.2)
theorem find_one {bk : List Lf} (pw : bk.Pairwise fun a b => HT.lexLt a.L b.L = true) {l : Lf} (h : l ∈ bk) : bk.find? (fun x => decide (x.L = l.L)) = some l := by
  induction bk with
  | nil => cases h
  | cons a r ih =>
    obtain ⟨h1, h2⟩ := List.pairwise_cons.mp pw
    rw [List.find?_cons]
    rcases List.mem_cons.mp h with rfl | h
    · rw [decide_eq_true rfl]
    · have ne : a.L ≠ l.L := fun e => by
        have := h1 l h
        rw [e, lx_irrefl] at this
        cases this
      rw [decide_eq_false ne]
      exact ih h2 h
theorem prF_at {bk : List Lf} (pw : bk.Pairwise fun a b => HT.lexLt a.L b.L = true) {l : Lf} (h : l ∈ bk) (p : P3) : prF bk ((l.L, p.1), p.2) = if plB l p = true then some (prn l p) else none := by
  unfold prF
  have : (bk.find? fun x => decide (x.L = ((l.L, p.1), p.2).1.1)) = some l := find_one pw h
  rw [this]
  rfl
theorem peF_rel {bk : List Lf} (pw : bk.Pairwise fun a b => HT.lexLt a.L b.L = true) : PenRel (peF bk) bk := fun l h p => by
  unfold peF
  have : (bk.find? fun x => decide (x.L = ((l.L, p.1), p.2).1.1)) = some l := find_one pw h
  rw [this]
  rfl
theorem lturns_pen {cs : List Co} {lf : Lf} (p : P3) : penAt ((lturns cs lf).map skT) p = match saysL lf p with
    | some z => if stepsO (turnsOf cs ((lf.L, p.1), p.2)) (some z) = [] then none else some (chain cs ((lf.L, p.1), p.2) z)
    | none => none := by
  have nd := lturns_nodup cs lf
  have mem : ∀ z, penAt ((lturns cs lf).map skT) p = some z ↔ turnL cs lf ((lf.L, p.1), p.2) = some (((lf.L, p.1), p.2), z) := fun z => by
    constructor
    · intro h
      obtain ⟨t, ht, e⟩ := List.mem_map.mp (penAt_mem h)
      obtain ⟨q, hq, et⟩ := List.mem_filterMap.mp ht
      obtain ⟨e1, e2, _⟩ := turnL_some et
      have e3 : p3 t.1 = p := congrArg Prod.fst e
      have e4 : t.2 = z := congrArg Prod.snd e
      have eq : q = ((lf.L, p.1), p.2) := by
        rw [← e3, ← e2, e1]
        rfl
      rw [← eq, et, ← e4, ← e1]
    · intro h
      have hq : ((lf.L, p.1), p.2) ∈ placesOf cs := by
        by_cases k : ((lf.L, p.1), p.2) ∈ placesOf cs
        · exact k
        · obtain ⟨_, _, z0, _, _, ne⟩ := turnL_some h
          rw [turns_none k] at ne
          exact absurd rfl ne
      have ht : (((lf.L, p.1), p.2), z) ∈ lturns cs lf := List.mem_filterMap.mpr ⟨_, hq, h⟩
      exact penAt_of nd (List.mem_map_of_mem (f := skT) ht)
  have tl : turnL cs lf ((lf.L, p.1), p.2) = match saysL lf p with
      | some z => if stepsO (turnsOf cs ((lf.L, p.1), p.2)) (some z) = [] then none else some (((lf.L, p.1), p.2), chain cs ((lf.L, p.1), p.2) z)
      | none => none := if_pos rfl
  cases e : penAt ((lturns cs lf).map skT) p with
  | some z =>
    have h := (mem z).mp e
    rw [tl] at h
    cases es : saysL lf p with
    | none => rw [es] at h; cases h
    | some y =>
      rw [es] at h
      dsimp only at h ⊢
      split at h
      · cases h
      · next k =>
        rw [if_neg k]
        injection h with h
        exact congrArg some (congrArg Prod.snd h).symm
  | none =>
    cases es : saysL lf p with
    | none => rfl
    | some y =>
      dsimp only
      split
      · rfl
      · next k =>
        have h : turnL cs lf ((lf.L, p.1), p.2) = some (((lf.L, p.1), p.2), chain cs ((lf.L, p.1), p.2) y) := by
          rw [tl, es]
          exact if_neg k
        rw [(mem _).mpr h] at e
        cases e
theorem CarAllX.mem {cs : List Co} : ∀ {r s : List Lf}, CarAllX cs r s → ∀ b ∈ s, ∃ a ∈ r, CarX cs a b
  | _, _, .nil, _, h => by cases h
  | _, _, .cons h t, b, hb => by
    rcases List.mem_cons.mp hb with rfl | hb
    · exact ⟨_, List.mem_cons_self .., h⟩
    · obtain ⟨a, ha, k⟩ := t.mem b hb
      exact ⟨a, List.mem_cons_of_mem _ ha, k⟩
/-- prints alike: what f says of the leaves -/
def PrRel (f : MF) (bk : List Lf) : Prop := ∀ l ∈ bk, ∀ p, f ((l.L, p.1), p.2) = if plB l p = true then some (prn l p) else none
theorem carX_rel {f g : MF} {cs : List Co} {r s : List Lf} (hf : PrRel f r) (hg : PenRel g r) (h : CarAllX cs r s) : PenRel (cs.foldl (carF f) g) s ∧ PrRel f s := by
  have key : ∀ {a b : Lf}, a ∈ r → CarX cs a b → (∀ p, penAt b.pen p = cs.foldl (carF f) g ((b.L, p.1), p.2)) ∧ ∀ p, f ((b.L, p.1), p.2) = if plB b p = true then some (prn b p) else none := by
    intro a b ha ⟨⟨c1, c2, c3, _⟩, cx⟩
    have sd : ∀ s, sideR b s = sideR a s := fun s => by unfold sideR; rw [c2, c3]
    have pl : ∀ p, plB b p = plB a p := fun p => by unfold plB; rw [sd]
    have pr : ∀ p, prn b p = prn a p := fun p => by unfold prn; rw [sd]
    refine ⟨fun p => ?_, fun p => by rw [c1, pl, pr]; exact hf a ha p⟩
    rw [cx p, c1, lturns_pen p]
    have hfa := hf a ha p
    have hga := hg a ha p
    cases hp : plB a p with
    | false =>
      have sy : saysL a p = none := by unfold saysL; rw [hp]; rfl
      rw [hp, if_neg (by decide)] at hfa
      rw [sy, fold_no hfa]
      exact hga
    | true =>
      have sy : saysL a p = some ((penAt a.pen p).getD (prn a p)) := by unfold saysL; rw [hp]; rfl
      rw [hp, if_pos rfl] at hfa
      rw [sy, fold_car hfa, ← hga]
      dsimp only
      split
      · next z hz =>
        split at hz
        · cases hz
        · next k =>
          rw [if_neg k]
          exact hz.symm
      · next hz =>
        split at hz
        · next k => rw [if_pos k]
        · cases hz
  exact ⟨fun l hl => (let ⟨a, ha, hc⟩ := h.mem l hl; (key ha hc).1), fun l hl => (let ⟨a, ha, hc⟩ := h.mem l hl; (key ha hc).2)⟩
/-- strokes told alike are alike -/
theorem pen_uniq {ss ts : List Sk} (h1 : ss.Pairwise fun a b => ltP3 a.1 b.1 = true) (h2 : ts.Pairwise fun a b => ltP3 a.1 b.1 = true) (h : ∀ p, penAt ss p = penAt ts p) : ss = ts := by
  have n1 := pw_nodup h1
  have n2 := pw_nodup h2
  have sub : ∀ {a b : List Sk}, (a.map Prod.fst).Nodup → (∀ p, penAt a p = penAt b p) → ∀ x ∈ a, x ∈ b := fun n e x hx => by
    have := penAt_of n hx
    rw [e] at this
    exact penAt_mem this
  have p : ss.Perm ts := (List.perm_ext_iff_of_nodup (List.Pairwise.of_map Prod.fst (fun _ _ z y => z (by rw [y])) n1) (List.Pairwise.of_map Prod.fst (fun _ _ z y => z (by rw [y])) n2)).mpr fun x => ⟨sub n1 h x, sub n2 (fun p => (h p).symm) x⟩
  exact List.Perm.eq_of_pairwise (le := fun a b : Sk => ltP3 a.1 b.1 = true) (fun a b _ _ x y => by
    have z := lx_trans x y
    rw [lx_irrefl] at z
    cases z) h1 h2 p
theorem split_sgn {z : Str} {P : Nat → Prop} (h : ∀ c ∈ z.cps.toList, P c) : ∀ p ∈ Txt.split z " ", ∀ c ∈ p.cps.toList, P c := by
  intro p hp c hc
  refine h c ?_
  have e := PySem.StrLaws.join_split z " "
  rw [← e]
  have e2 : Str.join " " (Txt.split z " ") = Txt.join " " (Txt.split z " ") := by
    unfold Txt.join
    rw [StrLaws.glued_eq_join]
  rw [e2, TL.join_eq]
  exact (mem_join _ _ _).mpr (.inl ⟨p, hp, hc⟩)
/-! ### leaves with strokes, as data -/
def Asc (y : Str) : Prop := ∀ x ∈ y.cps.toList, x < 128
def dLp (l : Lf) : PyData := .tuple [dL l.L, dS l.fr, dS l.bk, dPen l.pen]
def GLf (l : Lf) : Prop := okLw l ∧ (∀ y ∈ l.fr, Asc y) ∧ (∀ y ∈ l.bk, Asc y) ∧ ∀ s ∈ l.pen, Wd s.2
/-- a good row of leaves, at most n strokes on each -/
def GBk (n : Nat) (bk : List Lf) : Prop := bk.length ≤ 3 ∧ (bk.Pairwise fun a b => HT.lexLt a.L b.L = true) ∧ ∀ l ∈ bk, GLf l ∧ l.pen.length ≤ n
theorem GBk.ok {n : Nat} {bk : List Lf} (h : GBk n bk) : okBw bk := ⟨Nat.le_trans h.1 (by decide), fun l hl => (h.2.2 l hl).1.1, h.2.1⟩
theorem GBk.mono {n m : Nat} {bk : List Lf} (h : GBk n bk) (l : n ≤ m) : GBk m bk := ⟨h.1, h.2.1, fun x hx => ⟨(h.2.2 x hx).1, Nat.le_trans (h.2.2 x hx).2 l⟩⟩
theorem dLp_inv {H : Hp} {v : V} {lf : Lf} (h : Tp H v (dLp lf)) : ∃ (t g f b c : Addr) (us : List V), v = .ref t ∧ H t = some (.tup [.ref g, .ref f, .ref b, .ref c]) ∧ H g = some (.tup (lf.L.map V.int)) ∧ H f = some (.tup (lf.fr.map V.str)) ∧ H b = some (.tup (lf.bk.map V.str)) ∧ H c = some (.tup us) ∧ TpAll H us (lf.pen.map dSk) := by
  cases h with
  | tup h1 r =>
    cases r with
    | cons a1 r =>
      cases r with
      | cons a2 r =>
        cases r with
        | cons a3 r =>
          cases r with
          | cons a4 r =>
            cases r
            obtain ⟨g, rfl, hg⟩ := tpL_inv a1
            obtain ⟨f, rfl, hf⟩ := tpS_inv a2
            obtain ⟨b, rfl, hb⟩ := tpS_inv a3
            cases a4 with
            | tup h4 r4 => exact ⟨_, _, _, _, _, _, rfl, h1, hg, hf, hb, h4, r4⟩
theorem tp_Lp {H : Hp} {t g f b c : Addr} {us : List V} {lf : Lf} (h1 : H t = some (.tup [.ref g, .ref f, .ref b, .ref c])) (h2 : H g = some (.tup (lf.L.map V.int))) (h3 : H f = some (.tup (lf.fr.map V.str))) (h4 : H b = some (.tup (lf.bk.map V.str))) (h5 : H c = some (.tup us)) (h6 : TpAll H us (lf.pen.map dSk)) : Tp H (.ref t) (dLp lf) :=
  .tup h1 (.cons (tpL h2) (.cons (tpS h3) (.cons (tpS h4) (.cons (.tup h5 h6) .nil))))
theorem pd_S {zs : List Str} (h : ∀ y ∈ zs, Asc y) (l : zs.length ≤ 12) (n : Nat) : Pd (n + 2) (dS zs) := ⟨by rw [List.length_map]; omega, fun d hd => by
  obtain ⟨y, hy, rfl⟩ := List.mem_map.mp hd
  exact ok_tok (h y hy)⟩
theorem pd_Sk {s : Sk} (h : Wd s.2) (n : Nat) : Pd (n + 2) (dSk s) := ⟨by show 4 ≤ 1000; decide, fun d hd => by
  rcases List.mem_cons.mp hd with rfl | hd
  · trivial
  rcases List.mem_cons.mp hd with rfl | hd
  · trivial
  rcases List.mem_cons.mp hd with rfl | hd
  · trivial
  rcases List.mem_cons.mp hd with rfl | hd
  · exact ok_tok h.2
  cases hd⟩
theorem pd_Lp {l : Lf} {m : Nat} (h : GLf l) (lp : l.pen.length ≤ m) (hm : m ≤ 1000) : Pd 4 (dLp l) := ⟨by show 4 ≤ 1000; decide, fun d hd => by
  obtain ⟨⟨o1, o2, o3, _⟩, a1, a2, a3⟩ := h
  rcases List.mem_cons.mp hd with rfl | hd
  · refine ⟨by rw [List.length_map]; have := o1.1; omega, fun e he => ?_⟩
    obtain ⟨i, _, rfl⟩ := List.mem_map.mp he
    trivial
  rcases List.mem_cons.mp hd with rfl | hd
  · exact pd_S a1 (rows_small o2).2.1 1
  rcases List.mem_cons.mp hd with rfl | hd
  · exact pd_S a2 (rows_small o3).2.1 1
  rcases List.mem_cons.mp hd with rfl | hd
  · refine ⟨by rw [List.length_map]; omega, fun e he => ?_⟩
    obtain ⟨s, hs, rfl⟩ := List.mem_map.mp he
    exact pd_Sk (a3 s hs) 0
  cases hd⟩
theorem pd_Lps {n : Nat} {bk : List Lf} (h : GBk n bk) (hn : n ≤ 1000) : ∀ d ∈ bk.map dLp, Pd 4 d := fun d hd => by
  obtain ⟨l, hl, rfl⟩ := List.mem_map.mp hd
  exact pd_Lp (h.2.2 l hl).1 (h.2.2 l hl).2 hn
theorem pd_book {n : Nat} {bk : List Lf} (h : GBk n bk) (hn : n ≤ 1000) : Pd 5 (.tuple (bk.map dLp)) := ⟨by rw [List.length_map]; have := h.1; omega, pd_Lps h hn⟩
theorem asc_split {z : Str} (h : Asc z) : ∀ p ∈ Txt.split z " ", Asc p := fun p hp => split_sgn (P := fun x => x < 128) h p hp
theorem side_asc {l : Lf} (h : GLf l) (s : Int) : ∀ y ∈ sideR l s, Asc y := by
  unfold sideR
  split
  · exact h.2.2.1
  · exact h.2.1
theorem prn_wd {l : Lf} (h : GLf l) {p : P3} (hp : plB l p = true) : Wd (prn l p) := by
  obtain ⟨_, ⟨a1, a2⟩, b1, b2⟩ := plB_in hp
  have i1 : p.2.1.toNat < (sideR l p.1).length := by omega
  have e1 := List.getElem?_eq_getElem i1
  have d1 : (sideR l p.1).getD p.2.1.toNat ⟨#[]⟩ = (sideR l p.1)[p.2.1.toNat] := by rw [List.getD_eq_getElem?_getD, e1]; rfl
  have m1 := List.mem_of_getElem? e1
  unfold prn
  rw [d1] at b2 ⊢
  have i2 : p.2.2.toNat < (toksR ((sideR l p.1)[p.2.1.toNat])).length := by omega
  have e2 := List.getElem?_eq_getElem i2
  rw [List.getD_eq_getElem?_getD, e2]
  have m2 := List.mem_of_getElem? e2
  have sm := (side_small h.1.2.1 h.1.2.2.1 p.1).2 _ m1
  exact ⟨sm.2.2 _ m2, asc_split (side_asc h p.1 _ m1) _ m2⟩
theorem prF_wd {n : Nat} {bk : List Lf} (h : GBk n bk) {q : PL} {z : Str} (e : prF bk q = some z) : Wd z := by
  unfold prF at e
  cases hf : bk.find? fun l => decide (l.L = q.1.1) with
  | none => rw [hf] at e; cases e
  | some l =>
    rw [hf] at e
    have e' : (if plB l (p3 q) = true then some (prn l (p3 q)) else none) = some z := e
    split at e'
    · next k =>
      injection e' with e'
      rw [← e']
      exact prn_wd (h.2.2 l (List.mem_of_find?_eq_some hf)).1 k
    · cases e'
theorem peF_wd {n : Nat} {bk : List Lf} (h : GBk n bk) {q : PL} {z : Str} (e : peF bk q = some z) : Wd z := by
  unfold peF at e
  cases hf : bk.find? fun l => decide (l.L = q.1.1) with
  | none => rw [hf] at e; cases e
  | some l =>
    rw [hf] at e
    exact (h.2.2 l (List.mem_of_find?_eq_some hf)).1.2.2.2 _ (penAt_mem e)
theorem prF_q {n : Nat} {bk : List Lf} (h : GBk n bk) {q : PL} {z : Str} (e : prF bk q = some z) : okQ q := by
  unfold prF at e
  cases hf : bk.find? fun l => decide (l.L = q.1.1) with
  | none => rw [hf] at e; cases e
  | some l =>
    rw [hf] at e
    have e' : (if plB l (p3 q) = true then some (prn l (p3 q)) else none) = some z := e
    split at e'
    · next k =>
      have g := (h.2.2 l (List.mem_of_find?_eq_some hf)).1
      have eL : l.L = q.1.1 := of_decide_eq_true (List.find?_some (p := fun l : Lf => decide (l.L = q.1.1)) hf)
      obtain ⟨s1, s2, s3⟩ := plB_small g.1.2.1 g.1.2.2.1 k
      refine ⟨⟨by rw [← eL]; exact g.1.1, ?_⟩, s2, s3⟩
      have s1' : 0 ≤ q.1.2 ∧ q.1.2 ≤ 1 := s1
      show q.1.2 = 0 ∨ q.1.2 = 1
      omega
    · cases e'
/-- the leaves behind, with the strokes that g tells -/
def AftLf (g : MF) (a b : Lf) : Prop := b.L = a.L ∧ b.fr = a.fr ∧ b.bk = a.bk ∧ (b.pen.Pairwise fun x y => ltP3 x.1 y.1 = true) ∧ ∀ p, penAt b.pen p = g ((a.L, p.1), p.2)
inductive AftAll (g : MF) : List Lf → List Lf → Prop
  | nil : AftAll g [] []
  | cons {a b : Lf} {r s : List Lf} (h : AftLf g a b) (t : AftAll g r s) : AftAll g (a :: r) (b :: s)
theorem AftAll.snoc {g : MF} : ∀ {r s : List Lf} {a b : Lf}, AftAll g r s → AftLf g a b → AftAll g (r ++ [a]) (s ++ [b])
  | _, _, _, _, .nil, h => .cons h .nil
  | _, _, _, _, .cons k t, h => .cons k (t.snoc h)
/-- corrected leaves are those that the law tells -/
theorem aft_car {cs : List Co} {f g : MF} : ∀ {r s t : List Lf}, CarAllX cs r s → AftAll g r t → (∀ l ∈ s, ∀ p, penAt l.pen p = g ((l.L, p.1), p.2)) → s = t
  | _, _, _, .nil, .nil, _ => rfl
  | _, _, _, .cons (a := a) (b := b) ⟨c, _⟩ t, .cons (b := b2) ⟨e1, e2, e3, e4, e5⟩ u, h => by
    have ih := aft_car (f := f) t u fun l hl => h l (List.mem_cons_of_mem _ hl)
    have hb := h b (List.mem_cons_self ..)
    have pe : b.pen = b2.pen := pen_uniq c.2.2.2.1.2.2.2.2 e4 fun p => by rw [hb p, e5 p, c.1]
    have : b = b2 := by
      obtain ⟨x1, x2, x3, x4⟩ := b
      obtain ⟨y1, y2, y3, y4⟩ := b2
      have c1 : x1 = a.L := c.1
      have c2 : x2 = a.fr := c.2.1
      have c3 : x3 = a.bk := c.2.2.1
      have d1 : y1 = a.L := e1
      have d2 : y2 = a.fr := e2
      have d3 : y3 = a.bk := e3
      have d4 : x4 = y4 := pe
      rw [c1, c2, c3, d1, d2, d3, d4]
    rw [this, ih]
/-! ### rows of tokens -/
def lenS (ys : List Str) : Nat := (ys.map fun y => y.length).sum
theorem lenS_snoc (ys : List Str) (y : Str) : lenS (ys ++ [y]) = lenS ys + y.length := by
  unfold lenS
  rw [List.map_append, List.sum_append]
  simp
theorem join_lenS : ∀ (r : List Str) (y : Str), (Txt.join " " (y :: r)).length = lenS (y :: r) + r.length
  | [], y => by
    show y.length = _
    simp [lenS]
  | z :: r, y => by
    have ih := join_lenS r z
    have l : ∀ a b : Str, (a ++ b).length = a.length + b.length := fun a b => by
      show (a.cps ++ b.cps).size = _
      rw [Array.size_append]; rfl
    have e1 : (" " : Str).length = 1 := by decide +kernel
    rw [join_cc, l, l, ih, e1]
    have : lenS (y :: z :: r) = y.length + lenS (z :: r) := by simp [lenS]
    rw [this, List.length_cons]
    omega
theorem row_of {ys : List Str} (ne : ys ≠ []) (h : ∀ y ∈ ys, Wd y) (l30 : ys.length ≤ 30) (s : lenS ys + ys.length ≤ 121) : rowB (Txt.join " " ys) = true ∧ Asc (Txt.join " " ys) := by
  have sp : Txt.split (Txt.join " " ys) " " = ys := TL.split_join (s := 32) (S := []) (by rfl) (by decide +kernel) ne fun y hy hx => tokB_free (h y hy).1 hx
  constructor
  · unfold rowB
    rw [sp]
    obtain ⟨y, r, rfl⟩ : ∃ y r, ys = y :: r := by
      cases ys with
      | nil => exact absurd rfl ne
      | cons y r => exact ⟨y, r, rfl⟩
    rw [join_lenS]
    rw [List.length_cons] at s
    simp only [Bool.and_eq_true, decide_eq_true_eq, List.all_eq_true]
    exact ⟨⟨by omega, l30⟩, fun z hz => (h z hz).1⟩
  · intro x hx
    have e2 : Txt.join " " ys = Str.join " " ys := by
      unfold Txt.join
      rw [StrLaws.glued_eq_join]
    rw [TL.join_eq] at hx
    rcases (mem_join _ _ _).mp hx with ⟨p, hp, hc⟩ | hc
    · exact (h p hp).2 x hc
    · have : x ∈ [32] := hc.2
      rw [List.mem_singleton.mp this]
      decide
/-! ### maps told by lists of pairs -/
def foldF : List (PL × Str) → MF := List.foldl (fun f e => fun r => if r = e.1 then some e.2 else f r) (fun _ => none)
theorem foldF_snoc (xs : List (PL × Str)) (q : PL) (z : Str) : foldF (xs ++ [(q, z)]) = fun r => if r = q then some z else foldF xs r := by
  unfold foldF
  rw [List.foldl_append]
  rfl
theorem foldF_mem : ∀ (xs : List (PL × Str)) (q : PL) (z : Str), foldF xs q = some z → (q, z) ∈ xs := by
  intro xs q z
  have key : ∀ (xs : List (PL × Str)) (f : MF), List.foldl (fun (f : MF) (e : PL × Str) => fun r => if r = e.1 then some e.2 else f r) f xs q = some z → f q = some z ∨ (q, z) ∈ xs := by
    intro xs
    induction xs with
    | nil => exact fun f h => .inl h
    | cons e r ih =>
      intro f h
      rcases ih _ h with h | h
      · have h : (if q = e.1 then some e.2 else f q) = some z := h
        by_cases k : q = e.1
        · rw [if_pos k] at h
          injection h with h
          exact .inr (by rw [k, ← h]; exact List.mem_cons_self ..)
        · rw [if_neg k] at h
          exact .inl h
      · exact .inr (List.mem_cons_of_mem _ h)
  intro h
  rcases key xs _ h with h | h
  · cases h
  · exact h
theorem foldF_none : ∀ (xs : List (PL × Str)) (q : PL), foldF xs q = none → ∀ z, (q, z) ∉ xs := by
  intro xs q
  have key : ∀ (xs : List (PL × Str)) (f : MF), List.foldl (fun (f : MF) (e : PL × Str) => fun r => if r = e.1 then some e.2 else f r) f xs q = none → f q = none ∧ ∀ z, (q, z) ∉ xs := by
    intro xs
    induction xs with
    | nil => exact fun f h => ⟨h, fun _ h => nomatch h⟩
    | cons e r ih =>
      intro f h
      obtain ⟨h1, h2⟩ := ih _ h
      have h1 : (if q = e.1 then some e.2 else f q) = none := h1
      by_cases k : q = e.1
      · rw [if_pos k] at h1
        cases h1
      · rw [if_neg k] at h1
        refine ⟨h1, fun z hz => ?_⟩
        rcases List.mem_cons.mp hz with e1 | hz
        · exact k (by rw [← e1])
        · exact h2 z hz
  exact fun h => (key xs _ h).2
theorem foldF_eq {xs : List (PL × Str)} {f : MF} (h : ∀ q z, (q, z) ∈ xs ↔ f q = some z) : foldF xs = f := by
  funext q
  cases e : foldF xs q with
  | some z => exact ((h q z).mp (foldF_mem xs q z e)).symm
  | none =>
    cases e2 : f q with
    | none => rfl
    | some z => exact absurd ((h q z).mpr e2) (foldF_none xs q e z)
def penS (l : Lf) : List (PL × Str) := l.pen.map fun s => (((l.L, s.1.1), s.1.2), s.2)
def wordsS (l : Lf) (s r : Nat) : List (PL × Str) := (List.range (toksR ((sideR l s).getD r ⟨#[]⟩)).length).map fun w : Nat => (((l.L, (s : Int)), (r : Int), (w : Int)), (toksR ((sideR l s).getD r ⟨#[]⟩)).getD w ⟨#[]⟩)
def sideS (l : Lf) (s : Nat) : List (PL × Str) := (List.range (sideR l s).length).flatMap (wordsS l s)
def leafS (l : Lf) : List (PL × Str) := (List.range 2).flatMap (sideS l)
theorem leafS_mem (l : Lf) (q : PL) (z : Str) : (q, z) ∈ leafS l ↔ l.L = q.1.1 ∧ plB l (p3 q) = true ∧ prn l (p3 q) = z := by
  constructor
  · intro h
    obtain ⟨s, hs, h⟩ := List.mem_flatMap.mp h
    obtain ⟨r, hr, h⟩ := List.mem_flatMap.mp h
    obtain ⟨w, hw, h⟩ := List.mem_map.mp h
    rw [List.mem_range] at hs hr hw
    injection h with h1 h2
    subst h1
    refine ⟨rfl, ?_, h2⟩
    unfold plB p3
    have s01 : (s : Int) = 0 ∨ (s : Int) = 1 := by omega
    simp only [Bool.and_eq_true, Bool.or_eq_true, decide_eq_true_eq]
    exact ⟨s01, ⟨by omega, by omega⟩, by omega, by show (w : Int) < _; simp only [Int.toNat_natCast]; omega⟩
  · rintro ⟨hL, hp, hz⟩
    obtain ⟨h1, ⟨r0, r1⟩, w0, w1⟩ := plB_in hp
    obtain ⟨⟨L, s⟩, r, w⟩ := q
    have h1 : s = 0 ∨ s = 1 := h1
    have hL : l.L = L := hL
    subst hL
    have e1 : s = (s.toNat : Int) := by omega
    have e2 : r = (r.toNat : Int) := (Int.toNat_of_nonneg r0).symm
    have e3 : w = (w.toNat : Int) := (Int.toNat_of_nonneg w0).symm
    have r1 : r < ((sideR l s).length : Nat) := r1
    have w1 : w < ((toksR ((sideR l s).getD r.toNat ⟨#[]⟩)).length : Nat) := w1
    refine List.mem_flatMap.mpr ⟨s.toNat, List.mem_range.mpr (by omega), List.mem_flatMap.mpr ⟨r.toNat, List.mem_range.mpr ?_, List.mem_map.mpr ⟨w.toNat, List.mem_range.mpr ?_, ?_⟩⟩⟩
    · rw [← e1]; omega
    · rw [← e1]; omega
    · rw [← e1, ← e2, ← e3, ← hz]
      rfl
theorem pw_lab {bk : List Lf} (pw : bk.Pairwise fun a b => HT.lexLt a.L b.L = true) {a b : Lf} (ha : a ∈ bk) (hb : b ∈ bk) (e : a.L = b.L) : a = b := by
  have h1 := find_one pw ha
  have h2 := find_one pw hb
  rw [e] at h1
  rw [h1] at h2
  exact Option.some.inj h2
theorem prF_spots {bk : List Lf} (pw : bk.Pairwise fun a b => HT.lexLt a.L b.L = true) : foldF (bk.flatMap leafS) = prF bk := by
  refine foldF_eq fun q z => ?_
  rw [List.mem_flatMap]
  constructor
  · rintro ⟨l, hl, h⟩
    obtain ⟨h1, h2, h3⟩ := (leafS_mem l q z).mp h
    have := prF_at pw hl (p3 q)
    rw [if_pos h2, h3, h1] at this
    exact this
  · intro h
    unfold prF at h
    obtain ⟨l, hf, h⟩ := Option.bind_eq_some_iff.mp h
    have hm := List.mem_of_find?_eq_some hf
    have hL : l.L = q.1.1 := of_decide_eq_true (List.find?_some (p := fun l : Lf => decide (l.L = q.1.1)) hf)
    split at h
    · next hp =>
      injection h with h
      exact ⟨l, hm, (leafS_mem l q z).mpr ⟨hL, hp, h⟩⟩
    · cases h
theorem peF_pens {bk : List Lf} (pw : bk.Pairwise fun a b => HT.lexLt a.L b.L = true) (ok : ∀ l ∈ bk, (l.pen.map Prod.fst).Nodup) : foldF (bk.flatMap penS) = peF bk := by
  refine foldF_eq fun q z => ?_
  rw [List.mem_flatMap]
  constructor
  · rintro ⟨l, hl, h⟩
    obtain ⟨s, hs, h⟩ := List.mem_map.mp h
    injection h with h1 h2
    have := peF_rel pw l hl s.1
    rw [penAt_of (ok l hl) hs] at this
    rw [← h1, ← h2]
    exact this.symm
  · intro h
    unfold peF at h
    obtain ⟨l, hf, h⟩ := Option.bind_eq_some_iff.mp h
    have hm := List.mem_of_find?_eq_some hf
    have hL : l.L = q.1.1 := of_decide_eq_true (List.find?_some (p := fun l : Lf => decide (l.L = q.1.1)) hf)
    refine ⟨l, hm, List.mem_map.mpr ⟨(p3 q, z), penAt_mem h, ?_⟩⟩
    rw [hL]
    rfl
theorem range_flat {α : Type} (f : Nat → List α) (j : Nat) : (List.range (j + 1)).flatMap f = (List.range j).flatMap f ++ f j := by
  rw [List.range_succ, List.flatMap_append]
  simp
theorem range_map1 {α : Type} (f : Nat → α) (j : Nat) : (List.range (j + 1)).map f = (List.range j).map f ++ [f j] := by
  rw [List.range_succ, List.map_append]
  rfl
theorem take_flat {α β : Type} (f : α → List β) {l : List α} {i : Nat} {x : α} (h : l[i]? = some x) : (l.take (i + 1)).flatMap f = (l.take i).flatMap f ++ f x := by
  rw [List.take_add_one, h, List.flatMap_append]
  simp
/-! ### places in order -/
theorem alike_Q (a b : PL) : PySem.W.alike (dQ a) (dQ b) = true := by
  have h : PySem.W.alike (dQ a) (dQ b) = (PySem.W.alike (dP a.1) (dP b.1) && true) := by
    unfold dQ
    simp only [PySem.W.alike, PySem.W.alikeAll, Bool.and_true, Bool.true_and]
  rw [h, alike_P]
  rfl
theorem allAlike_Q (qs : List PL) : PySem.W.AllAlike (qs.map dQ) := PySem.W.AllAlike.of alike_Q
theorem sortable_Q (qs : List PL) : PySem.W.Sortable (qs.map dQ) := PySem.W.Sortable.tuples fun _ => ⟨_, _, rfl⟩
theorem depth_Q (qs : List PL) : ∀ d ∈ qs.map dQ, d.depth ≤ 60 := fun d hd => by
  obtain ⟨q, _, rfl⟩ := List.mem_map.mp hd
  have h1 := depthP q.1
  have : (dQ q).depth = max (dP q.1).depth (max 0 (max 0 0)) + 1 := rfl
  omega
theorem dlt_Q {a b : PL} (hL : a.1.1 = b.1.1) (h : a ≠ b) : PySem.W.dataLt (dQ a) (dQ b) = ltP3 (p3 a) (p3 b) := by
  obtain ⟨⟨L, a1⟩, a2, a3⟩ := a
  obtain ⟨⟨M, b1⟩, b2, b3⟩ := b
  have hL : L = M := hL
  subst hL
  unfold dQ ltP3 plL p3
  rw [PySem.W.dataLt_tuple, HT.lexLt_cons, HT.lexLt_cons, HT.lexLt_cons]
  have al : ∀ x y : Int, PySem.W.alike (.int x) (.int y) = true := fun _ _ => rfl
  by_cases e1 : a1 = b1
  · subst e1
    rw [if_pos rfl, PySem.W.dataLt_all_yes (alike_P _ _) (by rw [eqv_P]; exact decide_eq_true rfl)]
    by_cases e2 : a2 = b2
    · subst e2
      rw [if_pos rfl, PySem.W.dataLt_all_yes (al _ _) (by show (a2 == a2) = true; exact beq_self_eq_true a2)]
      have e3 : ¬ a3 = b3 := fun z => h (by rw [z])
      rw [if_neg e3, PySem.W.dataLt_all_no (al _ _) (by show (a3 == b3) = false; exact beq_eq_false_iff_ne.mpr e3), PySem.W.dataLt_int]
    · rw [if_neg e2, PySem.W.dataLt_all_no (al _ _) (by show (a2 == b2) = false; exact beq_eq_false_iff_ne.mpr e2), PySem.W.dataLt_int]
  · rw [if_neg e1, PySem.W.dataLt_all_no (alike_P _ _) (by rw [eqv_P]; exact decide_eq_false (fun z => e1 (congrArg Prod.snd z)))]
    unfold dP
    rw [PySem.W.dataLt_tuple, PySem.W.dataLt_all_yes (alike_L _ _) (by rw [eqv_L]; exact decide_eq_true rfl), PySem.W.dataLt_all_no (al _ _) (by show (a1 == b1) = false; exact beq_eq_false_iff_ne.mpr e1), PySem.W.dataLt_int]
theorem lx_total {L M : List Int} (h : HT.lexLt M L = false) (ne : L ≠ M) : HT.lexLt L M = true := by
  cases e : HT.lexLt L M with
  | true => rfl
  | false =>
    rw [← dlt_L] at h e
    have al := alike_L L M
    have t := TO.total _ _ e h
    have := eqv_of_toks al t
    rw [eqv_L] at this
    exact absurd (of_decide_eq_true this) ne
def ownF (f : MF) (L : List Int) (q : PL) : Option Sk := if q.1.1 = L then (f q).map fun z => (p3 q, z) else none
def ownL (f : MF) (L : List Int) (S : List PL) : List Sk := S.filterMap (ownF f L)
theorem ownF_some {f : MF} {L : List Int} {q : PL} {s : Sk} (h : ownF f L q = some s) : q.1.1 = L ∧ f q = some s.2 ∧ p3 q = s.1 := by
  unfold ownF at h
  split at h
  · next e =>
    obtain ⟨z, hz, e2⟩ := Option.map_eq_some_iff.mp h
    rw [← e2]
    exact ⟨e, hz, rfl⟩
  · cases h
theorem ownL_pw {f : MF} {L : List Int} : ∀ {S : List PL}, (S.Pairwise fun a b => PySem.W.dataLt (dQ b) (dQ a) = false) → S.Nodup → (ownL f L S).Pairwise fun x y => ltP3 x.1 y.1 = true := by
  intro S hS nd
  refine List.Pairwise.filterMap (ownF f L) (fun a b (h : PySem.W.dataLt (dQ b) (dQ a) = false ∧ a ≠ b) x hx y hy => ?_) (List.Pairwise.and hS nd)
  obtain ⟨a1, a2, a3⟩ := ownF_some hx
  obtain ⟨b1, b2, b3⟩ := ownF_some hy
  obtain ⟨h1, h2⟩ := h
  rw [dlt_Q (by rw [b1, a1]) (fun z => h2 z.symm), b3, a3] at h1
  unfold ltP3 at h1 ⊢
  refine lx_total h1 fun e => h2 ?_
  have e' : x.1 = y.1 := by
    obtain ⟨⟨x1, x2, x3⟩, x4⟩ := x
    obtain ⟨⟨y1, y2, y3⟩, y4⟩ := y
    unfold plL at e
    simp only [List.cons.injEq, and_true] at e
    simp [e]
  obtain ⟨⟨La, sa⟩, ra, wa⟩ := a
  obtain ⟨⟨Lb, sb⟩, rb, wb⟩ := b
  have h3 : (sa, ra, wa) = (sb, rb, wb) := by
    have q1 : (sa, ra, wa) = x.1 := a3
    have q2 : (sb, rb, wb) = y.1 := b3
    rw [q1, q2, e']
  have h4 : La = Lb := by
    have q1 : La = L := a1
    have q2 : Lb = L := b1
    rw [q1, q2]
  simp only [Prod.mk.injEq] at h3
  rw [h4, h3.1, h3.2.1, h3.2.2]
theorem aft_lf {f : MF} {S : List PL} {l b : Lf} (hS : S.Pairwise fun a b => PySem.W.dataLt (dQ b) (dQ a) = false) (nd : S.Nodup) (mem : ∀ q, (f q).isSome = true → q ∈ S) (e1 : b.L = l.L) (e2 : b.fr = l.fr) (e3 : b.bk = l.bk) (e4 : b.pen = ownL f l.L S) : AftLf f l b := by
  have pw := ownL_pw (f := f) (L := l.L) hS nd
  refine ⟨e1, e2, e3, by rw [e4]; exact pw, fun p => ?_⟩
  rw [e4]
  cases e : f ((l.L, p.1), p.2) with
  | some z =>
    have hm := mem ((l.L, p.1), p.2) (by rw [e]; rfl)
    have : (p, z) ∈ ownL f l.L S := List.mem_filterMap.mpr ⟨_, hm, by unfold ownF; rw [if_pos rfl, e]; rfl⟩
    exact penAt_of (pw_nodup pw) this
  | none =>
    cases e2 : penAt (ownL f l.L S) p with
    | none => rfl
    | some z =>
      obtain ⟨q, _, hq⟩ := List.mem_filterMap.mp (penAt_mem e2)
      obtain ⟨a1, a2, a3⟩ := ownF_some hq
      obtain ⟨⟨La, sa⟩, ra, wa⟩ := q
      have a1 : La = l.L := a1
      have a3 : (sa, ra, wa) = p := a3
      rw [← a3, ← a1] at e
      have a2 : f ((La, sa), ra, wa) = some z := a2
      rw [a2] at e
      cases e
theorem tpKeys {H : Hp} : ∀ {ms : List ME}, (∀ e ∈ ms, Tp H (.ref e.b) (dQ e.q)) → TpAll H ((kvM ms).map fun e => V.ref e.2.1) ((ms.map ME.q).map dQ)
  | [], _ => .nil
  | e :: r, h => .cons (h e (List.mem_cons_self ..)) (tpKeys fun x hx => h x (List.mem_cons_of_mem _ hx))
/-! ### dicts from triples of ints to texts -/
def dP3 (p : P3) : PyData := dL (plL p)
theorem nk3_inj {q r : P3} (h : nkD (dP3 q) = nkD (dP3 r)) : q = r := by
  obtain ⟨a, b, c⟩ := q
  obtain ⟨d, e, f⟩ := r
  have h : PySem.NestedKey.tup [.num a, .num b, .num c] = PySem.NestedKey.tup [.num d, .num e, .num f] := h
  injection h with h
  simp only [List.cons.injEq, PySem.NestedKey.num.injEq, and_true] at h
  rw [h.1, h.2.1, h.2.2]
theorem dP3_depth (q : P3) : (nkD (dP3 q)).depth ≤ 8 := Nat.le_of_ble_eq_true rfl
theorem noL_3 (q : P3) : noL (dP3 q) = true := rfl
structure M3 where
  q : P3
  b : Addr
  z : Str
abbrev MG := P3 → Option Str
def kv3 (ms : List M3) : List NE := ms.map fun e => (nkD (dP3 e.q), e.b, V.str e.z)
def at3 (ms : List M3) (q : P3) : Option Str := (ms.find? fun e => decide (e.q = q)).map M3.z
def put3 (ms : List M3) (q : P3) (b : Addr) (z : Str) : List M3 := if (at3 ms q).isSome = true then ms.map (fun e => if e.q = q then ⟨e.q, e.b, z⟩ else e) else ms ++ [⟨q, b, z⟩]
theorem nk3_dec (q r : P3) : decide (nkD (dP3 q) = nkD (dP3 r)) = decide (q = r) := by
  by_cases e : q = r
  · rw [e, decide_eq_true rfl, decide_eq_true rfl]
  · rw [decide_eq_false e, decide_eq_false fun z => e (nk3_inj z)]
theorem atN_kv3 : ∀ (ms : List M3) (q : P3), atN (kv3 ms) (nkD (dP3 q)) = (at3 ms q).map V.str
  | [], _ => rfl
  | e :: r, q => by
    have ih := atN_kv3 r q
    unfold atN at3 kv3 at ih ⊢
    rw [List.map_cons, List.find?_cons, List.find?_cons]
    have k : decide ((nkD (dP3 e.q), e.b, V.str e.z).1 = nkD (dP3 q)) = decide (e.q = q) := nk3_dec e.q q
    rw [k]
    cases decide (e.q = q) with
    | true => rfl
    | false => exact ih
theorem putN_kv3 (ms : List M3) (q : P3) (b : Addr) (z : Str) : putN (kv3 ms) (nkD (dP3 q)) b (V.str z) = kv3 (put3 ms q b z) := by
  unfold putN put3
  rw [atN_kv3, Option.isSome_map]
  by_cases h : (at3 ms q).isSome = true
  · rw [if_pos h, if_pos h]
    unfold kv3
    rw [List.map_map, List.map_map]
    refine List.map_congr_left fun e _ => ?_
    show (if nkD (dP3 e.q) = nkD (dP3 q) then _ else _) = _
    by_cases e1 : e.q = q
    · rw [if_pos (by rw [e1])]
      show _ = (_, (if e.q = q then _ else _ : M3).b, V.str (if e.q = q then _ else _ : M3).z)
      rw [if_pos e1]
      simp [e1]
    · rw [if_neg fun y => e1 (nk3_inj y)]
      show _ = (_, (if e.q = q then _ else _ : M3).b, V.str (if e.q = q then _ else _ : M3).z)
      rw [if_neg e1]
      simp [e1]
  · rw [if_neg h, if_neg h]
    unfold kv3
    rw [List.map_append]
    rfl
theorem at3_some {ms : List M3} {q : P3} : (at3 ms q).isSome = true ↔ q ∈ ms.map M3.q := by
  unfold at3
  rw [Option.isSome_map, List.find?_isSome, List.mem_map]
  exact ⟨fun ⟨e, h, d⟩ => ⟨e, h, of_decide_eq_true d⟩, fun ⟨e, h, d⟩ => ⟨e, h, decide_eq_true d⟩⟩
theorem put3_keys (ms : List M3) (q : P3) (b : Addr) (z : Str) : (put3 ms q b z).map M3.q = if q ∈ ms.map M3.q then ms.map M3.q else ms.map M3.q ++ [q] := by
  unfold put3
  by_cases h : (at3 ms q).isSome = true
  · rw [if_pos h, if_pos (at3_some.mp h), List.map_map]
    refine List.map_congr_left fun e _ => ?_
    show (if e.q = q then _ else _ : M3).q = _
    split <;> rfl
  · rw [if_neg h, if_neg (fun y => h (at3_some.mpr y)), List.map_append]
    rfl
theorem put3_nodup {ms : List M3} {q : P3} {b : Addr} {z : Str} (h : (ms.map M3.q).Nodup) : ((put3 ms q b z).map M3.q).Nodup := by
  rw [put3_keys]
  split
  · exact h
  · next n =>
    refine List.nodup_append.mpr ⟨h, by simp, fun a ha c hc e => n ?_⟩
    rw [← List.mem_singleton.mp hc, ← e]
    exact ha
theorem put3_at (ms : List M3) (q : P3) (b : Addr) (z : Str) (r : P3) : at3 (put3 ms q b z) r = if r = q then some z else at3 ms r := by
  have e := atN_put (kv3 ms) (nkD (dP3 q)) (nkD (dP3 r)) b (V.str z)
  rw [putN_kv3, atN_kv3, atN_kv3] at e
  have inj : ∀ {o p : Option Str}, o.map V.str = p.map V.str → o = p := by
    intro o p h
    cases o <;> cases p <;> simp at h <;> first | rfl | (rw [h])
  by_cases h : r = q
  · rw [if_pos (by rw [h])] at e
    rw [if_pos h]
    exact inj e
  · rw [if_neg (fun y => h (nk3_inj y))] at e
    rw [if_neg h]
    exact inj e
theorem put3_len (ms : List M3) (q : P3) (b : Addr) (z : Str) : (put3 ms q b z).length ≤ ms.length + 1 := by
  unfold put3
  split
  · rw [List.length_map]
    exact Nat.le_succ _
  · rw [List.length_append]
    exact Nat.le_refl _
theorem put3_mem {ms : List M3} {q : P3} {b : Addr} {z : Str} {e : M3} (h : e ∈ put3 ms q b z) : (∃ e' ∈ ms, e'.q = e.q ∧ e'.b = e.b) ∨ (e.q = q ∧ e.b = b) := by
  unfold put3 at h
  split at h
  · obtain ⟨e', he, rfl⟩ := List.mem_map.mp h
    refine .inl ⟨e', he, ?_⟩
    split <;> exact ⟨rfl, rfl⟩
  · rcases List.mem_append.mp h with h | h
    · exact .inl ⟨e, h, rfl, rfl⟩
    · rw [List.mem_singleton.mp h]
      exact .inr ⟨rfl, rfl⟩
/-- the dict at a tells f; it has at most n entries -/
def MqAt (w : World) (H : Hp) (a : Addr) (f : MG) (n : Nat) : Prop := ∃ ms : List M3, DN w H a (kv3 ms) ∧ (∀ e ∈ ms, Tp H (.ref e.b) (dP3 e.q)) ∧ (∀ q, at3 ms q = f q) ∧ (ms.map M3.q).Nodup ∧ ms.length ≤ n
theorem MqAt.nl {w : World} {H H' : Hp} {a : Addr} {f : MG} {n : Nat} (m : NL H H') (h : MqAt w H a f n) : MqAt w H' a f n := by
  obtain ⟨ms, h1, h2, h3⟩ := h
  exact ⟨ms, h1.nl m, fun e he => (h2 e he).nl m, h3⟩
theorem MqAt.mono {w : World} {H : Hp} {a : Addr} {f : MG} {n m : Nat} (h : MqAt w H a f n) (l : n ≤ m) : MqAt w H a f m := by
  obtain ⟨ms, h1, h2, h3, h4, h5⟩ := h
  exact ⟨ms, h1, h2, h3, h4, Nat.le_trans h5 l⟩
theorem nkey_3 {H : Hp} {b : Addr} {q : P3} (h : Tp H (.ref b) (dP3 q)) : NKey H b (nkD (dP3 q)) := ⟨_, h, rfl, dP3_depth q⟩
theorem MqAt.put {w : World} {H : Hp} {a b : Addr} {f : MG} {n : Nat} {q : P3} {z : Str} {ms : List M3} (e : DN w H a (kv3 ms)) (ht : ∀ e ∈ ms, Tp H (.ref e.b) (dP3 e.q)) (hf : ∀ q, at3 ms q = f q) (nd : (ms.map M3.q).Nodup) (l : ms.length ≤ n) (hb : Tp H (.ref b) (dP3 q)) :
    MqAt w (upd H a (rawN w a (putN (kv3 ms) (nkD (dP3 q)) b (V.str z)))) a (fun r => if r = q then some z else f r) (n + 1) := by
  have tp : ∀ {c : Addr} {r : P3}, Tp H (.ref c) (dP3 r) → Tp (upd H a (rawN w a (putN (kv3 ms) (nkD (dP3 q)) b (V.str z)))) (.ref c) (dP3 r) := fun h => h.tups fun c ys ec => by
    rw [upd_ne (fun y => by rw [y, e.1] at ec; exact rawN_net (Option.some.inj ec))]
    exact ec
  refine ⟨put3 ms q b z, ?_, fun x hx => ?_, fun r => ?_, put3_nodup nd, Nat.le_trans (put3_len ..) (Nat.succ_le_succ l)⟩
  · have := DN.put (v := V.str z) e (nkey_3 hb)
    rwa [putN_kv3] at this ⊢
  · rcases put3_mem hx with ⟨e', he, e1, e2⟩ | ⟨e1, e2⟩
    · rw [← e1, ← e2]
      exact tp (ht e' he)
    · rw [e1, e2]
      exact tp hb
  · rw [put3_at, hf]
theorem MqAt.zero {w : World} {H : Hp} {a : Addr} : MqAt w (upd H a (rawN w a [])) a (fun _ => none) 0 := ⟨[], ⟨upd_same, fun _ h => nomatch h⟩, (fun _ h => nomatch h), (fun _ => rfl), List.nodup_nil, Nat.le_refl 0⟩
theorem tpKeys3 {H : Hp} : ∀ {ms : List M3}, (∀ e ∈ ms, Tp H (.ref e.b) (dP3 e.q)) → TpAll H ((kv3 ms).map fun e => V.ref e.2.1) ((ms.map M3.q).map dP3)
  | [], _ => .nil
  | e :: r, h => .cons (h e (List.mem_cons_self ..)) (tpKeys3 fun x hx => h x (List.mem_cons_of_mem _ hx))
theorem allAlike_3 (qs : List P3) : PySem.W.AllAlike (qs.map dP3) := PySem.W.AllAlike.of fun _ _ => alike_L _ _
theorem sortable_3 (qs : List P3) : PySem.W.Sortable (qs.map dP3) := PySem.W.Sortable.tuples fun _ => ⟨_, _, rfl⟩
theorem depth_3 (qs : List P3) : ∀ d ∈ qs.map dP3, d.depth ≤ 60 := fun d hd => by
  obtain ⟨q, _, rfl⟩ := List.mem_map.mp hd
  have := depthL (plL q)
  show (dL (plL q)).depth ≤ 60
  omega
theorem sort3_pw {S : List P3} (hS : S.Pairwise fun a b => PySem.W.dataLt (dP3 b) (dP3 a) = false) (nd : S.Nodup) : S.Pairwise fun a b => ltP3 a b = true :=
  (List.Pairwise.and hS nd).imp fun {a b} h => by
    have h1 : PySem.W.dataLt (dL (plL b)) (dL (plL a)) = false := h.1
    rw [dlt_L] at h1
    exact lx_total h1 fun e => h.2 (nk3_inj (congrArg (fun L => nkD (dL L)) e))
theorem pe_ngetK {X : Cx} {o i : Expr} {td ty : TE} {pos : Pos} {K : PySem.W.Frag} {w : World} (hk : X.K = K) (hw : X.w = w) (hu : X.A.units + 64 < cLine) (ho : PE X o td) (hi : PE X i ty) (hs : NoSl i) : PE X (.Subscript o i pos) (tNGet K w td ty) := by
  subst hk hw
  exact pe_nget hu ho hi hs
theorem allAlike_L (Ls : List (List Int)) : PySem.W.AllAlike (Ls.map dL) := PySem.W.AllAlike.of fun _ _ => alike_L _ _
theorem sortable_L {Ls : List (List Int)} (h : ∀ L ∈ Ls, okL L) : PySem.W.Sortable (Ls.map dL) := .inl fun d hd => by
  obtain ⟨L, hL, rfl⟩ := List.mem_map.mp hd
  cases L with
  | nil => exact absurd rfl (h _ hL).2.1
  | cons i r => exact ⟨_, _, rfl⟩
theorem depth_Ls (Ls : List (List Int)) : ∀ d ∈ Ls.map dL, d.depth ≤ 60 := fun d hd => by
  obtain ⟨q, _, rfl⟩ := List.mem_map.mp hd
  have := depthL q
  omega
theorem dL_inj {L M : List Int} (h : dL L = dL M) : L = M := by
  have := eqv_L L M
  rw [h, eqv_L, decide_eq_true rfl] at this
  exact of_decide_eq_true this.symm
theorem sortL_pw {S : List (List Int)} (hS : S.Pairwise fun a b => PySem.W.dataLt (dL b) (dL a) = false) (nd : S.Nodup) : S.Pairwise fun a b => HT.lexLt a b = true :=
  (List.Pairwise.and hS nd).imp fun {a b} h => by
    have h1 := h.1
    rw [dlt_L] at h1
    exact lx_total h1 h.2
section
variable {P : Program} {w : World} {K : PySem.W.Frag} {mg : Str → Option Value} {base : Heap}
/-! ### the promises -/
theorem nf_self {K : PySem.W.Frag} {C : Addr} : PySem.W.notFirst K C (.ref C) = true := by
  unfold PySem.W.notFirst
  simp
def sp_is_integer (K : PySem.W.Frag) : Sp := fun vs H Q _ => ∃ (v : V) (d : PyData), vs = [v] ∧ Dp K H v d ∧ Q (.bl (isI d)) H
def sp_is_within (K : PySem.W.Frag) : Sp := fun vs H Q _ => ∃ (v : V) (d : PyData) (l m : Int), vs = [v, .int l, .int m] ∧ Dp K H v d ∧ Q (.bl (wI l m d)) H
def sp_is_tuple (K : PySem.W.Frag) : Sp := fun vs H Q _ => ∃ (v : V) (d : PyData), vs = [v] ∧ ((Dp K H v d ∧ ∀ H', Same H H' → Q (.bl (items d).isSome) H') ∨ ∃ a xs, v = .ref a ∧ Seq K H a xs ∧ ∀ H', Same H H' → Q (.bl true) H')
def sz (l m : Int) (d : PyData) : Bool := match items d with
  | some ds => decide (l ≤ (ds.length : Int) ∧ (ds.length : Int) ≤ m)
  | none => false
def sp_is_sized (K : PySem.W.Frag) : Sp := fun vs H Q _ => ∃ (v : V) (d : PyData) (l m : Int), vs = [v, .int l, .int m] ∧ Dp K H v d ∧ ∀ H', Same H H' → Q (.bl (sz l m d)) H'
def sp_is_token (K : PySem.W.Frag) : Sp := fun vs H Q _ => ∃ z : Str, vs = [.str z] ∧ z.length ≤ 200 ∧ Q (.bl (tokB z)) H
def sp_source (K : PySem.W.Frag) : Sp := fun vs H Q _ => ∃ (a : Addr) (ns : List Int) (k : Nat), vs = [.ref a, .int k] ∧ SqL K H a (ns.map V.int) ∧ ∀ p H', Same H H' → H p = none → Src H' p → Q (.ref p) H'
def sp_pick (K : PySem.W.Frag) : Sp := fun vs H Q _ => ∃ (a : Addr) (m : Int), vs = [.ref a, .int m] ∧ Src H a ∧ 0 ≤ m ∧ m ≤ 1000000 ∧ ∀ r H', Src H' a → But a H H' → 0 ≤ r → (r < m ∨ r = 0 ∧ m = 0) → Q (.int r) H'
/-- a label handed in as a tuple or a list -/
def IL (K : PySem.W.Frag) (H : Hp) (x : V) (L : List Int) : Prop := ∃ l, x = .ref l ∧ (H l = some (.tup (L.map V.int)) ∨ SqL K H l (L.map V.int))
def TL (H : Hp) (x : V) (L : List Int) : Prop := ∃ l, x = .ref l ∧ H l = some (.tup (L.map V.int))
def IP (K : PySem.W.Frag) (H : Hp) (v : V) (p : Pg) : Prop := ∃ a u, v = .ref a ∧ Seq K H a [u, .int p.2] ∧ IL K H u p.1
theorem ip_tp {K : PySem.W.Frag} {H : Hp} {v : V} {p : Pg} (h : Tp H v (dP p)) : IP K H v p := by
  obtain ⟨a, l, rfl, h1, h2⟩ := pg_inv h
  exact ⟨a, _, rfl, .inr (.inl (.inl h1)), l, rfl, .inl h2⟩
def sp_kept_label (K : PySem.W.Frag) : Sp := fun vs H Q _ => ∃ (x : V) (L : List Int), vs = [x] ∧ IL K H x L ∧ okL L ∧ ∀ y H', Same H H' → TL H' y L → Q y H'
def sp_judged_label (K : PySem.W.Frag) : Sp := fun vs H Q _ => ∃ (x : V) (L : List Int), vs = [x] ∧ IL K H x L ∧ okL L ∧ ∀ y H', Same H H' → TL H' y L → Q y H'
def sp_kept_page (K : PySem.W.Frag) : Sp := fun vs H Q _ => ∃ (v : V) (p : Pg), vs = [v] ∧ IP K H v p ∧ okP p ∧ ∀ y H', Same H H' → Tp H' y (dP p) → Q y H'
def sp_is_row (K : PySem.W.Frag) : Sp := fun vs H Q _ => ∃ z : Str, vs = [.str z] ∧ z.length ≤ 1000 ∧ ∀ H', Same H H' → Q (.bl (rowB z)) H'
def sp_judged_rows (K : PySem.W.Frag) : Sp := fun vs H Q _ => ∃ (a : Addr) (zs : List Str) (l : Nat) (u : Str), vs = [.ref a, .int l, .str u] ∧ H a = some (.tup (zs.map V.str)) ∧ rowsB l zs = true ∧ ∀ H', Same H H' → Q (.ref a) H'
def stB (s : Sk) : Prop := (0 ≤ s.1.1 ∧ s.1.1 ≤ 1) ∧ (0 ≤ s.1.2.1 ∧ s.1.2.1 ≤ 11) ∧ (0 ≤ s.1.2.2 ∧ s.1.2.2 ≤ 29) ∧ tokB s.2 = true
def SksAt (K : PySem.W.Frag) (H : Hp) (a : Addr) (ss : List Sk) : Prop := ∃ us, Seq K H a us ∧ TpAll H us (ss.map dSk) ∧ ss.length ≤ 100000
def RwAt (H : Hp) (f b : Addr) (lf : Lf) : Prop := H f = some (.tup (lf.fr.map V.str)) ∧ H b = some (.tup (lf.bk.map V.str)) ∧ rowsB 1 lf.fr = true ∧ rowsB 0 lf.bk = true
def sp_is_stroke (K : PySem.W.Frag) : Sp := fun vs H Q _ => ∃ (v : V) (s : Sk), vs = [v] ∧ Tp H v (dSk s) ∧ stB s ∧ ∀ H', Same H H' → Q (.bl true) H'
def sp_kept_strokes (K : PySem.W.Frag) : Sp := fun vs H Q _ => ∃ (a : Addr) (ss : List Sk), vs = [.ref a] ∧ SksAt K H a ss ∧ (∀ s ∈ ss, stB s) ∧ ∀ p us H', Same H H' → H' p = some (.tup us) → TpAll H' us (ss.map dSk) → Q (.ref p) H'
def sp_is_place (K : PySem.W.Frag) : Sp := fun vs H Q _ => ∃ (f b a : Addr) (lf : Lf) (p : P3), vs = [.ref f, .ref b, .ref a] ∧ RwAt H f b lf ∧ H a = some (.tup [.int p.1, .int p.2.1, .int p.2.2]) ∧ ∀ H', Same H H' → Q (.bl (plB lf p)) H'
def sp_judged_pen (K : PySem.W.Frag) : Sp := fun vs H Q _ => ∃ (f b a : Addr) (lf : Lf) (ss : List Sk), vs = [.ref f, .ref b, .ref a] ∧ RwAt H f b lf ∧ SksAt K H a ss ∧ okPen lf ss ∧ (ss.Pairwise fun a b => ltP3 a.1 b.1 = true) ∧ ∀ p us H', Same H H' → H' p = some (.tup us) → TpAll H' us (ss.map dSk) → Q (.ref p) H'
def sp_Leaf_init (K : PySem.W.Frag) (C : Addr) : Sp := fun vs H Q _ => ∃ (x dx l f b p : Addr) (lf : Lf), vs = [.ref x, .ref l, .ref f, .ref b, .ref p] ∧ H x = some (.ins C dx []) ∧ H l = some (.tup (lf.L.map V.int)) ∧ RwAt H f b lf ∧ SksAt K H p lf.pen ∧ okLw lf ∧ ∀ H', LfAt C H' (.ref x) lf → But x H H' → Q .non H'
def sp_Leaf_side_rows (K : PySem.W.Frag) (C : Addr) : Sp := fun vs H Q _ => ∃ (v : V) (s : Int) (lf : Lf), vs = [v, .int s] ∧ LfAt C H v lf ∧ ∀ a, H a = some (.tup ((sideR lf s).map V.str)) → Q (.ref a) H
def optS : Option Str → V
  | some z => .str z
  | none => .non
def sp_Leaf_says (K : PySem.W.Frag) (C : Addr) : Sp := fun vs H Q _ => ∃ (v : V) (s r x : Int) (lf : Lf), vs = [v, .int s, .int r, .int x] ∧ LfAt C H v lf ∧ okLw lf ∧ ∀ H', Same H H' → Q (optS (saysL lf (s, r, x))) H'
def sp_Leaf_penned (K : PySem.W.Frag) (C : Addr) : Sp := fun vs H Q _ => ∃ (v : V) (a : Addr) (us : List V) (lf : Lf) (ss : List Sk), vs = [v, .ref a] ∧ LfAt C H v lf ∧ okLw lf ∧ lf.pen.length ≤ 90000 ∧ H a = some (.lst us) ∧ TpAll H us (ss.map dSk) ∧ (ss.map Prod.fst).Nodup ∧ okPen lf ss ∧ ss.length ≤ 60 ∧
  ∀ v' lf' H', Same H H' → LfAt C H' v' lf' → lf'.L = lf.L → lf'.fr = lf.fr → lf'.bk = lf.bk → okLw lf' → lf'.pen.length ≤ lf.pen.length + ss.length → (∀ p, penAt lf'.pen p = match penAt ss p with | some z => some z | none => penAt lf.pen p) → Q v' H'
def sp_judged_leaves (K : PySem.W.Frag) (C : Addr) : Sp := fun vs H Q _ => ∃ (a : Addr) (xs : List V) (bk : List Lf), vs = [.ref a] ∧ H a = some (.lst xs) ∧ LfAll C H xs bk ∧ okBw bk ∧ ∀ p H', Same H H' → H' p = some (.tup xs) → Q (.ref p) H'
def sp_Book_init (K : PySem.W.Frag) (C CB : Addr) : Sp := fun vs H Q _ => ∃ (x dx a : Addr) (xs : List V) (bk : List Lf), vs = [.ref x, .ref a] ∧ H x = some (.ins CB dx []) ∧ H a = some (.lst xs) ∧ LfAll C H xs bk ∧ okBw bk ∧ ∀ H', BkAt C CB H' (.ref x) bk → But x H H' → Q .non H'
abbrev sp_Book_iter (K : PySem.W.Frag) (CB : Addr) : Nat → Sp := spIter K CB "leaves"
def sp_Book_getitem (K : PySem.W.Frag) (C CB : Addr) : Sp := fun vs H Q _ => ∃ (v x : V) (bk : List Lf) (lf : Lf), vs = [v, x] ∧ BkAt C CB H v bk ∧ okBw bk ∧ lf ∈ bk ∧ TL H x lf.L ∧ ∀ u H', Same H H' → LfAt C H' u lf → Q u H'
def CsAt (H : Hp) (us : List V) (cs : List Co) : Prop := TpAll H us (cs.map dC) ∧ (∀ c ∈ cs, okC c) ∧ cs.length ≤ 60
theorem CsAt.nl {H H' : Hp} {us : List V} {cs : List Co} (m : NL H H') (h : CsAt H us cs) : CsAt H' us cs := ⟨h.1.nl m, h.2⟩
/-- listed corrections, with their turns -/
def ErAt (w : World) (C : Addr) (H : Hp) (v : V) (cs : List Co) : Prop := ∃ (x dx a t : Addr) (us : List V), v = .ref x ∧ H x = some (.ins C dx [("corrections", .ref a), ("_turns", .ref t)]) ∧ H a = some (.tup us) ∧ CsAt H us cs ∧ TurnsAt w H t cs
theorem ErAt.nl {w : World} {C : Addr} {H H' : Hp} {v : V} {cs : List Co} (m : NL H H') (h : ErAt w C H v cs) : ErAt w C H' v cs := by
  obtain ⟨x, dx, a, t, us, e, h1, h2, h3, h4⟩ := h
  exact ⟨x, dx, a, t, us, e, m _ _ h1 (fun _ z => nomatch z), m _ _ h2 (fun _ z => nomatch z), h3.nl m, h4.nl m⟩
theorem ErAt.ok {w : World} {C : Addr} {H : Hp} {v : V} {cs : List Co} (h : ErAt w C H v cs) : (∀ c ∈ cs, okC c) ∧ cs.length ≤ 60 := by
  obtain ⟨_, _, _, _, _, _, _, _, h3, _⟩ := h
  exact h3.2
def sp_kept_correction (K : PySem.W.Frag) : Sp := fun vs H Q _ => ∃ (v : V) (c : Co), vs = [v] ∧ Tp H v (dC c) ∧ okC c ∧ ∀ y H', Same H H' → Tp H' y (dC c) → Q y H'
def sp_judged_corrections (K : PySem.W.Frag) : Sp := fun vs H Q _ => ∃ (a : Addr) (us : List V) (cs : List Co), vs = [.ref a] ∧ H a = some (.lst us) ∧ CsAt H us cs ∧ ∀ p us' H', Same H H' → H' p = some (.tup us') → TpAll H' us' (cs.map dC) → Q (.ref p) H'
def sp_turns_at_places (K : PySem.W.Frag) (w : World) : Sp := fun vs H Q _ => ∃ (a : Addr) (us : List V) (cs : List Co), vs = [.ref a] ∧ H a = some (.tup us) ∧ CsAt H us cs ∧ ∀ t H', Same H H' → TurnsAt w H' t cs → Q (.ref t) H'
def sp_Errata_init (K : PySem.W.Frag) (w : World) (C : Addr) : Sp := fun vs H Q _ => ∃ (x dx a : Addr) (us : List V) (cs : List Co), vs = [.ref x, .ref a] ∧ H x = some (.ins C dx []) ∧ H a = some (.lst us) ∧ CsAt H us cs ∧ ∀ H', ErAt w C H' (.ref x) cs → But x H H' → Q .non H'
def sp_steps (K : PySem.W.Frag) : Sp := fun vs H Q _ => ∃ (z : Option Str) (a : Addr) (us : List V) (ts : List (Str × Str)), vs = [optS z, .ref a] ∧ SqL K H a us ∧ TpAll H us (ts.map dT2) ∧ ts.length ≤ 60 ∧ ∀ p ws H', Same H H' → H p = none → H' p = some (.lst ws) → TpAll H' ws ((stepsO ts z).map dT2) → Q (.ref p) H'
def sp_Errata_turned (K : PySem.W.Frag) (w : World) (C : Addr) : Sp := fun vs H Q _ => ∃ (v pv : V) (cs : List Co) (q : PL) (z : Str), vs = [v, pv, .int q.2.1, .int q.2.2, .str z] ∧ ErAt w C H v cs ∧ IP K H pv q.1 ∧ okP q.1 ∧ ∀ H', Same H H' → Q (.str (chain cs q z)) H'
def sp_Errata_leaf_turns (K : PySem.W.Frag) (w : World) (CL C : Addr) : Sp := fun vs H Q _ => ∃ (v u : V) (cs : List Co) (lf : Lf), vs = [v, u] ∧ ErAt w C H v cs ∧ LfAt CL H u lf ∧ okLw lf ∧ ∀ p us H', Same H H' → H p = none → H' p = some (.lst us) → TpAll H' us ((lturns cs lf).map dLT) → Q (.ref p) H'
/-- all leaves with corrections carried out -/
inductive CarAll (cs : List Co) : List Lf → List Lf → Prop
  | nil : CarAll cs [] []
  | cons {a b : Lf} {r s : List Lf} (h : Car cs a b) (t : CarAll cs r s) : CarAll cs (a :: r) (b :: s)
theorem CarAll.snoc {cs : List Co} : ∀ {r s : List Lf} {a b : Lf}, CarAll cs r s → Car cs a b → CarAll cs (r ++ [a]) (s ++ [b])
  | _, _, _, _, .nil, h => .cons h .nil
  | _, _, _, _, .cons k t, h => .cons k (t.snoc h)
theorem CarAll.len {cs : List Co} : ∀ {r s : List Lf}, CarAll cs r s → s.length = r.length
  | _, _, .nil => rfl
  | _, _, .cons _ t => congrArg (· + 1) t.len
theorem CarAll.labels {cs : List Co} : ∀ {r s : List Lf}, CarAll cs r s → s.map Lf.L = r.map Lf.L
  | _, _, .nil => rfl
  | _, _, .cons h t => by rw [List.map_cons, List.map_cons, h.1, t.labels]
theorem CarAll.mem {cs : List Co} : ∀ {r s : List Lf}, CarAll cs r s → ∀ b ∈ s, ∃ a ∈ r, Car cs a b
  | _, _, .nil, _, h => by cases h
  | _, _, .cons h t, b, hb => by
    rcases List.mem_cons.mp hb with rfl | hb
    · exact ⟨_, List.mem_cons_self .., h⟩
    · obtain ⟨a, ha, k⟩ := t.mem b hb
      exact ⟨a, List.mem_cons_of_mem _ ha, k⟩
theorem CarAll.ok {cs : List Co} {r s : List Lf} (h : CarAll cs r s) (ok : okBw r) : okBw s := by
  refine ⟨by rw [h.len]; exact ok.1, fun b hb => ?_, ?_⟩
  · obtain ⟨a, _, k⟩ := h.mem b hb
    exact k.2.2.2.1
  · have p := ok.2.2
    rw [← List.pairwise_map (f := Lf.L) (R := fun a b => HT.lexLt a b = true)] at p ⊢
    rw [h.labels]
    exact p
def sp_Errata_call (K : PySem.W.Frag) (w : World) (CL CB C : Addr) : Sp := fun vs H Q _ => ∃ (v u : V) (cs : List Co) (bk : List Lf), vs = [v, u] ∧ ErAt w C H v cs ∧ BkAt CL CB H u bk ∧ okBw bk ∧ (∀ l ∈ bk, l.pen.length ≤ 90000) ∧ ∀ u' bk' H', Same H H' → BkAt CL CB H' u' bk' → okBw bk' → CarAllX cs bk bk' → Q u' H'
/-- lists of corrections -/
inductive ErAll (w : World) (C : Addr) (H : Hp) : List V → List (List Co) → Prop
  | nil : ErAll w C H [] []
  | cons {v : V} {vs : List V} {cs : List Co} {css : List (List Co)} (h : ErAt w C H v cs) (r : ErAll w C H vs css) : ErAll w C H (v :: vs) (cs :: css)
def sp_can_say (K : PySem.W.Frag) (w : World) (C : Addr) : Sp := fun vs H Q _ => ∃ (a : Addr) (us : List V) (pv : V) (css : List (List Co)) (q : PL) (z : Str), vs = [.ref a, pv, .int q.2.1, .int q.2.2, .str z] ∧ Seq K H a us ∧ ErAll w C H us css ∧ SmallCs css ∧ IP K H pv q.1 ∧ okP q.1 ∧ Wd z ∧ ∀ p zs H', Same H H' → H' p = some (.tup (zs.map V.str)) → zs.Perm (reachL css q z) → sortedS zs = true → Q (.ref p) H'
def sp_token (K : PySem.W.Frag) : Sp := fun vs H Q _ => ∃ (a : Addr) (m : Int), vs = [.ref a, .int m] ∧ Src H a ∧ 1 ≤ m ∧ m ≤ 20 ∧ ∀ z H', Src H' a → But a H H' → Wd z → Q (.str z) H'
def sp_other (K : PySem.W.Frag) : Sp := fun vs H Q _ => ∃ z : Str, vs = [.str z] ∧ Wd z ∧ ∀ y : Str, Wd y → z ≠ y → Q (.str y) H
def sp_label (K : PySem.W.Frag) : Sp := fun vs H Q _ => ∃ a : Addr, vs = [.ref a] ∧ Src H a ∧ ∀ p (L : List Int) H', Src H' a → But a H H' → H' p = some (.tup (L.map V.int)) → okL L → Q (.ref p) H'
/-- a pool of tokens -/
def PoolOk (zs : List Str) : Prop := (∀ z ∈ zs, Wd z) ∧ 2 ≤ zs.length ∧ zs.length ≤ 9 ∧ zs.Nodup
def sp_tokens_pool (K : PySem.W.Frag) : Sp := fun vs H Q _ => ∃ (a : Addr) (m : Int), vs = [.ref a, .int m] ∧ Src H a ∧ 2 ≤ m ∧ m ≤ 8 ∧ ∀ p zs H', Src H' a → But a H H' → H p = none → H' p = some (.lst (zs.map V.str)) → PoolOk zs → Q (.ref p) H'
def sp_any_spot (K : PySem.W.Frag) : Sp := fun vs H Q _ => ∃ a : Addr, vs = [.ref a] ∧ Src H a ∧ ∀ v q H', Src H' a → But a H H' → Tp H' v (dQ q) → okQ q → Q v H'
def sp_lone (K : PySem.W.Frag) : Sp := fun vs H Q _ => ∃ (v : V) (q : PL) (z : Str), vs = [v, .str z] ∧ Tp H v (dQ q) ∧ okQ q ∧ Wd z ∧ ∀ p us H', Same H H' → H p = none → H' p = some (.lst us) → TpAll H' us [dLf (lone q z)] → Q (.ref p) H'
def sp_chain (K : PySem.W.Frag) : Sp := fun vs H Q _ => ∃ (a : Addr) (us : List V) (cs : List Co) (v : V) (q : PL) (z : Str), vs = [.ref a, v, .str z] ∧ H a = some (.lst us) ∧ CsAt H us cs ∧ Tp H v (dQ q) ∧ okQ q ∧ ∀ H', Same H H' → Q (.str (chain cs q z)) H'
def sp_book (K : PySem.W.Frag) (C CB : Addr) : Sp := fun vs H Q _ => ∃ (a : Addr) (us : List V) (bk : List Lf) (n : Nat), vs = [.ref a] ∧ H a = some (.lst us) ∧ TpAll H us (bk.map dLp) ∧ GBk n bk ∧ n ≤ 500 ∧ ∀ v H', Same H H' → BkAt C CB H' v bk → Q v H'
theorem CarAllX.all {cs : List Co} : ∀ {r s : List Lf}, CarAllX cs r s → CarAll cs r s
  | _, _, .nil => .nil
  | _, _, .cons h t => .cons h.1 t.all
def sp_law_is_integer (K : PySem.W.Frag) : Sp := fun vs H Q _ => ∃ i : Int, vs = [.int i] ∧ Q (.bl true) H
def sp_deep_tuple (K : PySem.W.Frag) (n : Nat) : Sp := fun vs H Q _ => ∃ (x : V) (d : PyData), vs = [x] ∧ Dp K H x d ∧ Pd n d ∧ ∀ H', Same H H' → Q (.bl true) H'
def sp_leaves_in (K : PySem.W.Frag) (C CB : Addr) : Sp := fun vs H Q _ => ∃ (v : V) (bk : List Lf), vs = [v] ∧ BkAt C CB H v bk ∧ ∀ p us H', Same H H' → H' p = some (.lst us) → TpAll H' us (bk.map dLp) → Q (.ref p) H'
def sp_is_book (K : PySem.W.Frag) (C CB : Addr) : Sp := fun vs H Q _ => ∃ (v : V) (l : Addr) (us : List V) (bk : List Lf) (n : Nat), vs = [v, .ref l] ∧ BkAt C CB H v bk ∧ H l = some (.lst us) ∧ TpAll H us (bk.map dLp) ∧ GBk n bk ∧ n ≤ 500 ∧ ∀ H', Same H H' → Q (.bl true) H'
def sp_same (K : PySem.W.Frag) (C CB : Addr) : Sp := fun vs H Q _ => ∃ (v : V) (l : Addr) (us : List V) (bk : List Lf) (n : Nat), vs = [v, .ref l] ∧ BkAt C CB H v bk ∧ H l = some (.lst us) ∧ TpAll H us (bk.map dLp) ∧ GBk n bk ∧ n ≤ 500 ∧ ∀ H', Same H H' → Q (.bl true) H'
def sp_paper_row (K : PySem.W.Frag) : Sp := fun vs H Q _ => ∃ (a b : Addr) (zs : List Str), vs = [.ref a, .ref b] ∧ Src H a ∧ b ≠ a ∧ H b = some (.lst (zs.map V.str)) ∧ PoolOk zs ∧ ∀ y H', Src H' a → But a H H' → rowB y = true → Asc y → Q (.str y) H'
def sp_side (K : PySem.W.Frag) : Sp := fun vs H Q _ => ∃ (a b : Addr) (zs : List Str) (l : Int), vs = [.ref a, .ref b, .int l] ∧ Src H a ∧ b ≠ a ∧ H b = some (.lst (zs.map V.str)) ∧ PoolOk zs ∧ (l = 0 ∨ l = 1) ∧ ∀ p ys H', Src H' a → But a H H' → H' p = some (.tup (ys.map V.str)) → rowsB l.toNat ys = true → (∀ y ∈ ys, Asc y) → Q (.ref p) H'
def sp_pen (K : PySem.W.Frag) : Sp := fun vs H Q _ => ∃ (a s b f k : Addr) (zs : List Str) (lf : Lf), vs = [.ref a, .ref s, .ref b] ∧ Src H a ∧ b ≠ a ∧ s ≠ a ∧ H b = some (.lst (zs.map V.str)) ∧ PoolOk zs ∧ H s = some (.lst [.ref f, .ref k]) ∧ RwAt H f k lf ∧ ∀ p us ss H', Src H' a → But a H H' → H' p = some (.tup us) → TpAll H' us (ss.map dSk) → okPen lf ss → (ss.Pairwise fun x y => ltP3 x.1 y.1 = true) → (∀ x ∈ ss, Wd x.2) → ss.length ≤ 3 → Q (.ref p) H'
def sp_paper (K : PySem.W.Frag) : Sp := fun vs H Q _ => ∃ (a b : Addr) (zs : List Str) (m : Int), vs = [.ref a, .int m, .ref b] ∧ Src H a ∧ b ≠ a ∧ H b = some (.lst (zs.map V.str)) ∧ PoolOk zs ∧ 0 ≤ m ∧ m ≤ 3 ∧ ∀ p us bk H', Src H' a → But a H H' → H p = none → H' p = some (.lst us) → TpAll H' us (bk.map dLp) → GBk 3 bk → Q (.ref p) H'
def sp_spots (K : PySem.W.Frag) (w : World) : Sp := fun vs H Q _ => ∃ (a : Addr) (us : List V) (bk : List Lf) (n : Nat), vs = [.ref a] ∧ H a = some (.lst us) ∧ TpAll H us (bk.map dLp) ∧ GBk n bk ∧ ∀ p H', Same H H' → H p = none → MpAt w H' p (prF bk) 3000 → Q (.ref p) H'
def sp_pens (K : PySem.W.Frag) (w : World) : Sp := fun vs H Q _ => ∃ (a : Addr) (us : List V) (bk : List Lf), vs = [.ref a] ∧ H a = some (.lst us) ∧ TpAll H us (bk.map dLp) ∧ GBk 3 bk ∧ ∀ p H', Same H H' → H p = none → MpAt w H' p (peF bk) 9 → Q (.ref p) H'
def sp_says (K : PySem.W.Frag) (w : World) : Sp := fun vs H Q _ => ∃ (s g : Addr) (v : V) (q : PL) (f h : MF) (n m : Nat) (z : Str), vs = [.ref s, .ref g, v] ∧ MpAt w H s f n ∧ MpAt w H g h m ∧ Tp H v (dQ q) ∧ f q = some z ∧ ∀ H', Same H H' → Q (.str ((h q).getD z)) H'
def sp_carry (K : PySem.W.Frag) (w : World) : Sp := fun vs H Q _ => ∃ (s g : Addr) (v : V) (c : Co) (f h : MF) (n m : Nat), vs = [.ref s, .ref g, v] ∧ s ≠ g ∧ MpAt w H s f n ∧ MpAt w H g h m ∧ m ≤ 5000 ∧ Tp H v (dC c) ∧ ∀ H', But g H H' → MpAt w H' g (carF f h c) (m + 1) → Q .non H'
def sp_after (K : PySem.W.Frag) (w : World) : Sp := fun vs H Q _ => ∃ (a g : Addr) (us : List V) (bk : List Lf) (h : MF) (n m : Nat), vs = [.ref a, .ref g] ∧ H a = some (.lst us) ∧ TpAll H us (bk.map dLp) ∧ GBk n bk ∧ MpAt w H g h m ∧ m ≤ 5000 ∧ ∀ p us' bk' H', Same H H' → H p = none → H' p = some (.lst us') → TpAll H' us' (bk'.map dLp) → AftAll h bk bk' → (∀ l ∈ bk', l.pen.length ≤ m) → Q (.ref p) H'
def sp_spot (K : PySem.W.Frag) : Sp := fun vs H Q _ => ∃ (a b : Addr) (us : List V) (qs : List PL), vs = [.ref a, .ref b] ∧ Src H a ∧ b ≠ a ∧ H b = some (.lst us) ∧ TpAll H us (qs.map dQ) ∧ (∀ q ∈ qs, okQ q) ∧ qs.length ≤ 3000 ∧ ∀ v q H', Src H' a → But a H H' → Tp H' v (dQ q) → okQ q → Q v H'
def sp_correction (K : PySem.W.Frag) (w : World) : Sp := fun vs H Q _ => ∃ (a b s g c : Addr) (us : List V) (qs : List PL) (zs : List Str) (f h : MF) (n m : Nat), vs = [.ref a, .ref b, .ref s, .ref g, .ref c] ∧ Src H a ∧ b ≠ a ∧ s ≠ a ∧ g ≠ a ∧ c ≠ a ∧ H b = some (.lst us) ∧ TpAll H us (qs.map dQ) ∧ (∀ q ∈ qs, okQ q) ∧ qs.length ≤ 3000 ∧ MpAt w H s f n ∧ MpAt w H g h m ∧ (∀ q z, f q = some z → Wd z) ∧ (∀ q z, h q = some z → Wd z) ∧ H c = some (.lst (zs.map V.str)) ∧ PoolOk zs ∧ ∀ v x H', Src H' a → But a H H' → Tp H' v (dC x) → okC x → Q v H'
def sp_second (K : PySem.W.Frag) : Sp := fun vs H Q _ => ∃ (a l b : Addr) (us : List V) (bk : List Lf) (zs : List Str) (n : Nat), vs = [.ref a, .ref l, .ref b] ∧ Src H a ∧ b ≠ a ∧ l ≠ a ∧ H l = some (.lst us) ∧ TpAll H us (bk.map dLp) ∧ GBk n bk ∧ H b = some (.lst (zs.map V.str)) ∧ PoolOk zs ∧ ∀ p us' bk' H', Src H' a → But a H H' → H p = none → H' p = some (.lst us') → TpAll H' us' (bk'.map dLp) → GBk 3 bk' → Q (.ref p) H'
def sp_filed_on (K : PySem.W.Frag) (w : World) (CL CB C : Addr) : Sp := fun vs H Q _ => ∃ (v : V) (a l : Addr) (us : List V) (cs : List Co) (ls : List V) (bk : List Lf), vs = [v, .ref a, .ref l] ∧ ErAt w C H v cs ∧ H a = some (.lst us) ∧ CsAt H us cs ∧ H l = some (.lst ls) ∧ TpAll H ls (bk.map dLp) ∧ GBk 3 bk ∧ ∀ H', Same H H' → Q (.bl true) H'
def sp_law (K : PySem.W.Frag) : Sp := fun vs H Q _ => ∃ (a : Addr) (ns : List Int), vs = [.ref a] ∧ SqL K H a (ns.map V.int) ∧ ns.length ≤ 63 ∧ ∀ H', Q (.bl true) H'
/-! ### corrections carried out twice -/
theorem fold_wd {f : MF} : ∀ {cs : List Co} {g : MF}, (∀ c ∈ cs, okC c) → (∀ q z, g q = some z → Wd z) → ∀ q z, cs.foldl (carF f) g q = some z → Wd z
  | [], _, _, hg => hg
  | c :: r, g, hc, hg => by
    refine fold_wd (cs := r) (g := carF f g c) (fun x hx => hc x (List.mem_cons_of_mem _ hx)) fun q z h => ?_
    unfold carF at h
    split at h
    · have h : (if q = c.pl then some c.n else g q) = some z := h
      by_cases e : q = c.pl
      · rw [if_pos e] at h
        injection h with h
        rw [← h]
        exact (hc c (List.mem_cons_self ..)).2.2.2.2.1
      · rw [if_neg e] at h
        exact hg q z h
    · exact hg q z h
theorem gbk_car {n m : Nat} {cs : List Co} {bk bk1 : List Lf} (gb : GBk n bk) (car : CarAllX cs bk bk1) (ok1 : okBw bk1) {g : MF} (rel : PenRel g bk1) (wd : ∀ q z, g q = some z → Wd z) (lb : ∀ l ∈ bk1, l.pen.length ≤ m) : GBk m bk1 := by
  refine ⟨by rw [car.all.len]; exact gb.1, ok1.2.2, fun l hl => ⟨⟨ok1.2.1 l hl, ?_, ?_, fun s hs => ?_⟩, lb l hl⟩⟩
  · obtain ⟨a, ha, c, _⟩ := car.mem l hl
    rw [c.2.1]
    exact (gb.2.2 a ha).1.2.1
  · obtain ⟨a, ha, c, _⟩ := car.mem l hl
    rw [c.2.2.1]
    exact (gb.2.2 a ha).1.2.2.1
  · have h1 := penAt_of (pw_nodup (ok1.2.1 l hl).2.2.2.2) hs
    rw [rel l hl] at h1
    exact wd _ _ h1
theorem aft_shift {cs : List Co} {g : MF} : ∀ {r s t : List Lf}, CarAllX cs r s → AftAll g r t → AftAll g s t
  | _, _, _, .nil, .nil => .nil
  | _, _, _, .cons ⟨c, _⟩ k, .cons ⟨e1, e2, e3, e4, e5⟩ u => .cons ⟨by rw [e1, c.1], by rw [e2, c.2.1], by rw [e3, c.2.2.1], e4, fun p => by rw [e5 p, c.1]⟩ (aft_shift k u)
/-- all but the dict at G stands -/
def RawK (w : World) (G : Addr) (H H' : Hp) : Prop := ∀ q o, H q = some o → (∀ kvs, o ≠ rawN w G kvs) → H' q = some o
theorem RawK.of {w : World} {G : Addr} {H H' : Hp} {kvs : List NE} (e : H G = some (rawN w G kvs)) (b : But G H H') : RawK w G H H' := fun q o h n => b q o (fun z => by
  rw [z, e] at h
  exact n kvs (Option.some.inj h).symm) h
theorem RawK.tup {w : World} {G : Addr} {H H' : Hp} (k : RawK w G H H') {c : Addr} {ys : List V} (h : H c = some (.tup ys)) : H' c = some (.tup ys) := k c _ h fun _ z => rawN_net z.symm
theorem LfAt.raw {w : World} {G : Addr} {C : Addr} {H H' : Hp} {v : V} {lf : Lf} (k : RawK w G H H') (h : LfAt C H v lf) : LfAt C H' v lf := by
  obtain ⟨x, dx, l, f, b, p, s, ev, h1, h2, h3, h4, h5, o6, h6⟩ := h
  exact ⟨x, dx, l, f, b, p, s, ev, k _ _ h1 (fun _ z => by unfold rawN at z; cases z), k.tup h2, k.tup h3, k.tup h4, h5.tups fun _ _ e => k.tup e, o6, k _ _ h6 (fun _ z => by unfold rawN at z; cases z)⟩
theorem LfAll.raw {w : World} {G : Addr} {C : Addr} {H H' : Hp} (k : RawK w G H H') : ∀ {vs : List V} {ls : List Lf}, LfAll C H vs ls → LfAll C H' vs ls
  | _, _, .nil => .nil
  | _, _, .cons h r => .cons (h.raw k) (LfAll.raw k r)
theorem BkAt.raw {w : World} {G : Addr} {C CB : Addr} {H H' : Hp} {v : V} {bk : List Lf} (k : RawK w G H H') (h : BkAt C CB H v bk) : BkAt C CB H' v bk := by
  obtain ⟨x, dx, l, s, vs, ev, h1, h2, h3, h4, h5⟩ := h
  exact ⟨x, dx, l, s, vs, ev, k _ _ h1 (fun _ z => by unfold rawN at z; cases z), k.tup h2, h3.raw k, k _ _ h4 (fun _ z => by unfold rawN at z; cases z), h5⟩
theorem TpAll.tups9 {H H' : Hp} (k : ∀ c ys, H c = some (.tup ys) → H' c = some (.tup ys)) : ∀ {us : List V} {ds : List PyData}, TpAll H us ds → TpAll H' us ds
  | _, _, .nil => .nil
  | _, _, .cons h r => .cons (h.tups k) (TpAll.tups9 k r)
theorem MpAt.raw {w : World} {F G : Addr} {H H' : Hp} {f : MF} {n : Nat} (FG : F ≠ G) (bt : But G H H') (k : ∀ c ys, H c = some (.tup ys) → H' c = some (.tup ys)) (h : MpAt w H F f n) : MpAt w H' F f n := by
  obtain ⟨ms, dn, tms, r⟩ := h
  refine ⟨ms, ⟨bt _ _ FG dn.1, fun e he => ?_⟩, fun e he => (tms e he).tups k, r⟩
  obtain ⟨d, h1, h2⟩ := dn.2 e he
  exact ⟨d, h1.tups k, h2⟩
theorem ok_is_integer (T : Tab K mg) : FnOk P w K mg base CX0 1 T.f_is_integer T.d_is_integer ["thing"] (sp_is_integer K) := by
  refine T.F_is_integer.ok sc_is_integer (fun vs H Q E h => ?_) (fun cdv A outer s H vs Q E hr h => ?_)
  · obtain ⟨v, d, rfl, _⟩ := h
    rfl
  · obtain ⟨v, d, rfl, hd, q⟩ := h
    refine ⟨_, (pss_one (ps_ret (pe_and (pe_callB call_isi (by rfl) T.m_isinstance (by decide +kernel) (pa_cons (pv 0) (pa_cons (pe_bltn (v := .ty "int") (u := .type "int") (by rfl) T.m_int (by decide +kernel) rfl) pa_nil))) (pe_one (pe_not (pe_callB call_isi (by rfl) T.m_isinstance (by decide +kernel) (pa_cons (pv 0) (pa_cons (pe_bltn (v := .ty "bool") (u := .type "bool") (by rfl) T.m_bool (by decide +kernel) rfl) pa_nil)))))))), ?_⟩
    cases hd with
    | non => exact ⟨_, rfl, _, _, _, _, _, rfl, .ty "int", .base .non, kit_ty (r := false) (by decide +kernel), false, rfl, q⟩
    | bl b =>
      refine ⟨_, rfl, _, _, _, _, _, rfl, .ty "int", .base (.bl b), kit_ty (by decide +kernel), true, rfl, iteT ?_⟩
      exact ⟨_, rfl, _, _, _, _, _, rfl, .ty "bool", .base (.bl b), kit_ty (r := true) (by decide +kernel), true, rfl, q⟩
    | int i =>
      refine ⟨_, rfl, _, _, _, _, _, rfl, .ty "int", .base (.int i), kit_ty (by decide +kernel), true, rfl, iteT ?_⟩
      exact ⟨_, rfl, _, _, _, _, _, rfl, .ty "bool", .base (.int i), kit_ty (r := false) (by decide +kernel), false, rfl, q⟩
    | str z => exact ⟨_, rfl, _, _, _, _, _, rfl, .ty "int", .base (.str z), kit_ty (r := false) (by decide +kernel), false, rfl, q⟩
    | lst h _ => exact ⟨_, rfl, _, _, _, _, _, rfl, .ty "int", ty_L h, kit_ty (r := false) (by decide +kernel), false, rfl, q⟩
    | tup h _ => exact ⟨_, rfl, _, _, _, _, _, rfl, .ty "int", ty_T h, kit_ty (r := false) (by decide +kernel), false, rfl, q⟩
theorem ok_is_tuple (T : Tab K mg) : FnOk P w K mg base CX0 1 T.f_is_tuple T.d_is_tuple ["thing"] (sp_is_tuple K) := by
  refine T.F_is_tuple.ok sc_is_tuple (fun vs H Q E h => ?_) (fun cdv A outer s H vs Q E hr h => ?_)
  · obtain ⟨v, d, rfl, _⟩ := h
    rfl
  · obtain ⟨v, d, rfl, hq⟩ := h
    refine ⟨_, (pss_one (ps_ret (pe_callB call_isiT (by rfl) T.m_isinstance (by decide +kernel) (pa_cons (pv 0) (pa_cons (pe_tup (pa_cons (pe_bltn (v := .ty "tuple") (u := .type "tuple") (by rfl) T.m_tuple (by decide +kernel) rfl) (pa_cons (pe_bltn (v := .ty "list") (u := .type "list") (by rfl) T.m_list (by decide +kernel) rfl) pa_nil))) pa_nil))))), ?_⟩
    refine ⟨_, rfl, (by show 2 ≤ sizeLine; decide), fun tp ntp => ?_⟩
    have s1 := same_upd (o := .tup [.ty "tuple", .ty "list"]) ntp
    rcases hq with ⟨hd, q⟩ | ⟨a, xs, rfl, hs, q⟩
    · have q1 := q _ s1
      cases hd with
      | lst h _ => exact ⟨_, tp, _, _, _, true, rfl, upd_same, .cons (.ty "tuple") (.cons (.ty "list") .nil), ty_L (s1.seq h), kit2_L, q1⟩
      | tup h _ => exact ⟨_, tp, _, _, _, true, rfl, upd_same, .cons (.ty "tuple") (.cons (.ty "list") .nil), ty_T (same_seqT s1 h), kit2_T, q1⟩
      | non => exact ⟨_, tp, _, _, _, false, rfl, upd_same, .cons (.ty "tuple") (.cons (.ty "list") .nil), .base .non, kit2_no (by decide +kernel) (by decide +kernel), q1⟩
      | bl b => exact ⟨_, tp, _, _, _, false, rfl, upd_same, .cons (.ty "tuple") (.cons (.ty "list") .nil), .base (.bl b), kit2_no (by decide +kernel) (by decide +kernel), q1⟩
      | int i => exact ⟨_, tp, _, _, _, false, rfl, upd_same, .cons (.ty "tuple") (.cons (.ty "list") .nil), .base (.int i), kit2_no (by decide +kernel) (by decide +kernel), q1⟩
      | str z => exact ⟨_, tp, _, _, _, false, rfl, upd_same, .cons (.ty "tuple") (.cons (.ty "list") .nil), .base (.str z), kit2_no (by decide +kernel) (by decide +kernel), q1⟩
    · have q1 := q _ s1
      rcases hs with h | h
      · exact ⟨_, tp, _, _, _, true, rfl, upd_same, .cons (.ty "tuple") (.cons (.ty "list") .nil), ty_L (s1.seq h), kit2_L, q1⟩
      · exact ⟨_, tp, _, _, _, true, rfl, upd_same, .cons (.ty "tuple") (.cons (.ty "list") .nil), ty_T (same_seqT s1 h), kit2_T, q1⟩
theorem ok_Leaf_side_rows (T : Tab K mg) : FnOk P w K mg base CX0 1 T.f_Leaf_side_rows T.d_Leaf_side_rows ["self", "side"] (sp_Leaf_side_rows K T.C_Leaf) := by
  refine T.F_Leaf_side_rows.ok sc_Leaf_side_rows (fun vs H Q E h => ?_) (fun cdv A outer s H vs Q E hr h => ?_)
  · obtain ⟨v, s, lf, rfl, _⟩ := h
    rfl
  · obtain ⟨v, s, lf, rfl, ⟨x, dx, l, f, b, p, st, rfl, hx, hl, hf, hb, hp, hs⟩, q⟩ := h
    refine ⟨_, (pss_one (ps_ret (pe_ifExp (pt_cmpR op_eq (pv 1) pe_int (nomark _)) (pe_fld (pv 0) rfl) (pe_fld (pv 0) rfl)))), ?_⟩
    refine ⟨_, rfl, rfl, _, rfl, ite2 (fun e => ?_) (fun e => ?_)⟩
    · have e1 : s = 1 := V.int.inj (of_decide_eq_true e)
      exact ⟨_, rfl, x, _, dx, _, _, rfl, hx, T.cl_Leaf, T.na_Leaf_back, fLf_back, q b (by unfold sideR; rw [if_pos e1]; exact hb)⟩
    · have e1 : ¬ s = 1 := fun z => e (decide_eq_true (congrArg V.int z))
      exact ⟨_, rfl, x, _, dx, _, _, rfl, hx, T.cl_Leaf, T.na_Leaf_front, fLf_front, q f (by unfold sideR; rw [if_neg e1]; exact hf)⟩
theorem ok_is_token (T : Tab K mg) : FnOk P w K mg base CX0 1 T.f_is_token T.d_is_token ["thing"] (sp_is_token K) := by
  refine T.F_is_token.ok sc_is_token (fun vs H Q E h => ?_) (fun cdv A outer s H vs Q E hr h => ?_)
  · obtain ⟨z, rfl, _⟩ := h
    rfl
  · obtain ⟨z, rfl, hz, q⟩ := h
    refine ⟨_, (pss_one (ps_ret (pe_and (pe_callB call_isi (by rfl) T.m_isinstance (by decide +kernel) (pa_cons (pv 0) (pa_cons (pe_bltn (v := .ty "str") (u := .type "str") (by rfl) T.m_str (by decide +kernel) rfl) pa_nil))) (pe_and (pe_chain op_le op_le pe_int (pe_callB call_len_str (by rfl) T.m_len PySem.boot_len (pa_cons (pv 0) pa_nil)) (pe_glob (v := .int 20) (by rfl) T.c_MOST_SIGNS ⟨_, rfl⟩)) (pe_one (pe_cmpR op_notIn_sign pe_str (pv 0) rfl)))))), ?_⟩
    refine ⟨_, rfl, _, _, _, _, _, rfl, .ty "str", .base (.str z), kit_ty (by decide +kernel), true, rfl, iteT ?_⟩
    have no : ∀ (P : Prop) [Decidable P], tokB z = decide P → ¬ P → Q (.bl false) H := fun P _ e n => by rw [e, decide_eq_false n] at q; exact q
    have tk : tokB z = decide (1 ≤ z.length ∧ z.length ≤ 20 ∧ 32 ∉ z.cps.toList) := by
      unfold tokB
      rw [Bool.eq_iff_iff]
      simp only [Bool.and_eq_true, decide_eq_true_eq, and_assoc]
    refine ⟨_, rfl, z, rfl, Nat.le_of_lt (small1000 (by omega)), _, _, rfl, rfl, _, rfl, ite2 (fun e => ?_) (fun e => ?_)⟩
    · have e1 : (1 : Int) ≤ z.length := of_decide_eq_true e
      refine ⟨_, _, rfl, rfl, _, rfl, ite2 (fun e2 => ?_) (fun e2 => ?_)⟩
      · have e2' : (z.length : Int) ≤ 20 := of_decide_eq_true e2
        refine ⟨_, rfl, 32, z, (by rfl), rfl, ?_⟩
        rw [tk] at q
        have ee : (!decide (32 ∈ z.cps.toList)) = decide (1 ≤ z.length ∧ z.length ≤ 20 ∧ 32 ∉ z.cps.toList) := by
          rw [← decide_not]
          exact decide_eq_decide.mpr ⟨fun h => ⟨by omega, by omega, h⟩, fun h => h.2.2⟩
        rw [ee]
        exact q
      · exact no _ tk fun h => e2 (decide_eq_true (by have := h.2.1; omega))
    · exact ⟨_, rfl, iteF (no _ tk fun h => e (decide_eq_true (by have := h.1; omega)))⟩
theorem ok_is_place (T : Tab K mg) : FnOk P w K mg base CX0 1 T.f_is_place T.d_is_place ["front", "back", "place"] (sp_is_place K) := by
  refine T.F_is_place.ok sc_is_place (fun vs H Q E h => ?_) (fun cdv A outer s H vs Q E hr h => ?_)
  · obtain ⟨f, b, a, lf, p, rfl, _⟩ := h
    rfl
  · obtain ⟨f, b, a, lf, p, rfl, ⟨hf, hb, r1, r2⟩, ha, q⟩ := h
    refine ⟨_, (pss_cons (ps_asg (pv 2) (pg_tup (by rfl) (pgs_cons (pg_name (i := 3) sc_is_place.nd rfl (.inl rfl)) (pgs_cons (pg_name (i := 4) sc_is_place.nd rfl (.inl rfl)) (pgs_cons (pg_name (i := 5) sc_is_place.nd rfl (.inl rfl)) pgs_nil)))))
      (C8.pss_cut (ps_set (i := 6) sc_is_place.nd rfl (.inl rfl) (pe_ifExp (pt_cmpR op_eq (pv 3) pe_int (nomark _)) (pv 1) (pv 0)))
      (pss_one (ps_ret (pe_and (pe_cmpR op_in_seq (pv 3) (pe_tup (pa_cons pe_int (pa_cons pe_int pa_nil))) (by rfl)) (pe_and (pe_chain op_le op_lt pe_int (pv 4) (pe_callB call_len_seq (by rfl) T.m_len PySem.boot_len (pa_cons (pv 6) pa_nil))) (pe_one (pe_chain op_le op_lt pe_int (pv 5) (pe_callB call_len_seq (by rfl) T.m_len PySem.boot_len (pa_cons (pe_split (pe_ix ix_tup (pv 6) (pv 4) (fun _ _ => rfl)) pe_str) pa_nil)))))))))), ?_⟩
    refine ⟨_, rfl, a, _, rfl, .inl (.inl ha), rfl, _, _, rfl, _, _, rfl, _, _, rfl, rfl, ?_⟩
    refine ⟨fun σ' H' => H' = H ∧ ∃ z, σ' = [some (.ref f), some (.ref b), some (.ref a), some (.int p.1), some (.int p.2.1), some (.int p.2.2), some (.ref z)] ∧ H z = some (.tup ((sideR lf p.1).map V.str)), ?_, ?_⟩
    · refine ⟨_, rfl, rfl, _, rfl, ite2 (fun e => ?_) (fun e => ?_)⟩
      · have e1 : p.1 = 1 := V.int.inj (of_decide_eq_true e)
        exact ⟨_, rfl, rfl, b, rfl, by unfold sideR; rw [if_pos e1]; exact hb⟩
      · have e1 : ¬ p.1 = 1 := fun z => e (decide_eq_true (congrArg V.int z))
        exact ⟨_, rfl, rfl, f, rfl, by unfold sideR; rw [if_neg e1]; exact hf⟩
    rintro σ' H' ⟨rfl, z, rfl, hz⟩
    have rb : (sideR lf p.1).length ≤ 12 ∧ ∀ y ∈ sideR lf p.1, y.length ≤ 120 := by
      have go : ∀ {l : Nat} {zs : List Str}, rowsB l zs = true → zs.length ≤ 12 ∧ ∀ y ∈ zs, y.length ≤ 120 := fun {l zs} h => by
        unfold rowsB at h
        simp only [Bool.and_eq_true, decide_eq_true_eq] at h
        refine ⟨h.1.2, fun y hy => ?_⟩
        have := List.all_eq_true.mp h.2 y hy
        unfold rowB at this
        simp only [Bool.and_eq_true, decide_eq_true_eq] at this
        exact this.1.1
      unfold sideR
      split
      · exact go r2
      · exact go r1
    refine ⟨_, rfl, (by show 2 ≤ sizeLine; decide), fun t nt => ?_⟩
    have s1 := same_upd (o := .tup [.int 0, .int 1]) nt
    have hz1 := s1 _ _ hz
    refine ⟨t, _, rfl, .inr (.inl (.inl upd_same)), rfl, rfl, ?_⟩
    have e0 : inV (.int p.1) [.int 0, .int 1] = (decide (p.1 = 0) || decide (p.1 = 1)) := by
      by_cases h0 : p.1 = 0 <;> by_cases h1 : p.1 = 1 <;> (simp [inV, eqV, h0, h1] <;> omega)
    refine ⟨_, rfl, ite2 (fun e => ?_) (fun e => ?_)⟩
    rotate_left
    · have e1 : (decide (p.1 = 0) || decide (p.1 = 1)) = false := by
        rw [← e0]
        cases h : inV (.int p.1) [.int 0, .int 1] with
        | false => rfl
        | true => exact absurd h e
      have := q _ s1
      unfold plB at this
      rw [e1, Bool.false_and] at this
      exact this
    have e1 : (decide (p.1 = 0) || decide (p.1 = 1)) = true := by rw [← e0]; exact e
    have q1 := q
    unfold plB at q1
    rw [e1, Bool.true_and] at q1
    refine ⟨_, rfl, _, _, rfl, rfl, _, rfl, ite2 (fun e2 => ?_) (fun e2 => ?_)⟩
    rotate_left
    · have e3 : ¬ (0 ≤ p.2.1) := fun z => e2 (decide_eq_true z)
      refine ⟨_, rfl, iteF ?_⟩
      have := q1 _ s1
      rw [decide_eq_false (fun z => e3 z.1), Bool.false_and] at this
      exact this
    have e3 := of_decide_eq_true e2
    refine ⟨_, rfl, z, _, rfl, .inr (.inl (.inl hz1)), _, _, rfl, rfl, _, rfl, ite2 (fun e4 => ?_) (fun e4 => ?_)⟩
    rotate_left
    · have e5 : ¬ (p.2.1 < ((sideR lf p.1).length : Int)) := fun z => e4 (decide_eq_true (by rw [List.length_map]; exact z))
      have := q1 _ s1
      rw [decide_eq_false (fun z => e5 z.2), Bool.false_and] at this
      exact this
    have e5 : p.2.1 < ((sideR lf p.1).length : Int) := by
      have := of_decide_eq_true e4
      rwa [List.length_map] at this
    rw [decide_eq_true (show 0 ≤ p.2.1 ∧ p.2.1 < ((sideR lf p.1).length : Int) from ⟨e3, e5⟩), Bool.true_and] at q1
    refine ⟨_, rfl, _, _, rfl, rfl, _, rfl, ite2 (fun e6 => ?_) (fun e6 => ?_)⟩
    rotate_left
    · have e7 : ¬ (0 ≤ p.2.2) := fun z => e6 (decide_eq_true z)
      have := q1 _ s1
      rw [decide_eq_false (fun z => e7 z.1)] at this
      exact this
    have e7 := of_decide_eq_true e6
    obtain ⟨n, hn⟩ := Int.eq_ofNat_of_zero_le e3
    have ln : n < (sideR lf p.1).length := by rw [hn] at e5; exact Int.ofNat_lt.mp e5
    have hy := List.getElem?_eq_getElem ln
    obtain ⟨y, ey⟩ : ∃ y, (sideR lf p.1)[n]? = some y := ⟨_, hy⟩
    have yl := rb.2 y (List.mem_of_getElem? ey)
    refine ⟨_, rfl, _, rfl, z, _, _, _, rfl, rfl, .inl (.inl hz1), (by rw [hn]; exact atI_nat (by rw [List.getElem?_map, ey]; rfl)), ⟨_, rfl⟩, _, _, rfl, rfl, rfl, Nat.le_of_lt (small1000 (by omega)), fun D nD => ?_⟩
    have s2 := s1.trans (same_upd (o := .lst ((Txt.split y " ").map V.str)) nD)
    refine ⟨D, _, rfl, .inl (.inl (.inl upd_same)), _, _, rfl, rfl, ?_⟩
    have eg : (sideR lf p.1).getD p.2.1.toNat ⟨#[]⟩ = y := by
      rw [hn, List.getD_eq_getElem?_getD]
      show ((sideR lf p.1)[n]?).getD _ = y
      rw [ey]
      rfl
    have := q1 _ s2
    rw [eg] at this
    rw [List.length_map]
    have e8 : decide (0 ≤ p.2.2 ∧ p.2.2 < ((toksR y).length : Int)) = decide (p.2.2 < ((Txt.split y " ").length : Int)) := decide_eq_decide.mpr ⟨fun h => h.2, fun h => ⟨e7, h⟩⟩
    rw [e8] at this
    exact this
theorem ok_Book_iter (T : Tab K mg) : InOk P w K mg base 1 T.f_Book_iter T.d_Book_iter ["self"] (sp_Book_iter K T.C_Book) := by
  refine in_ok T.F_Book_iter sc_Book_iter (fun nn vs H Q E h => ?_) (fun cdv A outer s H vs Q E hr h => ?_)
  · obtain ⟨b, dx, l, fs, zs, rfl, _⟩ := h
    rfl
  · obtain ⟨b, dx, l, fs, zs, rfl, hb, hf, hz, q⟩ := h
    refine ⟨_, (pss_one (ps_ret (pe_callB call_iterT (by rfl) T.m_iter (by decide +kernel) (pa_cons (pe_fld (pv 0) rfl) pa_nil)))), ?_⟩
    exact ⟨_, rfl, b, _, dx, fs, _, rfl, hb, T.cl_Book, T.na_Book_leaves, hf, l, zs, rfl, hz, fun it n1 n2 => q it n1 n2⟩
theorem ok_steps (T : Tab K mg) : FnOk P w K mg base CX0 1 T.f_steps T.d_steps ["token", "turns"] (sp_steps K) := by
  refine T.F_steps.ok sc_steps (fun vs H Q E h => ?_) (fun cdv A outer s H vs Q E hr h => ?_)
  · obtain ⟨z, a, us, ts, rfl, _⟩ := h
    rfl
  · obtain ⟨z, a, us, ts, rfl, ha, tu, l6, q⟩ := h
    refine ⟨_, (pss_cons (ps_set (i := 2) sc_steps.nd rfl (.inl rfl) (pe_lst pa_nil))
      (pss_cons (ps_for PassesOwn.never rfl (pi_list (pv 1)) (pg_tup (by rfl) (pgs_cons (pg_name (i := 3) sc_steps.nd rfl (.inl rfl)) (pgs_cons (pg_name (i := 4) sc_steps.nd rfl (.inl rfl)) pgs_nil)))
      (pss_one (ps_if (pt_cmpR op_eq (pv 3) (pv 0) (nomark _))
        (pss_cons (ps_expr (pe_bm PySem.F.plainAttrs_list PySem.F.slot_list_append PySem.F.type_list_append mt_append (pv 2) (pa_cons (pe_tup (pa_cons (pv 3) (pa_cons (pv 4) pa_nil))) pa_nil)))
          (pss_one (ps_set (i := 0) sc_steps.nd rfl (.inl rfl) (pv 4))))
        pss_nil)))
      (pss_one (ps_ret (pv 2))))), ?_⟩
    have lu : us.length = ts.length := by have := tu.len; rwa [List.length_map] at this
    refine ⟨Nat.zero_le _, fun D nD => ?_⟩
    have s0 := same_upd (o := .lst []) nD
    refine ⟨_, rfl, a, rfl, ⟨_, s0.seq ha⟩, for_list (xs := us) (fun i σ' H' => ∃ (y3 y4 : Option V) (z' : Option Str) (ws : List V), σ' = [some (optS z'), some (.ref a), some (.ref D), y3, y4] ∧ Same H H' ∧ H' D = some (.lst ws) ∧ ∃ done : List (Str × Str), TpAll H' ws (done.map dT2) ∧ done.length ≤ i ∧ stepsO ts z = done ++ stepsO (ts.drop i) z') ⟨none, none, z, [], rfl, s0, upd_same, [], .nil, Nat.le_refl _, rfl⟩ (fun i σ' H' _ hh => by obtain ⟨_, _, _, _, _, s, _⟩ := hh; exact s.seq ha) ?_ ?_⟩
    · rintro i x σ' H1 hx ⟨y3, y4, z', ws, rfl, s1, eD, done, td, ld, es⟩
      obtain ⟨d, ed, tx⟩ := tu.get hx
      rw [List.getElem?_map] at ed
      obtain ⟨t, et, rfl⟩ := Option.map_eq_some_iff.mp ed
      have li : i < ts.length := (List.getElem?_eq_some_iff.mp et).1
      obtain ⟨b, rfl, hb⟩ := t2_inv (tx.nl (NL.of s1))
      have dr : ts.drop i = t :: ts.drop (i + 1) := by
        rw [List.drop_eq_getElem_cons li]
        congr 1
        exact (List.getElem?_eq_some_iff.mp et).2
      rw [dr] at es
      refine ⟨b, _, rfl, .inl (.inl hb), rfl, _, _, rfl, _, _, rfl, rfl, ?_⟩
      have no : z' ≠ some t.1 → ∃ y3 y4 z'' ws, [some (optS z'), some (.ref a), some (.ref D), some (.str t.1), some (.str t.2)] = [some (optS z''), some (.ref a), some (.ref D), y3, y4] ∧ Same H H1 ∧ H1 D = some (.lst ws) ∧ ∃ done : List (Str × Str), TpAll H1 ws (done.map dT2) ∧ done.length ≤ i + 1 ∧ stepsO ts z = done ++ stepsO (ts.drop (i + 1)) z'' := fun n => by
        refine ⟨_, _, z', ws, rfl, s1, eD, done, td, by omega, ?_⟩
        rw [es]
        show _ ++ (if z' = some t.1 then _ else _) = _
        rw [if_neg n]
      cases z' with
      | none =>
        refine ⟨_, rfl, _, rfl, rfl, _, rfl, ite2 (fun e => absurd (of_decide_eq_true e) (by intro z; cases z)) (fun _ => ?_)⟩
        exact no (by intro z; cases z)
      | some y =>
        refine ⟨_, rfl, _, rfl, rfl, _, rfl, ite2 (fun e => ?_) (fun e => ?_)⟩
        · have e1 : t.1 = y := by
            have := of_decide_eq_true e
            injection this
          refine ⟨_, rfl, .inl ⟨rfl, _, .inl (.inl eD)⟩, _, rfl, _, rfl, (by show 2 ≤ sizeLine; decide), fun e ne => ?_⟩
          have s2 := same_upd (o := .tup [.str t.1, .str t.2]) ne
          have eD2 := s2 _ _ eD
          have ld2 := td.len
          rw [List.length_map] at ld2
          refine ⟨D, ws, _, rfl, rfl, eD2, small1000 (by omega), _, rfl, ?_⟩
          have m := (NL.refl (upd H1 e (.tup [.str t.1, .str t.2]))).put eD2 (.lst (ws ++ [.ref e]))
          refine ⟨_, _, some t.2, _, rfl, same_put (s1.trans s2) nD _, upd_same, done ++ [t], ?_, by rw [List.length_append]; exact Nat.succ_le_succ ld, ?_⟩
          · rw [List.map_append]
            refine ((td.nl (NL.of s2)).nl m).snoc (Tp.nl m ?_)
            exact .tup upd_same (.cons (.str _) (.cons (.str _) .nil))
          · rw [es]
            show _ ++ (if some y = some t.1 then _ else _) = _
            rw [if_pos (by rw [e1]), List.append_assoc]
            rfl
        · exact no (fun z => e (decide_eq_true (by cases z; rfl)))
    · rintro σ' H1 ⟨y3, y4, z', ws, rfl, s1, eD, done, td, ld, es⟩
      rw [lu, List.drop_length] at es
      refine ⟨_, rfl, ?_⟩
      refine q D ws H1 s1 nD eD ?_
      rw [es]
      show TpAll H1 ws ((done ++ []).map dT2)
      rw [List.append_nil]
      exact td
theorem ok_turns_at_places (T : Tab K mg) : FnOk P w K mg base CX0 1 T.f_turns_at_places T.d_turns_at_places ["corrections"] (sp_turns_at_places K w) := by
  refine T.F_turns_at_places.ok sc_turns_at_places (fun vs H Q E h => ?_) (fun cdv A outer s H vs Q E hr h => ?_)
  · obtain ⟨a, us, cs, rfl, _⟩ := h
    rfl
  · obtain ⟨a, us, cs, rfl, ha, ⟨tu, ok, l60⟩, q⟩ := h
    refine ⟨_, (pss_cons (ps_set (i := 1) sc_turns_at_places.nd rfl (.inl rfl) pe_dnewN)
      (pss_cons (ps_for PassesOwn.never rfl (pi_tup (pv 0)) (pg_tup (by rfl) (pgs_cons (pg_name (i := 2) sc_turns_at_places.nd rfl (.inl rfl)) (pgs_cons (pg_name (i := 3) sc_turns_at_places.nd rfl (.inl rfl)) (pgs_cons (pg_name (i := 4) sc_turns_at_places.nd rfl (.inl rfl)) (pgs_cons (pg_name (i := 5) sc_turns_at_places.nd rfl (.inl rfl)) (pgs_cons (pg_name (i := 6) sc_turns_at_places.nd rfl (.inl rfl)) pgs_nil))))))
      (pss_one (ps_expr (pe_bm PySem.F.plainAttrs_list PySem.F.slot_list_append PySem.F.type_list_append mt_append (pe_nsetd (by have z := hr.units; exact z) (pv 1) (pe_tup (pa_cons (pv 2) (pa_cons (pv 3) (pa_cons (pv 4) pa_nil)))) (pe_lst pa_nil) ⟨rfl, rfl, rfl, rfl⟩) (pa_cons (pe_tup (pa_cons (pv 5) (pa_cons (pv 6) pa_nil))) pa_nil)))))
      (pss_one (ps_ret (pe_frz (pv 1)))))), ?_⟩
    have lu := tu.len
    rw [List.length_map] at lu
    have cw : (cxOf CX0 P w K mg base N_turns_at_places (Str.ofString "_turns_at_places") (defScope s_turns_at_places) T.f_turns_at_places cdv A outer s H E).nox.w = w := rfl
    rw [cw]
    refine fun t nt => ?_
    have s0 := same_upd (o := rawN w t []) nt
    have dn0 : DN w (upd H t (rawN w t [])) t [] := ⟨upd_same, fun _ h => nomatch h⟩
    refine ⟨_, rfl, a, rfl, ⟨_, .inl (.inl (s0 _ _ ha))⟩, for_tup (xs := us) (fun i σ' H' => ∃ (y2 y3 y4 y5 y6 : Option V) (es : List En), σ' = [some (.ref a), some (.ref t), y2, y3, y4, y5, y6] ∧ Same H H' ∧ DN w H' t (kvE es) ∧ EsOk H H' (cs.take i) es i) ⟨none, none, none, none, none, [], rfl, s0, dn0, rfl, Nat.zero_le _, List.nodup_nil, fun _ h => nomatch h⟩ (fun i σ' H' _ hh => by obtain ⟨_, _, _, _, _, _, _, s, _⟩ := hh; exact .inl (.inl (s _ _ ha))) ?_ ?_⟩
    · rintro i x σ' H1 hx ⟨y2, y3, y4, y5, y6, es, rfl, s1, dn, ok_⟩
      obtain ⟨eq_, le_, nl_, hk⟩ := id ok_
      have i60 : i < 60 := by
        have := (List.getElem?_eq_some_iff.mp hx).1
        omega
      obtain ⟨d, ed, tx⟩ := tu.get hx
      rw [List.getElem?_map] at ed
      obtain ⟨c, ec, rfl⟩ := Option.map_eq_some_iff.mp ed
      have tk : cs.take (i + 1) = cs.take i ++ [c] := by rw [List.take_add_one, ec]; rfl
      obtain ⟨b, pv, rfl, hb, hp⟩ := tpC_inv (tx.nl (NL.of s1))
      refine ⟨b, _, rfl, .inl (.inl hb), rfl, _, _, rfl, _, _, rfl, _, _, rfl, _, _, rfl, _, _, rfl, rfl, ?_⟩
      refine ⟨_, rfl, t, kvE es, rfl, dn, _, rfl, _, rfl, _, rfl, (by show 3 ≤ sizeLine; decide), fun kb nkb => ?_⟩
      have s2 := same_upd (o := .tup [pv, .int c.r, .int c.w]) nkb
      have hkb : Tp (upd H1 kb (.tup [pv, .int c.r, .int c.w])) (.ref kb) (dQ c.pl) := .tup upd_same (.cons (hp.nl (NL.of s2)) (.cons (.int _) (.cons (.int _) .nil)))
      generalize upd H1 kb (.tup [pv, .int c.r, .int c.w]) = H2 at s2 hkb
      refine ⟨Nat.zero_le _, fun z nz => ?_⟩
      have s3 := same_upd (o := .lst []) nz
      have hz : upd H2 z (.lst []) z = some (.lst []) := upd_same
      generalize upd H2 z (.lst []) = H3 at s3 hz
      have s23 := s2.trans s3
      have fz : H z = none := none_of (s1.trans s2) nz
      have nk : NKey H3 kb (nkD (dQ c.pl)) := ⟨dQ c.pl, hkb.nl (NL.of s3), rfl, dQ_depth c.pl⟩
      have dn3 := dn.nl (NL.of s23)
      have tz : z ≠ t := fun e => by rw [e, s2 _ _ dn.1] at nz; cases nz
      refine ⟨kvE es, kb, _, rfl, dn3, nk, small1000 (by unfold kvE; rw [List.length_map]; omega), fun v hv => ?_, fun hn => ?_⟩
      · rw [atE] at hv
        obtain ⟨e0, hf, rfl⟩ := Option.map_eq_some_iff.mp hv
        have he0 := List.mem_of_find?_eq_some hf
        have q0 : e0.q = c.pl := by have := List.find?_some hf; simpa using this
        obtain ⟨ok0, fl, hl, ly⟩ := hk e0 he0
        have hl3 := s23 _ _ hl
        refine ⟨.inl ⟨rfl, _, .inl (.inl hl3)⟩, _, rfl, _, rfl, (by show 2 ≤ sizeLine; decide), fun e ne => ?_⟩
        have s4 := same_upd (o := .tup [.str c.o, .str c.n]) ne
        have te : Tp (upd H3 e (.tup [.str c.o, .str c.n])) (.ref e) (dT2 (c.o, c.n)) := .tup upd_same (.cons (.str _) (.cons (.str _) .nil))
        generalize upd H3 e (.tup [.str c.o, .str c.n]) = H4 at s4 te ⊢
        have hl4 := s4 _ _ hl3
        have s14 := s23.trans s4
        have m4 := (NL.refl H4).put hl4 (.lst (e0.us ++ [.ref e]))
        refine ⟨e0.l, e0.us, _, rfl, rfl, hl4, small1000 (by omega), _, _, _, _, _, es.map (addE c.pl (.ref e)), rfl, same_put (s1.trans s14) fl _, ?_, ?_⟩
        · rw [kvE_add]
          exact (dn3.nl (NL.of s4)).nl m4
        · rw [tk]
          exact EsOk.old ok_ he0 q0 s14 m4 te (fun l n => upd_ne n) upd_same
      · have ep : putN (kvE es) (nkD (dQ c.pl)) kb (.ref z) = kvE (es ++ [⟨c.pl, kb, z, []⟩]) := by
          unfold putN
          rw [hn]
          unfold kvE
          rw [List.map_append]
          rfl
        have dn4 := DN.put (v := .ref z) dn3 nk
        have s4 : Same H (upd H3 t (rawN w t (putN (kvE es) (nkD (dQ c.pl)) kb (.ref z)))) := same_put (s1.trans s23) nt _
        have hz4 : upd H3 t (rawN w t (putN (kvE es) (nkD (dQ c.pl)) kb (.ref z))) z = some (.lst []) := by rw [upd_ne tz]; exact hz
        have old4 : ∀ {l : Addr} {o : HO}, l ≠ t → H1 l = some o → upd H3 t (rawN w t (putN (kvE es) (nkD (dQ c.pl)) kb (.ref z))) l = some o := fun {l o} ne e => by rw [upd_ne ne]; exact s23 _ _ e
        have kb4 : Tp (upd H3 t (rawN w t (putN (kvE es) (nkD (dQ c.pl)) kb (.ref z)))) (.ref kb) (dQ c.pl) := (hkb.nl (NL.of s3)).tups fun c ys e => by rw [upd_ne (fun z2 => by rw [z2, dn3.1] at e; exact rawN_net (Option.some.inj e))]; exact e
        rw [ep] at dn4 s4 hz4 old4 kb4 ⊢
        generalize upd H3 t (rawN w t (kvE (es ++ [⟨c.pl, kb, z, []⟩]))) = H4 at dn4 s4 hz4 old4 kb4 ⊢
        refine ⟨.inl ⟨rfl, _, .inl (.inl hz4)⟩, _, rfl, _, rfl, (by show 2 ≤ sizeLine; decide), fun e ne => ?_⟩
        have s5 := same_upd (o := .tup [.str c.o, .str c.n]) ne
        have te : Tp (upd H4 e (.tup [.str c.o, .str c.n])) (.ref e) (dT2 (c.o, c.n)) := .tup upd_same (.cons (.str _) (.cons (.str _) .nil))
        generalize upd H4 e (.tup [.str c.o, .str c.n]) = H5 at s5 te ⊢
        have hz5 := s5 _ _ hz4
        have m5 := (NL.refl H5).put hz5 (.lst [.ref e])
        refine ⟨z, [], _, rfl, rfl, hz5, (by show 0 < sizeLine; decide), _, _, _, _, _, es ++ [⟨c.pl, kb, z, [.ref e]⟩], rfl, same_put (s4.trans s5) fz _, ?_, ?_⟩
        · have : kvE (es ++ [⟨c.pl, kb, z, [.ref e]⟩]) = kvE (es ++ [⟨c.pl, kb, z, []⟩]) := by unfold kvE; rw [List.map_append, List.map_append]; rfl
          rw [this]
          exact (dn4.nl (NL.of s5)).nl m5
        · rw [tk]
          refine EsOk.new ok_ (fun hm => ?_) nz fz (fun {l ys} h => ?_) (fun {q ys} h => ?_) ((kb4.nl (NL.of s5)).nl m5) (te.nl m5) upd_same
          · rw [atE, Option.map_eq_none_iff, List.find?_eq_none] at hn
            rw [← eq_] at hm
            obtain ⟨e1, h1, h2⟩ := List.mem_map.mp hm
            exact hn e1 h1 (decide_eq_true h2)
          · have lt : l ≠ t := fun z2 => by rw [z2, dn.1] at h; exact rawN_ne (Option.some.inj h)
            have lz : l ≠ z := fun z2 => by
              have := s2 _ _ h
              rw [z2, nz] at this
              cases this
            exact ⟨by rw [upd_ne lz]; exact s5 _ _ (old4 lt h), lz⟩
          · have lt : q ≠ t := fun z2 => by rw [z2, dn.1] at h; exact rawN_net (Option.some.inj h)
            have lz : q ≠ z := fun z2 => by
              have := s2 _ _ h
              rw [z2, nz] at this
              cases this
            rw [upd_ne lz]
            exact s5 _ _ (old4 lt h)
    · rintro σ' H1 ⟨y2, y3, y4, y5, y6, es, rfl, s1, dn, ok_⟩
      rw [lu, List.take_length] at ok_
      obtain ⟨eq_, le_, nl_, hk⟩ := ok_
      refine ⟨_, rfl, t :: es.map En.l, ?_⟩
      have lt : ∀ e ∈ es, e.l ≠ t := fun e he z2 => by
        obtain ⟨_, _, h, _⟩ := hk e he
        rw [z2, dn.1] at h
        exact rawN_ne (Option.some.inj h)
      refine frz_all (List.nodup_cons.mpr ⟨fun hm => ?_, nl_⟩) (fun b hb => ?_) fun H2 h1 h2 => ?_
      · obtain ⟨e, he, ee⟩ := List.mem_map.mp hm
        exact lt e he ee
      · rcases List.mem_cons.mp hb with rfl | hb
        · exact ⟨_, dn.1, True.intro⟩
        · obtain ⟨e, he, rfl⟩ := List.mem_map.mp hb
          exact ⟨_, (hk e he).2.2.1, True.intro⟩
      have keep : ∀ {c : Addr} {u : HO}, H1 c = some u → (c = t → False) → (∀ e ∈ es, c ≠ e.l) → H2 c = some u := fun {c u} e n1 n2 => by
        rw [h1 c (fun hm => ?_)]
        · exact e
        · rcases List.mem_cons.mp hm with z2 | hm
          · exact n1 z2
          · obtain ⟨e2, he2, ee⟩ := List.mem_map.mp hm
            exact n2 e2 he2 ee.symm
      have tups : ∀ c ys, H1 c = some (.tup ys) → H2 c = some (.tup ys) := fun c ys e => keep e (fun z2 => by rw [z2, dn.1] at e; exact rawN_net (Option.some.inj e)) fun e2 he2 z2 => by
        have := (hk e2 he2).2.2.1
        rw [← z2, e] at this
        cases this
      refine q t H2 (fun c u e => keep (s1 _ _ e) (fun z2 => by rw [z2, nt] at e; cases e) fun e2 he2 z2 => by
        have := (hk e2 he2).2.1
        rw [← z2, e] at this
        cases this) ⟨es, ⟨?_, fun p hp => ?_⟩, eq_, fun e he => ?_⟩
      · obtain ⟨o, u, e1, e2⟩ := h2 t (List.mem_cons_self ..)
        rw [dn.1] at e1
        cases e1
        exact ⟨o, e2⟩
      · obtain ⟨d, t1, t2⟩ := dn.2 p hp
        exact ⟨d, t1.tups tups, t2⟩
      · obtain ⟨⟨t1, t2⟩, _, t4, _⟩ := hk e he
        refine ⟨⟨t1.tups tups, t2.tups tups⟩, ?_⟩
        obtain ⟨o, u, e1, e2⟩ := h2 e.l (List.mem_cons_of_mem _ (List.mem_map_of_mem he))
        rw [t4] at e1
        cases e1
        exact ⟨o, e2⟩
theorem ok_source (T : Tab K mg) : FnOk P w K mg base CX0 1 T.f_source T.d_source ["_law_script", "_law_k"] (sp_source K) := by
  refine T.F_source.ok sc_source (fun vs H Q E h => ?_) (fun cdv A outer s H vs Q E hr h => ?_)
  · obtain ⟨a, ns, k, rfl, _⟩ := h
    rfl
  · obtain ⟨a, ns, k, rfl, hS, q⟩ := h
    refine ⟨_, (C8.pss_cut (ps_set (i := 2) sc_source.nd rfl (.inl rfl) (pe_ifExp (pt_cmpR op_lt (pv 1) (pe_callB call_len_seq (by rfl) T.m_len PySem.boot_len (pa_cons (pv 0) pa_nil)) (nomark _)) (pe_ix ix_list (pv 0) (pv 1) (fun _ _ => rfl)) (pe_op op_add (pe_op op_mod (pe_callTy call_int1 (by rfl) T.m_int (by decide +kernel) (pa_cons (pe_op op_add (pe_callB (cr_sum rfl) (by rfl) T.m_sum (by decide +kernel) (pa_cons (pe_slice sl_list (pv 0) po_none (po_some pe_int)) pa_nil)) (pe_op op_mul pe_int (pe_callB (cr_sum rfl) (by rfl) T.m_sum (by decide +kernel) (pa_cons (pe_slice sl_list (pv 0) (po_some pe_int) (po_some pe_int)) pa_nil)))) pa_nil)) pe_int) (pe_op op_mul pe_int (pv 1)))))
      (pss_cons (ps_set (i := 3) sc_source.nd rfl (.inl rfl) (pe_callB call_abs (by rfl) T.m_abs (by decide +kernel) (pa_cons (pv 2) pa_nil)))
      (C8.pss_cut (ps_set (i := 4) sc_source.nd rfl (.inl rfl) (pe_ifExp (pt_cmpR op_ge (pv 3) pe_int (nomark _)) (pv 3) pe_int))
      (pss_one (ps_ret (pe_lst (pa_cons (pv 4) (pa_cons (pe_op op_mod (pe_callTy call_int1 (by rfl) T.m_int (by decide +kernel) (pa_cons (pe_op op_add (pe_op op_add (pe_op op_add (pe_op op_mul (pv 3) pe_int) (pe_callTy call_int1 (by rfl) T.m_int (by decide +kernel) (pa_cons (pe_cmpR op_lt (pv 2) pe_int (nomark _)) pa_nil))) (pe_op op_mul pe_int (pv 1))) pe_int) pa_nil)) pe_int) (pa_cons pe_int pa_nil))))))))), ?_⟩
    refine ⟨fun σ' H' => ∃ c : Int, σ' = [some (.ref a), some (.int k), some (.int c), none, none] ∧ Same H H', ?_, ?_⟩
    · refine ⟨_, rfl, _, rfl, _, _, rfl, .inl hS, _, _, rfl, rfl, _, rfl, ite2 (fun e => ?_) (fun e => ?_)⟩
      · have e1 : (k : Int) < ((ns.map V.int).length : Int) := of_decide_eq_true e
        rw [List.length_map] at e1
        have hk : k < ns.length := by omega
        have g : (ns.map V.int)[k]? = some (.int ns[k]) := by
          rw [List.getElem?_map, List.getElem?_eq_getElem hk]
          rfl
        exact ⟨_, rfl, _, rfl, _, _, _, _, rfl, rfl, hS, atI_nat g, _, rfl, Same.refl H⟩
      · refine ⟨_, rfl, 1, rfl, _, _, rfl, hS, fun p1 n1 => ?_⟩
        obtain ⟨m1, c1⟩ := cut_map ns none (some 1)
        rw [c1]
        have s1 : Same H (upd H p1 (.lst (m1.map V.int))) := same_upd n1
        refine ⟨_, m1, rfl, .inl (.inl upd_same), _, rfl, 1, rfl, 2, rfl, _, _, rfl, s1.seq hS, fun p2 n2 => ?_⟩
        obtain ⟨m2, c2⟩ := cut_map ns (some 1) (some 2)
        rw [c2]
        refine ⟨_, m2, rfl, .inl (.inl upd_same), _, _, rfl, rfl, .inl ⟨by decide, by decide⟩, _, _, rfl, rfl, .inl ⟨_, rfl, _, _, rfl, rfl, (by show (0 : Int) < 1000003; decide), _, rfl, _, _, rfl, rfl, .inl ⟨by decide, by decide⟩, _, _, rfl, rfl, _, rfl, s1.trans (same_upd n2)⟩⟩
    · rintro σ' H1 ⟨c, rfl, s1⟩
      refine ⟨_, rfl, _, rfl, ?_⟩
      refine ⟨fun σ' H' => ∃ n g : Int, σ' = [some (.ref a), some (.int k), some (.int c), some (.int n), some (.int g)] ∧ H' = H1, ?_, ?_⟩
      · refine ⟨_, rfl, _, _, rfl, rfl, _, rfl, ite2 (fun e => ?_) (fun e => ?_)⟩
        · exact ⟨_, rfl, _, _, rfl, rfl⟩
        · exact ⟨_, _, rfl, rfl⟩
      · rintro σ' H' ⟨n, g, rfl, rfl⟩
        refine ⟨_, rfl, _, rfl, _, _, rfl, rfl, .inr ⟨by decide, by decide⟩, _, rfl, _, _, rfl, rfl, .inr ⟨_, rfl, _, _, rfl, rfl, _, rfl, _, _, rfl, rfl, .inl ⟨by decide, by decide⟩, _, _, rfl, rfl, _, _, rfl, rfl, .inl ⟨_, rfl, _, _, rfl, rfl, (by show (0 : Int) < 2147483647; decide), ?_⟩⟩⟩
        refine ⟨(by show 3 ≤ sizeLine; decide), fun p np => ?_⟩
        exact q p _ (s1.trans (same_upd np)) (s1.free np) ⟨_, _, _, upd_same⟩
theorem ok_pick (T : Tab K mg) : FnOk P w K mg base CX0 1 T.f_pick T.d_pick ["_law_source_here", "_law_many"] (sp_pick K) := by
  refine T.F_pick.ok sc_pick (fun vs H Q E h => ?_) (fun cdv A outer s H vs Q E hr h => ?_)
  · obtain ⟨a, m, rfl, _⟩ := h
    rfl
  · obtain ⟨a, m, rfl, ⟨g, x, c, hs⟩, h1, h2, q⟩ := h
    refine ⟨_, (pss_cons (ps_if (pt_cmpR op_lt (pv 1) pe_int (nomark _))
      (pss_one (ps_ret pe_int))
      pss_nil)
      (pss_cons (ps_if (pt_cmpR op_gt (pe_ix ix_list (pv 0) pe_int (fun _ _ => rfl)) pe_int (nomark _))
      (pss_cons (ps_set (i := 2) sc_pick.nd rfl (.inl rfl) (pe_op op_mod (pe_callTy call_int1 (by rfl) T.m_int (by decide +kernel) (pa_cons (pe_ix ix_list (pv 0) pe_int (fun _ _ => rfl)) pa_nil)) (pv 1)))
        (pss_cons (ps_asg (pe_op op_fdiv (pe_ix ix_list (pv 0) pe_int (fun _ _ => rfl)) (pv 1)) (pg_sub (pv 0) pe_int set_list))
        (pss_one (ps_ret (pv 2)))))
      pss_nil)
      (pss_cons (ps_asg (pe_op op_add (pe_ix ix_list (pv 0) pe_int (fun _ _ => rfl)) pe_int) (pg_sub (pv 0) pe_int set_list))
      (pss_cons (ps_asg (pe_op op_mod (pe_callTy call_int1 (by rfl) T.m_int (by decide +kernel) (pa_cons (pe_op op_add (pe_op op_add (pe_op op_mul (pe_ix ix_list (pv 0) pe_int (fun _ _ => rfl)) pe_int) (pe_op op_mul (pe_ix ix_list (pv 0) pe_int (fun _ _ => rfl)) pe_int)) pe_int) pa_nil)) pe_int) (pg_sub (pv 0) pe_int set_list))
      (pss_one (ps_ret (pe_op op_mod (pe_callTy call_int1 (by rfl) T.m_int (by decide +kernel) (pa_cons (pe_op op_fdiv (pe_op op_mod (pe_callTy call_int1 (by rfl) T.m_int (by decide +kernel) (pa_cons (pe_op op_add (pe_op op_add (pe_op op_mul (pe_ix ix_list (pv 0) pe_int (fun _ _ => rfl)) pe_int) (pe_op op_mul (pe_ix ix_list (pv 0) pe_int (fun _ _ => rfl)) pe_int)) pe_int) pa_nil)) pe_int) pe_int) pa_nil)) (pv 1)))))))), ?_⟩
    refine ⟨_, rfl, _, _, rfl, rfl, _, rfl, ite2 (fun e => ?_) (fun e => ?_)⟩
    · exact q 0 H ⟨g, x, c, hs⟩ (But.refl a H) (by decide) (by omega)
    · have hm : ¬ m < 2 := fun z => e (decide_eq_true z)
      refine ⟨_, rfl, _, _, _, _, rfl, rfl, .inl (.inl hs), rfl, _, _, rfl, rfl, _, rfl, ite2 (fun e => ?_) (fun e => ?_)⟩
      · refine ⟨_, rfl, _, _, _, _, rfl, rfl, .inl (.inl hs), rfl, .inl ⟨_, rfl, _, rfl, _, _, rfl, rfl, (by omega), ?_⟩⟩
        refine ⟨_, rfl, _, _, _, _, rfl, rfl, .inl (.inl hs), rfl, _, rfl, _, _, rfl, rfl, ⟨by omega, by omega⟩, ?_⟩
        refine ⟨_, rfl, _, _, _, _, rfl, rfl, hs, rfl, ?_⟩
        refine ⟨_, rfl, ?_⟩
        exact q _ _ ⟨_, _, _, upd_same⟩ (But.upd _) (Int.emod_nonneg _ (by omega)) (.inl (Int.emod_lt_of_pos _ (by omega)))
      · refine ⟨_, rfl, _, _, _, _, rfl, rfl, .inl (.inl hs), rfl, _, _, rfl, rfl, _, rfl, _, _, _, _, rfl, rfl, hs, rfl, ?_⟩
        refine ⟨_, rfl, _, _, _, _, rfl, rfl, .inl (.inl upd_same), rfl, _, _, rfl, rfl, .inr ⟨by decide, by decide⟩, _, rfl, _, _, _, _, rfl, rfl, .inl (.inl upd_same), rfl, _, _, rfl, rfl, .inr ⟨by decide, by decide⟩, _, _, rfl, rfl, _, _, rfl, rfl, .inl ⟨_, rfl, _, _, rfl, rfl, (by show (0 : Int) < 2147483647; decide), ?_⟩⟩
        refine ⟨_, rfl, _, _, _, _, rfl, rfl, upd_same, rfl, ?_⟩
        refine ⟨_, rfl, _, _, _, _, rfl, rfl, .inl (.inl upd_same), rfl, _, _, rfl, rfl, .inr ⟨by decide, by decide⟩, _, rfl, _, _, _, _, rfl, rfl, .inl (.inl upd_same), rfl, _, _, rfl, rfl, .inr ⟨by decide, by decide⟩, _, _, rfl, rfl, _, _, rfl, rfl, .inl ⟨_, rfl, _, _, rfl, rfl, (by show (0 : Int) < 2147483629; decide), _, _, rfl, rfl, ⟨by decide, by decide⟩, .inl ⟨_, rfl, _, rfl, _, _, rfl, rfl, (by omega), ?_⟩⟩⟩
        exact q _ _ ⟨_, _, _, upd_same⟩ (((But.upd _).trans (But.upd _))) (Int.emod_nonneg _ (by omega)) (.inl (Int.emod_lt_of_pos _ (by omega)))
theorem ok_law_is_integer (T : Tab K mg) : FnOk P w K mg base CX0 1 T.f_law_is_integer T.d_law_is_integer ["_law_actual"] (sp_law_is_integer K) := by
  refine T.F_law_is_integer.ok sc_law_is_integer (fun vs H Q E h => ?_) (fun cdv A outer s H vs Q E hr h => ?_)
  · obtain ⟨i, rfl, _⟩ := h
    rfl
  · obtain ⟨i, rfl, q⟩ := h
    refine ⟨_, (pss_one (ps_ret (pe_and (pe_callB call_isi (by rfl) T.m_isinstance (by decide +kernel) (pa_cons (pv 0) (pa_cons (pe_bltn (v := .ty "int") (u := .type "int") (by rfl) T.m_int (by decide +kernel) rfl) pa_nil))) (pe_one (pe_not (pe_callB call_isi (by rfl) T.m_isinstance (by decide +kernel) (pa_cons (pv 0) (pa_cons (pe_bltn (v := .ty "bool") (u := .type "bool") (by rfl) T.m_bool (by decide +kernel) rfl) pa_nil)))))))), ?_⟩
    refine ⟨_, rfl, _, _, _, _, _, rfl, .ty "int", .base (.int i), kit_ty (by decide +kernel), true, rfl, iteT ?_⟩
    exact ⟨_, rfl, _, _, _, _, _, rfl, .ty "bool", .base (.int i), kit_ty (r := false) (by decide +kernel), false, rfl, q⟩
theorem ok_leaves_in (T : Tab K mg) : FnOk P w K mg base CX0 1 T.f_leaves_in T.d_leaves_in ["_law_book_here"] (sp_leaves_in K T.C_Leaf T.C_Book) := by
  refine T.F_leaves_in.ok sc_leaves_in (fun vs H Q E h => ?_) (fun cdv A outer s H vs Q E hr h => ?_)
  · obtain ⟨v, bk, rfl, _⟩ := h
    rfl
  · obtain ⟨v, bk, rfl, hbk, q⟩ := h
    refine ⟨_, (pss_one (ps_ret (pe_lc (own := [("_law_sheet", 1)]) (g := gName 1) (by rfl) sc_leaves_in.nd (pi_tup (pe_fld (pv 0) rfl)) (blkOk_by (own := [("_law_sheet", 1)]) (N := N_leaves_in) (sc := defScope s_leaves_in) (by decide +kernel)) (fun _ _ _ _ _ => pg_name (i := 1) sc_leaves_in.nd rfl (.inl rfl)) (fun _ _ _ _ _ => pts_nil) (fun _ _ _ _ _ => (pe_tup (pa_cons (pe_fldK (K := K) rfl (pv 1) rfl) (pa_cons (pe_fldK (K := K) rfl (pv 1) rfl) (pa_cons (pe_fldK (K := K) rfl (pv 1) rfl) (pa_cons (pe_fldK (K := K) rfl (pv 1) rfl) pa_nil))))))))), ?_⟩
    obtain ⟨x, dx, la, s, vs, rfl, hx, hl, hf, hs, h60⟩ := hbk
    have len := hf.len
    refine ⟨_, rfl, x, _, dx, _, _, rfl, hx, T.cl_Book, T.na_Book_leaves, fBk_leaves, la, rfl, ⟨_, .inl (.inl hl)⟩, fun D nD => ?_⟩
    refine lc_tp bk (fun l => some (dLp l)) (walkT (xs := vs) len) nD (fun H h => .inl (.inl (h _ _ hl))) (by omega) ?_ ?_
    · rintro i l y H4x H4 er sm ⟨rfl, hy⟩ R N hR hN
      obtain ⟨l', el, hlf⟩ := hf.get hy
      rw [er] at el
      cases el
      obtain ⟨z, dz, a1, a2, a3, a4, a5, rfl, hz, h1, h2, h3, h4, h5⟩ := LfAt.nl (NL.of sm) hlf
      refine ⟨rfl, ?_⟩
      refine ⟨_, rfl, z, _, dz, _, _, rfl, hz, T.cl_Leaf, T.na_Leaf_label, fLf_label, _, rfl, z, _, dz, _, _, rfl, hz, T.cl_Leaf, T.na_Leaf_front, fLf_front, _, rfl, z, _, dz, _, _, rfl, hz, T.cl_Leaf, T.na_Leaf_back, fLf_back, _, rfl, z, _, dz, _, _, rfl, hz, T.cl_Leaf, T.na_Leaf_pen, fLf_pen, (by show 4 ≤ sizeLine; decide), fun t nt => ?_⟩
      have s2 := same_upd (o := .tup [.ref a1, .ref a2, .ref a3, .ref a4]) nt
      exact hR _ _ rfl _ s2 (.tup upd_same (.cons (tpL (s2 _ _ h1)) (.cons (tpS (s2 _ _ h2)) (.cons (tpS (s2 _ _ h3)) (.cons (h4.nl (NL.of s2)) .nil)))))
    · rintro H1 us s1 eD tu
      have e : bk.filterMap (fun l => some (dLp l)) = bk.map dLp := by rw [← List.filterMap_eq_map]; rfl
      rw [e] at tu
      exact q D us H1 s1 eD tu
theorem ok_other (T : Tab K mg) : FnOk P w K mg base CX0 1 T.f_other T.d_other ["_law_token_here"] (sp_other K) := by
  refine T.F_other.ok sc_other (fun vs H Q E h => ?_) (fun cdv A outer s H vs Q E hr h => ?_)
  · obtain ⟨z, rfl, _⟩ := h
    rfl
  · obtain ⟨z, rfl, tz, q⟩ := h
    refine ⟨_, (pss_cons (ps_if (pt_cmpR op_lt (pe_callB call_len_str (by rfl) T.m_len PySem.boot_len (pa_cons (pv 0) pa_nil)) pe_int (nomark _))
      (pss_one (ps_ret (pe_op op_add_str (pv 0) pe_str)))
      pss_nil)
      (pss_cons (ps_if (pt_cmpR op_eq (pe_ix ix_str (pv 0) pe_int (fun _ _ => rfl)) pe_str (nomark _))
      (pss_one (ps_ret (pe_op op_add_str pe_str (pe_slice sl_str (pv 0) (po_some pe_int) po_none))))
      pss_nil)
      (pss_one (ps_ret (pe_op op_add_str pe_str (pe_slice sl_str (pv 0) (po_some pe_int) po_none)))))), ?_⟩
    have l := tz.len
    have hz2 : z.length ≤ sizeLine := Nat.le_of_lt (small1000 (by omega))
    obtain ⟨c, r, ec⟩ : ∃ c r, z.cps.toList = c :: r := by
      cases e : z.cps.toList with
      | nil => have := str_len z; rw [e] at this; simp at this; omega
      | cons c r => exact ⟨c, r, rfl⟩
    refine ⟨_, rfl, z, rfl, hz2, _, _, rfl, rfl, _, rfl, ite2 (fun e => ?_) (fun e => ?_)⟩
    · have e20 : (z.length : Int) < 20 := of_decide_eq_true e
      have lx : ("x" : Str).length = 1 := by decide +kernel
      refine ⟨_, rfl, _, _, rfl, rfl, by rw [lx]; exact Nat.le_of_lt (small1000 (by omega)), ?_⟩
      refine q _ (tok_of (by rw [app_len]; omega) (by rw [app_len]; omega) (app_sgn tz.sgn (all_sgn (by decide +kernel)))) fun e => ?_
      have := congrArg Str.length e
      rw [app_len, lx] at this
      omega
    have hne : ∀ (d : Nat) (y : Str), y = ⟨#[d]⟩ → c ≠ d → z ≠ y ++ cutS z (some 1) none := fun d y ey n e => by
      have this : z.cps.toList = (y ++ cutS z (some 1) none).cps.toList := congrArg (fun s : Str => s.cps.toList) e
      rw [cps_toList_append, ec, ey] at this
      injection this with h1 _
      exact n h1
    have hat : atI z.cps.toList (0 : Int) = some c := at_of' (j := 0) rfl (by rw [ec]; rfl)
    refine ⟨_, rfl, _, _, c, rfl, rfl, hz2, hat, rfl, _, rfl, ite2 (fun e => ?_) (fun e => ?_)⟩
    · have hc : c = 121 := one_inj (V.str.inj (of_decide_eq_true e))
      refine ⟨_, rfl, 1, rfl, z, rfl, hz2, _, _, rfl, rfl, ?_, ?_⟩
      · exact Nat.le_of_lt (small1000 (by rw [cut1_len l.1, show ("z" : Str).length = 1 by decide +kernel]; omega))
      · exact q _ (tok_new tz (by decide +kernel) (all_sgn (by decide +kernel))) (hne 122 "z" rfl (by omega))
    · have hc : c ≠ 121 := fun z => e (decide_eq_true (by rw [z]; rfl))
      refine ⟨_, rfl, 1, rfl, z, rfl, hz2, _, _, rfl, rfl, ?_, ?_⟩
      · exact Nat.le_of_lt (small1000 (by rw [cut1_len l.1, show ("y" : Str).length = 1 by decide +kernel]; omega))
      · exact q _ (tok_new tz (by decide +kernel) (all_sgn (by decide +kernel))) (hne 121 "y" rfl hc)
theorem ok_spots (T : Tab K mg) : FnOk P w K mg base CX0 1 T.f_spots T.d_spots ["_law_leaves"] (sp_spots K w) := by
  refine T.F_spots.ok sc_spots (fun vs H Q E h => ?_) (fun cdv A outer s H vs Q E hr h => ?_)
  · obtain ⟨a, us, bk, n, rfl, _⟩ := h
    rfl
  · obtain ⟨a, us, bk, n, rfl, ha, tu, gb, q⟩ := h
    refine ⟨_, (pss_cons (ps_set (i := 1) sc_spots.nd rfl (.inl rfl) pe_dnewN)
      (pss_cons (ps_for PassesOwn.never rfl (pi_list (pv 0)) (pg_tup (by rfl) (pgs_cons (pg_name (i := 2) sc_spots.nd rfl (.inl rfl)) (pgs_cons (pg_name (i := 3) sc_spots.nd rfl (.inl rfl)) (pgs_cons (pg_name (i := 4) sc_spots.nd rfl (.inl rfl)) (pgs_cons (pg_name (i := 5) sc_spots.nd rfl (.inl rfl)) pgs_nil)))))
      (pss_cons (ps_set (i := 6) sc_spots.nd rfl (.inl rfl) (pe_lst (pa_cons (pv 3) (pa_cons (pv 4) pa_nil))))
        (pss_one (ps_for PassesOwn.never rfl (pi_range1 (by rfl) T.m_range (pa_cons pe_int pa_nil)) (pg_name (i := 7) sc_spots.nd rfl (.inl rfl))
        (pss_one (ps_for PassesOwn.never rfl (pi_range1 (by rfl) T.m_range (pa_cons (pe_callB call_len_seq (by rfl) T.m_len PySem.boot_len (pa_cons (pe_ix ix_list (pv 6) (pv 7) (fun _ _ => rfl)) pa_nil)) pa_nil)) (pg_name (i := 8) sc_spots.nd rfl (.inl rfl))
          (pss_cons (ps_set (i := 9) sc_spots.nd rfl (.inl rfl) (pe_split (pe_ix ix_tup (pe_ix ix_list (pv 6) (pv 7) (fun _ _ => rfl)) (pv 8) (fun _ _ => rfl)) pe_str))
            (pss_one (ps_for PassesOwn.never rfl (pi_range1 (by rfl) T.m_range (pa_cons (pe_callB call_len_seq (by rfl) T.m_len PySem.boot_len (pa_cons (pv 9) pa_nil)) pa_nil)) (pg_name (i := 10) sc_spots.nd rfl (.inl rfl))
            (pss_one (ps_nput (by have z := hr.units; exact z) (pv 1) (pe_tup (pa_cons (pe_tup (pa_cons (pv 2) (pa_cons (pv 7) pa_nil))) (pa_cons (pv 8) (pa_cons (pv 10) pa_nil)))) (pe_ix ix_list (pv 9) (pv 10) (fun _ _ => rfl)) rfl)))))))))))
      (pss_one (ps_ret (pv 1))))), ?_⟩
    have cw : (cxOf CX0 P w K mg base N_spots (Str.ofString "_law_spots") (defScope s_spots) T.f_spots cdv A outer s H E).nox.w = w := rfl
    rw [cw]
    have lu : us.length = bk.length := by have := tu.len; rwa [List.length_map] at this
    have b3 := gb.1
    refine fun D nD => ?_
    have s0 := same_upd (o := rawN w D []) nD
    have m0 : MpAt w (upd H D (rawN w D [])) D (foldF ((bk.take 0).flatMap leafS)) (0 * 720) := MpAt.zero
    refine ⟨_, rfl, a, rfl, ⟨_, .inl (.inl (s0 _ _ ha))⟩, for_list (xs := us) (fun i σ' H' => ∃ (y2 y3 y4 y5 y6 y7 y8 y9 y10 : Option V), σ' = [some (.ref a), some (.ref D), y2, y3, y4, y5, y6, y7, y8, y9, y10] ∧ Same H H' ∧ MpAt w H' D (foldF ((bk.take i).flatMap leafS)) (i * 720)) ⟨none, none, none, none, none, none, none, none, none, rfl, s0, m0⟩ (fun i σ' H' _ hh => by obtain ⟨_, _, _, _, _, _, _, _, _, _, s, _⟩ := hh; exact .inl (.inl (s _ _ ha))) ?_ ?_⟩
    · rintro i x σ' H1 hx ⟨y2, y3, y4, y5, y6, y7, y8, y9, y10, rfl, s1, mp⟩
      have i3 : i < 3 := by
        have := (List.getElem?_eq_some_iff.mp hx).1
        omega
      obtain ⟨d, ed, tx⟩ := tu.get hx
      rw [List.getElem?_map] at ed
      obtain ⟨l, el, rfl⟩ := Option.map_eq_some_iff.mp ed
      have gl := (gb.2.2 l (List.mem_of_getElem? el)).1
      obtain ⟨t, g, f, b, c, ps, rfl, ht, hg, hf, hb, hc, tp⟩ := dLp_inv (tx.nl (NL.of s1))
      refine ⟨t, _, rfl, .inl (.inl ht), rfl, _, _, rfl, _, _, rfl, _, _, rfl, _, _, rfl, rfl, ?_⟩
      refine ⟨_, rfl, _, rfl, (by show 2 ≤ sizeLine; decide), fun S nS => ?_⟩
      have sS := same_upd (o := .lst [.ref f, .ref b]) nS
      have eS : upd H1 S (.lst [.ref f, .ref b]) S = some (.lst [.ref f, .ref b]) := upd_same
      generalize upd H1 S (.lst [.ref f, .ref b]) = H2 at sS eS
      have nSD : S ≠ D := fun e => by
        obtain ⟨_, dn, _⟩ := mp
        have := dn.1
        rw [← e, nS] at this
        cases this
      have netD : ∀ {c : Addr} {ys : List V}, H2 c = some (.tup ys) → c ≠ D := fun h e => by
        obtain ⟨_, dn, _⟩ := mp
        have := sS _ _ dn.1
        rw [e, this] at h
        exact rawN_net (Option.some.inj h)
      have hg2 := sS _ _ hg
      have hf2 := sS _ _ hf
      have hb2 := sS _ _ hb
      refine ⟨_, rfl, by decide, by decide, for_range (lo := 0) (n := 2) (fun si σ' H' => ∃ (y7 y8 y9 y10 : Option V), σ' = [some (.ref a), some (.ref D), some (.ref g), some (.ref f), some (.ref b), some (.ref c), some (.ref S), y7, y8, y9, y10] ∧ Same H H' ∧ But D H2 H' ∧ MpAt w H' D (foldF ((bk.take i).flatMap leafS ++ (List.range si).flatMap (sideS l))) (i * 720 + si * 360)) ⟨y7, y8, y9, y10, rfl, s1.trans sS, But.refl _ _, by rw [List.range_zero, List.flatMap_nil, List.append_nil]; exact mp.nl (NL.of sS)⟩ ?_ ?_⟩
      · rintro si σ' H3 hsi ⟨y7, y8, y9, y10, rfl, s3, bt3, mp3⟩
        rw [Int.zero_add]
        have eS3 := bt3 _ _ nSD eS
        obtain ⟨sa, ats, hsa⟩ : ∃ sa, ([.ref f, .ref b] : List V)[si]? = some (.ref sa) ∧ H2 sa = some (.tup ((sideR l si).map V.str)) := by
          obtain h | h : si = 0 ∨ si = 1 := by omega
          · rw [h]; exact ⟨f, rfl, hf2⟩
          · rw [h]; exact ⟨b, rfl, hb2⟩
        have nsa := netD hsa
        obtain ⟨c1, c2⟩ := side_small gl.1.2.1 gl.1.2.2.1 (si : Int)
        refine ⟨_, rfl, _, rfl, S, _, si, .ref sa, rfl, rfl, .inl (.inl eS3), at_of' rfl ats, sa, _, rfl, .inr (.inl (.inl (bt3 _ _ nsa hsa))), _, rfl, by rw [List.length_map]; omega, by rw [List.length_map]; omega, ?_⟩
        rw [List.length_map]
        refine for_range (lo := 0) (n := (sideR l si).length) (fun r σ' H' => ∃ (y8 y9 y10 : Option V), σ' = [some (.ref a), some (.ref D), some (.ref g), some (.ref f), some (.ref b), some (.ref c), some (.ref S), some (.int si), y8, y9, y10] ∧ Same H H' ∧ But D H2 H' ∧ MpAt w H' D (foldF ((bk.take i).flatMap leafS ++ (List.range si).flatMap (sideS l) ++ (List.range r).flatMap (wordsS l si))) (i * 720 + si * 360 + r * 30)) ⟨y8, y9, y10, rfl, s3, bt3, by rw [List.range_zero, List.flatMap_nil, List.append_nil]; exact mp3⟩ ?_ ?_
        · rintro r σ' H4 hr ⟨y8, y9, y10, rfl, s4, bt4, mp4⟩
          rw [Int.zero_add]
          have eS4 := bt4 _ _ nSD eS
          have hsa4 := bt4 _ _ nsa hsa
          have ey := List.getElem?_eq_getElem hr
          have eg : (sideR l si).getD r ⟨#[]⟩ = (sideR l si)[r] := by rw [List.getD_eq_getElem?_getD, ey]; rfl
          generalize (sideR l si)[r] = y at ey eg
          have yl := c2 y (List.mem_of_getElem? ey)
          refine ⟨_, rfl, _, rfl, S, _, si, .ref sa, rfl, rfl, .inl (.inl eS4), at_of' rfl ats, _, rfl, sa, _, r, .str y, rfl, rfl, .inl (.inl hsa4), at_of' rfl (by rw [List.getElem?_map, ey]; rfl), ⟨_, rfl⟩, y, _, rfl, rfl, (by decide +kernel), (by rw [sizeLine_eq]; omega), fun W nW => ?_⟩
          have sW := same_upd (o := .lst ((toksR y).map V.str)) nW
          have eW : upd H4 W (.lst ((toksR y).map V.str)) W = some (.lst ((toksR y).map V.str)) := upd_same
          have mp5 := mp4.nl (NL.of sW)
          have nWD : W ≠ D := fun e => by
            obtain ⟨_, dn, _⟩ := mp4
            have := dn.1
            rw [← e, nW] at this
            cases this
          have bt5 := bt4.trans (But.of sW)
          have s5 := s4.trans sW
          have el0 : toksR y = Txt.split y (Str.ofString " ") := rfl
          rw [← el0]
          generalize upd H4 W (.lst ((toksR y).map V.str)) = H5 at sW eW mp5 bt5 s5 ⊢
          have tl : (toksR y).length ≤ 30 := yl.2.1
          refine ⟨_, rfl, W, _, rfl, .inl (.inl (.inl eW)), _, rfl, by rw [List.length_map]; omega, by rw [List.length_map]; omega, ?_⟩
          rw [List.length_map]
          refine for_range (lo := 0) (n := (toksR y).length) (fun j σ' H' => ∃ (y10 : Option V), σ' = [some (.ref a), some (.ref D), some (.ref g), some (.ref f), some (.ref b), some (.ref c), some (.ref S), some (.int si), some (.int r), some (.ref W), y10] ∧ Same H H' ∧ But D H5 H' ∧ MpAt w H' D (foldF ((bk.take i).flatMap leafS ++ (List.range si).flatMap (sideS l) ++ (List.range r).flatMap (wordsS l si) ++ (List.range j).map fun w : Nat => (((l.L, (si : Int)), (r : Int), (w : Int)), (toksR y).getD w ⟨#[]⟩))) (i * 720 + si * 360 + r * 30 + j)) ⟨y10, rfl, s5, But.refl _ _, by rw [List.range_zero, List.map_nil, List.append_nil]; exact mp5⟩ ?_ ?_
          · rintro j σ' H6 hj ⟨y10, rfl, s6, bt6, mp6⟩
            rw [Int.zero_add]
            have eW6 := bt6 _ _ nWD eW
            have et := List.getElem?_eq_getElem hj
            have eg2 : (toksR y).getD j ⟨#[]⟩ = (toksR y)[j] := by rw [List.getD_eq_getElem?_getD, et]; rfl
            generalize (toksR y)[j] = tk at et eg2
            refine ⟨_, rfl, _, rfl, W, _, j, .str tk, rfl, rfl, .inl (.inl eW6), at_of' rfl (by rw [List.getElem?_map, et]; rfl), _, rfl, _, rfl, _, rfl, (by show 2 ≤ sizeLine; decide), fun p np => ?_⟩
            have hg6 := bt6 _ _ (netD hg2) (bt5 _ _ (netD hg2) hg2)
            have s7 := same_upd (o := .tup [.ref g, .int si]) np
            have hp : Tp (upd H6 p (.tup [.ref g, .int si])) (.ref p) (dP (l.L, (si : Int))) := tpP (p := (l.L, (si : Int))) upd_same (s7 _ _ hg6)
            generalize upd H6 p (.tup [.ref g, .int si]) = H7 at s7 hp
            refine ⟨_, rfl, _, rfl, (by show 3 ≤ sizeLine; decide), fun kb nk => ?_⟩
            have s8 := same_upd (o := .tup [.ref p, .int r, .int j]) nk
            have hk : Tp (upd H7 kb (.tup [.ref p, .int r, .int j])) (.ref kb) (dQ ((l.L, (si : Int)), (r : Int), (j : Int))) := .tup upd_same (.cons (hp.nl (NL.of s8)) (.cons (.int _) (.cons (.int _) .nil)))
            generalize upd H7 kb (.tup [.ref p, .int r, .int j]) = H8 at s8 hk
            obtain ⟨ms, dn, tms, fms, ndm, lms⟩ := mp6.nl (NL.of (s7.trans s8))
            refine ⟨D, kvM ms, kb, nkD (dQ ((l.L, (si : Int)), (r : Int), (j : Int))), rfl, rfl, dn, nkey_Q hk, by rw [sizeLine_eq]; unfold kvM; rw [List.length_map]; omega, _, rfl, ?_, ?_, ?_⟩
            · intro z o ez
              have := (s6.trans (s7.trans s8)) _ _ ez
              refine (upd_ne (fun e => ?_)).trans this
              rw [e, nD] at ez
              cases ez
            · exact fun z o ne ez => (upd_ne ne).trans ((s7.trans s8) _ _ (bt6 _ _ ne ez))
            · rw [range_map1, ← List.append_assoc, foldF_snoc, eg2]
              exact MpAt.put dn tms fms ndm lms hk
          · rintro σ' H6 ⟨y10, rfl, s6, bt6, mp6⟩
            refine ⟨_, _, _, rfl, s6, bt5.trans bt6, ?_⟩
            rw [range_flat, ← List.append_assoc]
            have : wordsS l si r = (List.range (toksR y).length).map fun w : Nat => (((l.L, (si : Int)), (r : Int), (w : Int)), (toksR y).getD w ⟨#[]⟩) := by unfold wordsS; rw [eg]
            rw [this]
            exact mp6.mono (by omega)
        · rintro σ' H4 ⟨y8, y9, y10, rfl, s4, bt4, mp4⟩
          refine ⟨_, _, _, _, rfl, s4, bt4, ?_⟩
          rw [range_flat, ← List.append_assoc]
          exact mp4.mono (by omega)
      · rintro σ' H3 ⟨y7, y8, y9, y10, rfl, s3, bt3, mp3⟩
        refine ⟨_, _, _, _, _, _, _, _, _, rfl, s3, ?_⟩
        rw [take_flat _ el]
        exact mp3.mono (by omega)
    · rintro σ' H1 ⟨y2, y3, y4, y5, y6, y7, y8, y9, y10, rfl, s1, mp⟩
      refine ⟨_, rfl, q D H1 s1 nD ?_⟩
      rw [lu, List.take_length, prF_spots gb.2.1] at mp
      exact mp.mono (by omega)
theorem ok_pens (T : Tab K mg) : FnOk P w K mg base CX0 1 T.f_pens T.d_pens ["_law_leaves"] (sp_pens K w) := by
  refine T.F_pens.ok sc_pens (fun vs H Q E h => ?_) (fun cdv A outer s H vs Q E hr h => ?_)
  · obtain ⟨a, us, bk, rfl, _⟩ := h
    rfl
  · obtain ⟨a, us, bk, rfl, ha, tu, gb, q⟩ := h
    refine ⟨_, (pss_cons (ps_set (i := 1) sc_pens.nd rfl (.inl rfl) pe_dnewN)
      (pss_cons (ps_for PassesOwn.never rfl (pi_list (pv 0)) (pg_tup (by rfl) (pgs_cons (pg_name (i := 2) sc_pens.nd rfl (.inl rfl)) (pgs_cons (pg_name (i := 3) sc_pens.nd rfl (.inl rfl)) (pgs_cons (pg_name (i := 4) sc_pens.nd rfl (.inl rfl)) (pgs_cons (pg_name (i := 5) sc_pens.nd rfl (.inl rfl)) pgs_nil)))))
      (pss_one (ps_for PassesOwn.never rfl (pi_tup (pv 5)) (pg_tup (by rfl) (pgs_cons (pg_name (i := 6) sc_pens.nd rfl (.inl rfl)) (pgs_cons (pg_name (i := 7) sc_pens.nd rfl (.inl rfl)) (pgs_cons (pg_name (i := 8) sc_pens.nd rfl (.inl rfl)) (pgs_cons (pg_name (i := 9) sc_pens.nd rfl (.inl rfl)) pgs_nil)))))
        (pss_one (ps_nput (by have z := hr.units; exact z) (pv 1) (pe_tup (pa_cons (pe_tup (pa_cons (pv 2) (pa_cons (pv 6) pa_nil))) (pa_cons (pv 7) (pa_cons (pv 8) pa_nil)))) (pv 9) rfl)))))
      (pss_one (ps_ret (pv 1))))), ?_⟩
    have cw : (cxOf CX0 P w K mg base N_pens (Str.ofString "_law_pens") (defScope s_pens) T.f_pens cdv A outer s H E).nox.w = w := rfl
    rw [cw]
    have lu : us.length = bk.length := by have := tu.len; rwa [List.length_map] at this
    have b3 := gb.1
    refine fun D nD => ?_
    have s0 := same_upd (o := rawN w D []) nD
    have m0 : MpAt w (upd H D (rawN w D [])) D (foldF ((bk.take 0).flatMap penS)) (0 * 3) := MpAt.zero
    have Da : a ≠ D := fun e => by rw [e, nD] at ha; cases ha
    refine ⟨_, rfl, a, rfl, ⟨_, .inl (.inl (s0 _ _ ha))⟩, for_list (xs := us) (fun i σ' H' => ∃ (y2 y3 y4 y5 y6 y7 y8 y9 : Option V), σ' = [some (.ref a), some (.ref D), y2, y3, y4, y5, y6, y7, y8, y9] ∧ Same H H' ∧ MpAt w H' D (foldF ((bk.take i).flatMap penS)) (i * 3)) ⟨none, none, none, none, none, none, none, none, rfl, s0, m0⟩ (fun i σ' H' _ hh => by obtain ⟨_, _, _, _, _, _, _, _, _, s, _⟩ := hh; exact .inl (.inl (s _ _ ha))) ?_ ?_⟩
    · rintro i x σ' H1 hx ⟨y2, y3, y4, y5, y6, y7, y8, y9, rfl, s1, mp⟩
      have i3 : i < 3 := by
        have := (List.getElem?_eq_some_iff.mp hx).1
        omega
      obtain ⟨d, ed, tx⟩ := tu.get hx
      rw [List.getElem?_map] at ed
      obtain ⟨l, el, rfl⟩ := Option.map_eq_some_iff.mp ed
      have gl := (gb.2.2 l (List.mem_of_getElem? el))
      obtain ⟨t, g, f, b, c, ps, rfl, ht, hg, hf, hb, hc, tp⟩ := dLp_inv (tx.nl (NL.of s1))
      have lp : ps.length = l.pen.length := by have := tp.len; rwa [List.length_map] at this
      refine ⟨t, _, rfl, .inl (.inl ht), rfl, _, _, rfl, _, _, rfl, _, _, rfl, _, _, rfl, rfl, ?_⟩
      refine ⟨_, rfl, c, rfl, ⟨_, .inl (.inl hc)⟩, for_tup (xs := ps) (fun j σ' H' => ∃ (y6 y7 y8 y9 : Option V), σ' = [some (.ref a), some (.ref D), some (.ref g), some (.ref f), some (.ref b), some (.ref c), y6, y7, y8, y9] ∧ Same H H' ∧ (∀ c ys, H1 c = some (.tup ys) → H' c = some (.tup ys)) ∧ MpAt w H' D (foldF ((bk.take i).flatMap penS ++ (l.pen.take j).map fun s => (((l.L, s.1.1), s.1.2), s.2))) (i * 3 + j)) ⟨y6, y7, y8, y9, rfl, s1, fun _ _ h => h, by rw [List.take_zero, List.map_nil, List.append_nil]; exact mp⟩ (fun j σ' H' _ hh => by obtain ⟨_, _, _, _, _, _, m, _⟩ := hh; exact .inl (.inl (m _ _ hc))) ?_ ?_⟩
      · rintro j x σ' H2 hx ⟨y6, y7, y8, y9, rfl, s2, m2, mp2⟩
        have jl := (List.getElem?_eq_some_iff.mp hx).1
        obtain ⟨d, ed, tx⟩ := tp.get hx
        rw [List.getElem?_map] at ed
        obtain ⟨sk, es, rfl⟩ := Option.map_eq_some_iff.mp ed
        obtain ⟨b2, rfl, hb2⟩ := sk_inv (tx.tups m2)
        refine ⟨b2, _, rfl, .inl (.inl hb2), rfl, _, _, rfl, _, _, rfl, _, _, rfl, _, _, rfl, rfl, ?_⟩
        refine ⟨_, rfl, _, rfl, _, rfl, _, rfl, (by show 2 ≤ sizeLine; decide), fun p np => ?_⟩
        have hg2 := m2 _ _ hg
        have s3 := same_upd (o := .tup [.ref g, .int sk.1.1]) np
        have hp : Tp (upd H2 p (.tup [.ref g, .int sk.1.1])) (.ref p) (dP (l.L, sk.1.1)) := tpP (p := (l.L, sk.1.1)) upd_same (s3 _ _ hg2)
        generalize upd H2 p (.tup [.ref g, .int sk.1.1]) = H3 at s3 hp
        refine ⟨_, rfl, _, rfl, (by show 3 ≤ sizeLine; decide), fun kb nk => ?_⟩
        have s4 := same_upd (o := .tup [.ref p, .int sk.1.2.1, .int sk.1.2.2]) nk
        have hk : Tp (upd H3 kb (.tup [.ref p, .int sk.1.2.1, .int sk.1.2.2])) (.ref kb) (dQ ((l.L, sk.1.1), sk.1.2)) := .tup upd_same (.cons (hp.nl (NL.of s4)) (.cons (.int _) (.cons (.int _) .nil)))
        generalize upd H3 kb (.tup [.ref p, .int sk.1.2.1, .int sk.1.2.2]) = H4 at s4 hk
        obtain ⟨ms, dn, tms, fms, ndm, lms⟩ := mp2.nl (NL.of (s3.trans s4))
        refine ⟨D, kvM ms, kb, nkD (dQ ((l.L, sk.1.1), sk.1.2)), rfl, rfl, dn, nkey_Q hk, by rw [sizeLine_eq]; unfold kvM; rw [List.length_map]; omega, _, _, _, _, rfl, ?_, ?_, ?_⟩
        · intro z o ez
          have := (s2.trans (s3.trans s4)) _ _ ez
          refine (upd_ne (fun e => ?_)).trans this
          rw [e, nD] at ez
          cases ez
        · intro c ys ec
          have := (s3.trans s4) _ _ (m2 _ _ ec)
          refine (upd_ne (fun e => ?_)).trans this
          rw [e, dn.1] at this
          exact rawN_net (Option.some.inj this)
        · have tk : (l.pen.take (j + 1)).map (fun s : Sk => (((l.L, s.1.1), s.1.2), s.2)) = (l.pen.take j).map (fun s : Sk => (((l.L, s.1.1), s.1.2), s.2)) ++ [(((l.L, sk.1.1), sk.1.2), sk.2)] := by rw [List.take_add_one, es, List.map_append]; rfl
          rw [tk, ← List.append_assoc, foldF_snoc]
          exact MpAt.put dn tms fms ndm lms hk
      · rintro σ' H2 ⟨y6, y7, y8, y9, rfl, s2, m2, mp2⟩
        refine ⟨_, _, _, _, _, _, _, _, rfl, s2, ?_⟩
        rw [take_flat _ el]
        rw [lp, List.take_length] at mp2
        exact mp2.mono (by have := gl.2; omega)
    · rintro σ' H1 ⟨y2, y3, y4, y5, y6, y7, y8, y9, rfl, s1, mp⟩
      refine ⟨_, rfl, q D H1 s1 nD ?_⟩
      rw [lu, List.take_length, peF_pens gb.2.1 fun l hl => pw_nodup (gb.2.2 l hl).1.1.2.2.2.2] at mp
      exact mp.mono (by omega)
theorem ok_says (T : Tab K mg) : FnOk P w K mg base CX0 1 T.f_says T.d_says ["_law_spots_here", "_law_pens_here", "_law_spot_here"] (sp_says K w) := by
  refine T.F_says.ok sc_says (fun vs H Q E h => ?_) (fun cdv A outer s H vs Q E hr h => ?_)
  · obtain ⟨s, g, v, q, f, h0, n, m, z, rfl, _⟩ := h
    rfl
  · obtain ⟨s, g, v, q, f, h0, n, m, z, rfl, hs, hg, tq, ez, k⟩ := h
    refine ⟨_, (pss_cons (ps_if (pt_cmpR (op_inN (by have z := hr.units; exact z)) (pv 2) (pv 1) (by rfl))
      (pss_one (ps_ret (pe_nget (by have z := hr.units; exact z) (pv 1) (pv 2) (fun _ _ => rfl))))
      pss_nil)
      (pss_one (ps_ret (pe_nget (by have z := hr.units; exact z) (pv 0) (pv 2) (fun _ _ => rfl))))), ?_⟩
    obtain ⟨b, pv, rfl, _⟩ := q_inv tq
    obtain ⟨msS, dS0, tS, fS, ndS, lS⟩ := hs
    obtain ⟨msG, dG, tG, fG, ndG, lG⟩ := hg
    refine ⟨_, rfl, _, rfl, g, _, b, dQ q, rfl, dG, rfl, tq.dp, noL_Q _, dQ_depth q, ?_⟩
    rw [atN_kvM, Option.isSome_map, fG]
    cases eh : h0 q with
    | some y =>
      rw [eh] at k
      exact ⟨_, rfl, iteT ⟨_, rfl, _, rfl, g, _, b, dQ q, .str y, rfl, dG, rfl, tq.dp, noL_Q _, dQ_depth q, by rw [atN_kvM, fG, eh]; rfl, k H (Same.refl _)⟩⟩
    | none =>
      rw [eh] at k
      exact ⟨_, rfl, iteF ⟨_, rfl, _, rfl, s, _, b, dQ q, .str z, rfl, dS0, rfl, tq.dp, noL_Q _, dQ_depth q, by rw [atN_kvM, fS, ez]; rfl, k H (Same.refl _)⟩⟩
theorem ok_after (T : Tab K mg) : FnOk P w K mg base CX0 1 T.f_after T.d_after ["_law_leaves", "_law_pens_here"] (sp_after K w) := by
  refine T.F_after.ok sc_after (fun vs H Q E h => ?_) (fun cdv A outer s H vs Q E hr h => ?_)
  · obtain ⟨a, g, us, bk, h0, n, m, rfl, _⟩ := h
    rfl
  · obtain ⟨a, g, us, bk, h0, n, m, rfl, ha, tu, gb, hg, m5, q⟩ := h
    refine ⟨_, (pss_cons (ps_set (i := 2) sc_after.nd rfl (.inl rfl) (pe_lst pa_nil))
      (pss_cons (ps_for PassesOwn.never rfl (pi_list (pv 0)) (pg_tup (by rfl) (pgs_cons (pg_name (i := 3) sc_after.nd rfl (.inl rfl)) (pgs_cons (pg_name (i := 4) sc_after.nd rfl (.inl rfl)) (pgs_cons (pg_name (i := 5) sc_after.nd rfl (.inl rfl)) (pgs_cons (pg_name (i := 6) sc_after.nd rfl (.inl rfl)) pgs_nil)))))
      (pss_cons (ps_set (i := 7) sc_after.nd rfl (.inl rfl) (pe_lst pa_nil))
        (pss_cons (ps_for PassesOwn.never rfl (pi_list (pe_callB (cr_sortedD (un2 hr)) (by rfl) T.m_sorted (by decide +kernel) (pa_cons (pe_callTy (call_listN rfl) (by rfl) T.m_list (by decide +kernel) (pa_cons (pv 1) pa_nil)) pa_nil))) (pg_tup (by rfl) (pgs_cons (pg_name (i := 8) sc_after.nd rfl (.inl rfl)) (pgs_cons (pg_name (i := 9) sc_after.nd rfl (.inl rfl)) (pgs_cons (pg_name (i := 10) sc_after.nd rfl (.inl rfl)) pgs_nil))))
        (pss_one (ps_if (pt_cmpR (op_eqD hr.units) (pe_ix ix_tup (pv 8) pe_int (fun _ _ => rfl)) (pv 3) (nomark _))
          (pss_one (ps_expr (pe_bm PySem.F.plainAttrs_list PySem.F.slot_list_append PySem.F.type_list_append mt_append (pv 7) (pa_cons (pe_tup (pa_cons (pe_ix ix_tup (pv 8) pe_int (fun _ _ => rfl)) (pa_cons (pv 9) (pa_cons (pv 10) (pa_cons (pe_nget (by have z := hr.units; exact z) (pv 1) (pe_tup (pa_cons (pv 8) (pa_cons (pv 9) (pa_cons (pv 10) pa_nil)))) (fun _ _ => rfl)) pa_nil))))) pa_nil))))
          pss_nil)))
        (pss_one (ps_expr (pe_bm PySem.F.plainAttrs_list PySem.F.slot_list_append PySem.F.type_list_append mt_append (pv 2) (pa_cons (pe_tup (pa_cons (pv 3) (pa_cons (pv 4) (pa_cons (pv 5) (pa_cons (pe_callTy call_tuple_of (by rfl) T.m_tuple (by decide +kernel) (pa_cons (pv 7) pa_nil)) pa_nil))))) pa_nil)))))))
      (pss_one (ps_ret (pv 2))))), ?_⟩
    have lu : us.length = bk.length := by have := tu.len; rwa [List.length_map] at this
    have b3 := gb.1
    refine ⟨Nat.zero_le _, fun D nD => ?_⟩
    have s0 := same_upd (o := .lst []) nD
    refine ⟨_, rfl, a, rfl, ⟨_, .inl (.inl (s0 _ _ ha))⟩, for_list (xs := us) (fun i σ' H' => ∃ (y3 y4 y5 y6 y7 y8 y9 y10 : Option V) (ws : List V) (bk' : List Lf), σ' = [some (.ref a), some (.ref g), some (.ref D), y3, y4, y5, y6, y7, y8, y9, y10] ∧ Same H H' ∧ H' D = some (.lst ws) ∧ TpAll H' ws (bk'.map dLp) ∧ AftAll h0 (bk.take i) bk' ∧ (∀ l ∈ bk', l.pen.length ≤ m) ∧ bk'.length = i) ⟨none, none, none, none, none, none, none, none, [], [], rfl, s0, upd_same, .nil, .nil, (fun _ h => nomatch h), rfl⟩ (fun i σ' H' _ hh => by obtain ⟨_, _, _, _, _, _, _, _, _, _, _, s, _⟩ := hh; exact .inl (.inl (s _ _ ha))) ?_ ?_⟩
    · rintro i x σ' H1 hx ⟨y3, y4, y5, y6, y7, y8, y9, y10, ws, bk', rfl, s1, eD, tw, af, lb, li⟩
      have i3 : i < 3 := by
        have := (List.getElem?_eq_some_iff.mp hx).1
        omega
      obtain ⟨d, ed, tx⟩ := tu.get hx
      rw [List.getElem?_map] at ed
      obtain ⟨l, el, rfl⟩ := Option.map_eq_some_iff.mp ed
      obtain ⟨t, g1, f, b, c, ps, rfl, ht, hg1, hf, hb, hc, tp⟩ := dLp_inv (tx.nl (NL.of s1))
      refine ⟨t, _, rfl, .inl (.inl ht), rfl, _, _, rfl, _, _, rfl, _, _, rfl, _, _, rfl, rfl, ?_⟩
      refine ⟨Nat.zero_le _, fun O nO => ?_⟩
      have sO := same_upd (o := .lst []) nO
      have eO : upd H1 O (.lst []) O = some (.lst []) := upd_same
      generalize upd H1 O (.lst []) = H2 at sO eO
      obtain ⟨ms, dn, tms, fms, ndm, lms⟩ := hg.nl (NL.of (s1.trans sO))
      refine ⟨_, rfl, g, _, rfl, dn, fun P1 n1 => ?_⟩
      have sP1 := same_upd (o := .lst ((kvM ms).map fun e => V.ref e.2.1)) n1
      have eP1 : upd H2 P1 (.lst ((kvM ms).map fun e => V.ref e.2.1)) P1 = some (.lst ((kvM ms).map fun e => V.ref e.2.1)) := upd_same
      generalize upd H2 P1 (.lst ((kvM ms).map fun e => V.ref e.2.1)) = H3 at sP1 eP1
      have tk := tpKeys fun e he => (tms e he).nl (NL.of sP1)
      have allQ : PySem.W.AllAlike ((ms.map ME.q).map dQ) := allAlike_Q _
      refine ⟨P1, _, _, rfl, .inl (.inl eP1), tk.dp, allQ, sortable_Q _, depth_Q _, fun P n2 => ?_⟩
      have sP := same_upd (o := .lst ((srtV ((kvM ms).map fun e => V.ref e.2.1) ((ms.map ME.q).map dQ)).map Prod.fst)) n2
      have eP : upd H3 P (.lst ((srtV ((kvM ms).map fun e => V.ref e.2.1) ((ms.map ME.q).map dQ)).map Prod.fst)) P = some (.lst ((srtV ((kvM ms).map fun e => V.ref e.2.1) ((ms.map ME.q).map dQ)).map Prod.fst)) := upd_same
      have tS := (srt_T tk).nl (NL.of sP)
      generalize upd H3 P (.lst ((srtV ((kvM ms).map fun e => V.ref e.2.1) ((ms.map ME.q).map dQ)).map Prod.fst)) = H4 at sP eP tS
      generalize (srtV ((kvM ms).map fun e => V.ref e.2.1) ((ms.map ME.q).map dQ)).map Prod.fst = pv at eP tS
      have pS := sortBy_perm dQ (ms.map ME.q)
      have wS := sortBy_pw dQ (ms.map ME.q)
      generalize sortBy dQ (ms.map ME.q) = S at tS pS wS
      have nS : S.Nodup := pS.nodup_iff.mpr ndm
      have lS : S.length ≤ m := by rw [pS.length_eq, List.length_map]; exact lms
      have lp : pv.length = S.length := by have := tS.len; rwa [List.length_map] at this
      have mS : ∀ q, q ∈ S ↔ (h0 q).isSome = true := fun q => by rw [pS.mem_iff, ← atM_some, fms]
      have s24 := sP1.trans sP
      have eO4 := s24 _ _ eO
      have s14 := sO.trans s24
      have PO : P ≠ O := fun e => by rw [e, sP1 _ _ eO] at n2; cases n2
      have gO : g ≠ O := fun e => by
        obtain ⟨_, dn1, _⟩ := hg.nl (NL.of s1)
        have := dn1.1
        rw [e, nO] at this
        cases this
      have dn4 := dn.nl (NL.of s24)
      refine ⟨P, rfl, ⟨_, .inl (.inl eP)⟩, for_list (xs := pv) (fun j σ' H' => ∃ (y8 y9 y10 : Option V) (os : List V), σ' = [some (.ref a), some (.ref g), some (.ref D), some (.ref g1), some (.ref f), some (.ref b), some (.ref c), some (.ref O), y8, y9, y10] ∧ Same H1 H' ∧ But O H4 H' ∧ H' O = some (.lst os) ∧ TpAll H' os ((ownL h0 l.L (S.take j)).map dSk)) ⟨y8, y9, y10, [], rfl, s14, But.refl _ _, eO4, .nil⟩ (fun i σ' H' _ hh => by obtain ⟨_, _, _, _, _, _, bt, _⟩ := hh; exact .inl (.inl (bt _ _ PO eP))) ?_ ?_⟩
      · rintro j x σ' H5 hx ⟨y8, y9, y10, os, rfl, s5, bt5, eO5, to5⟩
        have hj := (List.getElem?_eq_some_iff.mp hx).1
        obtain ⟨d, ed, tx⟩ := tS.get hx
        rw [List.getElem?_map] at ed
        obtain ⟨q0, eq0, rfl⟩ := Option.map_eq_some_iff.mp ed
        have nl5 : NL H4 H5 := NL.but bt5 eO4
        obtain ⟨kq, pgv, rfl, hkq, hpg⟩ := q_inv (tx.nl nl5)
        obtain ⟨pg, lv, rfl, hpg1, hpL⟩ := tpP_inv hpg
        have hg15 := s5 _ _ hg1
        have lo : os.length = (ownL h0 l.L (S.take j)).length := by have := to5.len; rwa [List.length_map] at this
        have lo2 : (ownL h0 l.L (S.take j)).length ≤ (S.take j).length := List.length_filterMap_le ..
        rw [List.length_take] at lo2
        have tk1 : ownL h0 l.L (S.take (j + 1)) = ownL h0 l.L (S.take j) ++ (ownF h0 l.L q0).toList := by
          unfold ownL
          rw [List.take_add_one, eq0, List.filterMap_append]
          cases e : ownF h0 l.L q0 with
          | none => simp [e]
          | some s => simp [e]
        refine ⟨kq, _, rfl, .inl (.inl hkq), rfl, _, _, rfl, _, _, rfl, _, _, rfl, rfl, ?_⟩
        refine ⟨_, rfl, pg, _, 0, .ref lv, rfl, rfl, .inl (.inl hpg1), rfl, _, rfl, dL q0.1.1, dL l.L, (tpL hpL).dp, (tpL hg15).dp, shaped_L _, shaped_L _, _, rfl, ?_⟩
        rw [eqv_L]
        refine ite2 (fun e => ?_) (fun e => ?_)
        · have e1 := of_decide_eq_true e
          have sm := (mS q0).mp (List.mem_of_getElem? eq0)
          obtain ⟨z, ez⟩ := Option.isSome_iff_exists.mp sm
          have of1 : ownF h0 l.L q0 = some (p3 q0, z) := by unfold ownF; rw [if_pos e1, ez]; rfl
          rw [of1] at tk1
          have tk1 : ownL h0 l.L (S.take (j + 1)) = ownL h0 l.L (S.take j) ++ [(p3 q0, z)] := tk1
          refine ⟨_, rfl, .inl ⟨rfl, _, .inl (.inl eO5)⟩, _, rfl, pg, _, 1, .int q0.1.2, rfl, rfl, .inl (.inl hpg1), rfl, _, rfl, _, rfl, _, rfl, _, rfl, _, rfl, _, rfl, (by show 3 ≤ sizeLine; decide), fun kb nk => ?_⟩
          have s6 := same_upd (o := .tup [.ref pg, .int q0.2.1, .int q0.2.2]) nk
          have hk : Tp (upd H5 kb (.tup [.ref pg, .int q0.2.1, .int q0.2.2])) (.ref kb) (dQ q0) := .tup upd_same (.cons (hpg.nl (NL.of s6)) (.cons (.int _) (.cons (.int _) .nil)))
          generalize upd H5 kb (.tup [.ref pg, .int q0.2.1, .int q0.2.2]) = H6 at s6 hk
          refine ⟨g, kvM ms, kb, dQ q0, .str z, rfl, (dn4.nl nl5).nl (NL.of s6), rfl, hk.dp, noL_Q _, dQ_depth _, by rw [atN_kvM, fms, ez]; rfl, (by show 4 ≤ sizeLine; decide), fun t9 nt => ?_⟩
          have s7 := same_upd (o := .tup [.int q0.1.2, .int q0.2.1, .int q0.2.2, .str z]) nt
          have ht9 : Tp (upd H6 t9 (.tup [.int q0.1.2, .int q0.2.1, .int q0.2.2, .str z])) (.ref t9) (dSk (p3 q0, z)) := .tup upd_same (.cons (.int _) (.cons (.int _) (.cons (.int _) (.cons (.str _) .nil))))
          generalize upd H6 t9 (.tup [.int q0.1.2, .int q0.2.1, .int q0.2.2, .str z]) = H7 at s7 ht9
          have s57 := s6.trans s7
          have eO7 := s57 _ _ eO5
          have m7 := (NL.refl H7).put eO7 (.lst (os ++ [.ref t9]))
          refine ⟨O, _, _, rfl, rfl, eO7, by rw [sizeLine_eq]; omega, _, _, _, os ++ [.ref t9], rfl, same_put (s5.trans s57) nO _, fun b' o ne eb => (upd_ne ne).trans (s57 _ _ (bt5 _ _ ne eb)), upd_same, ?_⟩
          rw [tk1, List.map_append]
          exact ((to5.nl (NL.of s57)).nl m7).snoc (ht9.nl m7)
        · have e1 : ¬ q0.1.1 = l.L := fun z => e (decide_eq_true z)
          have of1 : ownF h0 l.L q0 = none := if_neg e1
          rw [of1] at tk1
          have tk1 : ownL h0 l.L (S.take (j + 1)) = ownL h0 l.L (S.take j) := by rw [tk1]; exact List.append_nil _
          exact ⟨_, _, _, os, rfl, s5, bt5, eO5, by rw [tk1]; exact to5⟩
      · rintro σ' H5 ⟨y8, y9, y10, os, rfl, s5, bt5, eO5, to5⟩
        rw [lp, List.take_length] at to5
        have eD5 := s5 _ _ eD
        have lw : ws.length = i := by have := tw.len; rw [List.length_map] at this; omega
        refine ⟨_, rfl, .inl ⟨rfl, _, .inl (.inl eD5)⟩, _, rfl, _, rfl, _, rfl, _, rfl, O, _, rfl, .inl ⟨.inl (.inl eO5), fun T0 nT => ?_⟩⟩
        have s6 := same_upd (o := .tup os) nT
        have eT0 : upd H5 T0 (.tup os) T0 = some (.tup os) := upd_same
        generalize upd H5 T0 (.tup os) = H6 at s6 eT0
        refine ⟨(by show 4 ≤ sizeLine; decide), fun t9 nt => ?_⟩
        have s7 := same_upd (o := .tup [.ref g1, .ref f, .ref b, .ref T0]) nt
        have et9 : upd H6 t9 (.tup [.ref g1, .ref f, .ref b, .ref T0]) t9 = some (.tup [.ref g1, .ref f, .ref b, .ref T0]) := upd_same
        generalize upd H6 t9 (.tup [.ref g1, .ref f, .ref b, .ref T0]) = H7 at s7 et9
        have s57 := s6.trans s7
        have s17 := s5.trans s57
        have eD7 := s57 _ _ eD5
        have htl : Tp H7 (.ref t9) (dLp ⟨l.L, l.fr, l.bk, ownL h0 l.L S⟩) := tp_Lp et9 (s17 _ _ hg1) (s17 _ _ hf) (s17 _ _ hb) (s7 _ _ eT0) (to5.nl (NL.of s57))
        have m7 := (NL.refl H7).put eD7 (.lst (ws ++ [.ref t9]))
        refine ⟨D, _, _, rfl, rfl, eD7, small1000 (by omega), _, _, _, _, _, _, _, _, ws ++ [.ref t9], bk' ++ [⟨l.L, l.fr, l.bk, ownL h0 l.L S⟩], rfl, same_put (s1.trans s17) nD _, upd_same, ?_, ?_, ?_, ?_⟩
        · rw [List.map_append]
          exact ((tw.nl (NL.of s17)).nl m7).snoc (htl.nl m7)
        · rw [List.take_add_one, el]
          exact af.snoc (aft_lf wS nS (fun q h => (mS q).mpr h) rfl rfl rfl rfl)
        · intro x hx
          rcases List.mem_append.mp hx with h | h
          · exact lb _ h
          · rw [List.mem_singleton.mp h]
            exact Nat.le_trans (List.length_filterMap_le ..) lS
        · rw [List.length_append, li]; rfl
    · rintro σ' H1 ⟨y3, y4, y5, y6, y7, y8, y9, y10, ws, bk', rfl, s1, eD, tw, af, lb, li⟩
      rw [lu, List.take_length] at af
      exact ⟨_, rfl, q D ws bk' H1 s1 nD eD tw af lb⟩
theorem ok_is_within (T : Tab K mg) : FnOk P w K mg base CX0 2 T.f_is_within T.d_is_within ["thing", "least", "most"] (sp_is_within K) := by
  refine T.F_is_within.ok sc_is_within (fun vs H Q E h => ?_) (fun cdv A outer s H vs Q E hr h => ?_)
  · obtain ⟨v, d, l, m, rfl, _⟩ := h
    rfl
  · obtain ⟨v, d, l, m, rfl, hd, q⟩ := h
    refine ⟨_, (pss_one (ps_ret (pe_and (pe_call (ok_is_integer T) (hr.mono (by decide)) (by rfl) T.g_is_integer T.F_is_integer.kp T.b_is_integer .nil pass0 (pa_cons (pv 0) pa_nil)) (pe_one (pe_chain op_le op_le (pv 1) (pv 0) (pv 2)))))), ?_⟩
    refine ⟨_, rfl, _, d, rfl, hd, ?_⟩
    cases hd with
    | int i =>
      refine ⟨true, rfl, iteT ?_⟩
      refine ⟨_, rfl, _, rfl, _, _, rfl, rfl, _, rfl, ite2 (fun e => ?_) (fun e => ?_)⟩
      · have h1 : l ≤ i := of_decide_eq_true e
        refine ⟨_, rfl, _, _, rfl, rfl, ?_⟩
        have : wI l m (.int i) = decide (i ≤ m) := by
          show decide (l ≤ i ∧ i ≤ m) = _
          simp [h1]
        rw [this] at q
        exact q
      · have h1 : ¬ l ≤ i := fun h => e (decide_eq_true h)
        have : wI l m (.int i) = false := by
          show decide (l ≤ i ∧ i ≤ m) = _
          simp [h1]
        rw [this] at q
        exact q
    | non => exact ⟨false, rfl, q⟩
    | bl b => exact ⟨false, rfl, q⟩
    | str z => exact ⟨false, rfl, q⟩
    | lst h _ => exact ⟨false, rfl, q⟩
    | tup h _ => exact ⟨false, rfl, q⟩
theorem ok_is_sized (T : Tab K mg) : FnOk P w K mg base CX0 2 T.f_is_sized T.d_is_sized ["thing", "least", "most"] (sp_is_sized K) := by
  refine T.F_is_sized.ok sc_is_sized (fun vs H Q E h => ?_) (fun cdv A outer s H vs Q E hr h => ?_)
  · obtain ⟨v, d, l, m, rfl, _⟩ := h
    rfl
  · obtain ⟨v, d, l, m, rfl, hd, q⟩ := h
    refine ⟨_, (pss_one (ps_ret (pe_and (pe_call (ok_is_tuple T) (hr.mono (by decide)) (by rfl) T.g_is_tuple T.F_is_tuple.kp T.b_is_tuple .nil pass0 (pa_cons (pv 0) pa_nil)) (pe_one (pe_chain op_le op_le (pv 1) (pe_callB call_len_seq (by rfl) T.m_len PySem.boot_len (pa_cons (pv 0) pa_nil)) (pv 2)))))), ?_⟩
    refine ⟨_, rfl, _, d, rfl, .inl ⟨hd, fun H1 s1 => ?_⟩⟩
    have q1 := q H1 s1
    have cut : ∀ ds : List PyData, items d = some ds → ∀ e : Bool, (l ≤ (ds.length : Int)) → (decide ((ds.length : Int) ≤ m) = e) → sz l m d = e := fun ds hi e h1 h2 => by
      unfold sz
      rw [hi]
      simp only
      rw [← h2]
      simp [h1]
    have cut0 : ∀ ds : List PyData, items d = some ds → ¬ (l ≤ (ds.length : Int)) → sz l m d = false := fun ds hi h1 => by
      unfold sz
      rw [hi]
      simp [h1]
    cases hd with
    | lst h k =>
      rename_i a xs ds
      have el := dpAll_len k
      refine ⟨true, rfl, iteT ?_⟩
      refine ⟨_, rfl, _, rfl, _, _, rfl, .inl (s1.seq h), _, _, rfl, rfl, _, rfl, ite2 (fun e => ?_) (fun e => ?_)⟩
      · have h1 := of_decide_eq_true e
        rw [el] at h1 ⊢
        refine ⟨_, rfl, _, _, rfl, rfl, ?_⟩
        rw [cut ds rfl _ h1 rfl] at q1
        exact q1
      · have h1 : ¬ (l ≤ (ds.length : Int)) := fun z => e (by rw [el]; exact decide_eq_true z)
        rw [cut0 ds rfl h1] at q1
        exact q1
    | tup h k =>
      rename_i a xs ds
      have el := dpAll_len k
      refine ⟨true, rfl, iteT ?_⟩
      refine ⟨_, rfl, _, rfl, _, _, rfl, .inr (same_seqT s1 h), _, _, rfl, rfl, _, rfl, ite2 (fun e => ?_) (fun e => ?_)⟩
      · have h1 := of_decide_eq_true e
        rw [el] at h1 ⊢
        refine ⟨_, rfl, _, _, rfl, rfl, ?_⟩
        rw [cut ds rfl _ h1 rfl] at q1
        exact q1
      · have h1 : ¬ (l ≤ (ds.length : Int)) := fun z => e (by rw [el]; exact decide_eq_true z)
        rw [cut0 ds rfl h1] at q1
        exact q1
    | non => exact ⟨false, rfl, q1⟩
    | bl b => exact ⟨false, rfl, q1⟩
    | int i => exact ⟨false, rfl, q1⟩
    | str z => exact ⟨false, rfl, q1⟩
theorem ok_Leaf_says (T : Tab K mg) : FnOk P w K mg base CX0 2 T.f_Leaf_says T.d_Leaf_says ["self", "side", "row", "word"] (sp_Leaf_says K T.C_Leaf) := by
  refine T.F_Leaf_says.ok sc_Leaf_says (fun vs H Q E h => ?_) (fun cdv A outer s H vs Q E hr h => ?_)
  · obtain ⟨v, s, r, x, lf, rfl, _⟩ := h
    rfl
  · obtain ⟨v, s, r, x, lf, rfl, ⟨x0, dx, l, f, b, p, st, rfl, hx, hl, hf, hb, hp, o, hs⟩, ok, q⟩ := h
    refine ⟨_, (pss_cons (ps_if (pt_not (pt_val (pe_call (ok_is_place T) (hr.mono (by decide)) (by rfl) T.g_is_place T.F_is_place.kp T.b_is_place .nil pass0 (pa_cons (pe_fld (pv 0) rfl) (pa_cons (pe_fld (pv 0) rfl) (pa_cons (pe_tup (pa_cons (pv 1) (pa_cons (pv 2) (pa_cons (pv 3) pa_nil)))) pa_nil))))))
      (pss_one (ps_ret pe_non))
      pss_nil)
      (pss_cons (ps_set (i := 4) sc_Leaf_says.nd rfl (.inl rfl) (pe_ix ix_list (pe_split (pe_ix ix_tup (pe_meth (pv 0) T.cl_Leaf ⟨T.g_Leaf_side_rows, T.fn_Leaf_side_rows, T.F_Leaf_side_rows.kp⟩ (ok_Leaf_side_rows T) (hr.mono (by decide)) T.b_Leaf_side_rows .nil pass0 (pa_cons (pv 1) pa_nil)) (pv 2) (fun _ _ => rfl)) pe_str) (pv 3) (fun _ _ => rfl)))
      (pss_one (ps_ret (pe_dget2 (Nat.lt_of_le_of_lt (Nat.add_le_add_left (by decide) _) (un2 hr)) (pe_fld (pv 0) rfl) (pe_tup (pa_cons (pv 1) (pa_cons (pv 2) (pa_cons (pv 3) pa_nil)))) (pv 4) ⟨rfl, rfl, rfl, rfl⟩))))), ?_⟩
    obtain ⟨k1, k2, k3, k4, k5⟩ := id ok
    refine ⟨_, rfl, x0, _, dx, _, _, rfl, hx, T.cl_Leaf, T.na_Leaf_front, fLf_front, _, rfl, x0, _, dx, _, _, rfl, hx, T.cl_Leaf, T.na_Leaf_back, fLf_back, _, rfl, _, rfl, _, rfl, (by show 3 ≤ sizeLine; decide), fun t nt => ?_⟩
    have s0 := same_upd (o := .tup [.int s, .int r, .int x]) nt
    refine ⟨f, b, t, lf, (s, r, x), rfl, ⟨s0 _ _ hf, s0 _ _ hb, k2, k3⟩, upd_same, fun H1 s1 => ⟨_, rfl, ?_⟩⟩
    have s01 := s0.trans s1
    have q1 := q
    unfold saysL at q1
    cases hB : plB lf (s, r, x) with
    | false =>
      rw [hB] at q1
      refine iteT ?_
      exact q1 _ s01
    | true =>
      rw [hB] at q1
      refine iteF ?_
      obtain ⟨h1, h2, h3, h4⟩ := plB_in hB
      have hx1 := s01 _ _ hx
      have hl1 : LfAt T.C_Leaf H1 (.ref x0) lf := LfAt.nl (NL.of s01) ⟨x0, dx, l, f, b, p, st, rfl, hx, hl, hf, hb, hp, o, hs⟩
      obtain ⟨n, hn⟩ := Int.eq_ofNat_of_zero_le h2.1
      obtain ⟨m, hm⟩ := Int.eq_ofNat_of_zero_le h3
      obtain ⟨c1, c2⟩ := side_small k2 k3 s
      have ln : n < (sideR lf s).length := by
        have := h2.2
        simp only at this hn
        omega
      obtain ⟨y, ey⟩ : ∃ y, (sideR lf s)[n]? = some y := ⟨_, List.getElem?_eq_getElem ln⟩
      have yl := c2 y (List.mem_of_getElem? ey)
      have eg : (sideR lf s).getD r.toNat ⟨#[]⟩ = y := by
        rw [show r = (n : Int) from hn, List.getD_eq_getElem?_getD]
        show ((sideR lf s)[n]?).getD _ = y
        rw [ey]
        rfl
      have hm' : x = (m : Int) := hm
      have lm : m < (Txt.split y " ").length := by
        have z : x < ((toksR ((sideR lf s).getD r.toNat ⟨#[]⟩)).length : Int) := h4
        rw [eg] at z
        unfold toksR at z
        omega
      obtain ⟨tk, etk⟩ : ∃ tk, (Txt.split y " ")[m]? = some tk := ⟨_, List.getElem?_eq_getElem lm⟩
      have epr : prn lf (s, r, x) = tk := by
        show (toksR ((sideR lf s).getD r.toNat ⟨#[]⟩)).getD x.toNat ⟨#[]⟩ = tk
        rw [eg, hm', List.getD_eq_getElem?_getD]
        show ((Txt.split y " ")[m]?).getD _ = tk
        rw [etk]
        rfl
      rw [epr] at q1
      refine ⟨_, rfl, x0, dx, _, rfl, hx1, fLf_no (by decide +kernel), _, rfl, .ref x0, s, lf, rfl, hl1, fun a ha => ?_⟩
      refine ⟨_, rfl, a, _, _, _, rfl, rfl, .inl (.inl ha), (by rw [show r = (n : Int) from hn]; exact atI_nat (by rw [List.getElem?_map, ey]; rfl)), ⟨_, rfl⟩, _, _, rfl, rfl, rfl, Nat.le_of_lt (small1000 (by omega)), fun D nD => ?_⟩
      have s2 := same_upd (o := .lst ((Txt.split y " ").map V.str)) nD
      refine ⟨_, rfl, D, _, _, _, rfl, rfl, .inl (.inl upd_same), (by rw [hm']; exact atI_nat (by rw [List.getElem?_map, etk]; rfl)), ?_⟩
      have s02 := s01.trans s2
      refine ⟨_, rfl, x0, _, dx, _, _, rfl, s02 _ _ hx, T.cl_Leaf, T.na_Leaf__strokes, fLf_strokes, st, rfl, .inr ⟨_, .inr ⟨o, s02 _ _ hs⟩⟩, ?_⟩
      refine ⟨_, rfl, _, rfl, _, rfl, (by show 3 ≤ sizeLine; decide), fun t2 nt2 => ?_⟩
      have s3 := same_upd (o := .tup [.int s, .int r, .int x]) nt2
      refine ⟨_, rfl, _, .inr ⟨_, kSk ((s, r, x), tk), t2, .inr ⟨o, (s02.trans s3) _ _ hs⟩, rfl, upd_same, rfl⟩, ?_⟩
      rw [valT]
      have := q1 _ (s02.trans s3)
      rw [if_pos rfl] at this
      show Q ((Option.map V.str (penAt lf.pen (s, r, x))).getD (.str tk)) _
      cases hp2 : penAt lf.pen (s, r, x) with
      | none => rw [hp2] at this; exact this
      | some z => rw [hp2] at this; exact this
theorem ok_is_row (T : Tab K mg) : FnOk P w K mg base CX0 2 T.f_is_row T.d_is_row ["thing"] (sp_is_row K) := by
  refine T.F_is_row.ok sc_is_row (fun vs H Q E h => ?_) (fun cdv A outer s H vs Q E hr h => ?_)
  · obtain ⟨z, rfl, _⟩ := h
    rfl
  · obtain ⟨z, rfl, hz, q⟩ := h
    refine ⟨_, (pss_cons (ps_if (PW.pt (pw_or (pt_not (pt_val (pe_callB call_isi (by rfl) T.m_isinstance (by decide +kernel) (pa_cons (pv 0) (pa_cons (pe_bltn (v := .ty "str") (u := .type "str") (by rfl) T.m_str (by decide +kernel) rfl) pa_nil))))) (pw_or1 (pt_cmpR op_gt (pe_callB call_len_str (by rfl) T.m_len PySem.boot_len (pa_cons (pv 0) pa_nil)) (pe_glob (v := .int 120) (by rfl) T.c_LONGEST_ROW ⟨_, rfl⟩) (nomark _)))))
      (pss_one (ps_ret pe_bl))
      pss_nil)
      (pss_cons (ps_set (i := 1) sc_is_row.nd rfl (.inl rfl) (pe_split (pv 0) pe_str))
      (pss_one (ps_ret (pe_and (pe_cmpR op_le (pe_callB call_len_seq (by rfl) T.m_len PySem.boot_len (pa_cons (pv 1) pa_nil)) (pe_glob (v := .int 30) (by rfl) T.c_MOST_TOKENS ⟨_, rfl⟩) (nomark _)) (pe_one (pe_callB (cr_all rfl) (by rfl) T.m_all (by decide +kernel) (pa_cons (pe_lc (own := [("token", 2)]) (g := gName 2) (by rfl) sc_is_row.nd (pi_list (pv 1)) (blkOk_by (own := [("token", 2)]) (N := N_is_row) (sc := defScope s_is_row) (by decide +kernel)) (fun _ _ _ _ _ => pg_name (i := 2) sc_is_row.nd rfl (.inl rfl)) (fun _ _ _ _ _ => pts_nil) (fun _ _ _ _ _ => (pe_call (ok_is_token T) (hr.mono (by decide)) (by rfl) T.g_is_token T.F_is_token.kp T.b_is_token .nil pass0 (pa_cons (pv 2) pa_nil)))) pa_nil)))))))), ?_⟩
    refine ⟨_, rfl, _, _, _, _, _, rfl, .ty "str", .base (.str z), kit_ty (by decide +kernel), true, rfl, iteF ?_⟩
    have e2 : sizeLine = 16777216 := by decide
    have hd1 : 1 ≤ (" " : Str).length := by decide +kernel
    have hcnt := split_cnt z " " hd1
    refine ⟨_, rfl, z, rfl, (by omega), _, _, rfl, rfl, _, rfl, ite2 (fun e => ?_) (fun e => ?_)⟩
    · have e1 : (120 : Int) < z.length := of_decide_eq_true e
      have : rowB z = false := by
        unfold rowB
        rw [decide_eq_false (by omega)]
        rfl
      rw [← this]
      exact q H (Same.refl H)
    have e1 : z.length ≤ 120 := by
      have : ¬ (120 : Int) < z.length := fun h => e (decide_eq_true h)
      omega
    refine ⟨_, rfl, ⟨_, rfl⟩, z, _, rfl, rfl, (by decide +kernel), (by omega), fun p np => ?_⟩
    have ep : (upd H p (.lst ((Txt.split z " ").map V.str))) p = some (.lst ((Txt.split z " ").map V.str)) := upd_same
    have s1 := same_upd (o := .lst ((Txt.split z " ").map V.str)) np
    generalize upd H p (.lst ((Txt.split z " ").map V.str)) = H1 at ep s1
    have rb : rowB z = (decide ((Txt.split z " ").length ≤ 30) && (Txt.split z " ").all tokB) := by
      unfold rowB
      rw [decide_eq_true e1, Bool.true_and]
    refine ⟨_, rfl, p, _, rfl, .inl (.inl (.inl ep)), _, _, rfl, rfl, _, rfl, ite2 (fun e3 => ?_) (fun e3 => ?_)⟩
    · have e4 : (Txt.split z " ").length ≤ 30 := by
        have : (((Txt.split z " ").map V.str).length : Int) ≤ 30 := of_decide_eq_true e3
        rw [List.length_map] at this
        omega
      refine ⟨_, rfl, p, rfl, ⟨_, .inl (.inl ep)⟩, fun D nD => ?_⟩
      refine lc_fm (Txt.split z " ") (fun t => some (V.bl (tokB t))) (walkL (xs := (Txt.split z " ").map V.str) (List.length_map ..)) nD (fun H h => .inl (.inl (h _ _ ep))) (by omega) ?_ ?_
      · rintro i d x H2 H3 ed sm ⟨rfl, hx⟩ R N hR hN
        rw [List.getElem?_map, ed] at hx
        cases hx
        have hy1 := split_part z " " hd1 (List.mem_of_getElem? ed)
        exact ⟨rfl, _, rfl, d, rfl, by omega, hR _ rfl _ (Same.refl _)⟩
      · rintro H2 sm eD
        rw [map_fm, show (fun d => V.bl (tokB d)) = V.bl ∘ tokB from rfl, ← List.map_map] at eD
        refine ⟨D, _, rfl, .inl (.inl eD), ?_⟩
        rw [all_map]
        have := q H2 (s1.trans sm)
        rw [rb, decide_eq_true e4, Bool.true_and] at this
        exact this
    · have : rowB z = false := by
        rw [rb, decide_eq_false (fun h => e3 (decide_eq_true (by rw [List.length_map]; omega)))]
        rfl
      rw [← this]
      exact q H1 s1
theorem ok_judged_leaves (T : Tab K mg) : FnOk P w K mg base CX0 2 T.f_judged_leaves T.d_judged_leaves ["leaves"] (sp_judged_leaves K T.C_Leaf) := by
  refine T.F_judged_leaves.ok sc_judged_leaves (fun vs H Q E h => ?_) (fun cdv A outer s H vs Q E hr h => ?_)
  · obtain ⟨a, xs, bk, rfl, _⟩ := h
    rfl
  · obtain ⟨a, xs, bk, rfl, ha, hl, ⟨o1, o2, o3⟩, q⟩ := h
    refine ⟨_, (pss_cons (ps_if (PW.pt (pw_or (pt_not (pt_val (pe_call (ok_is_tuple T) (hr.mono (by decide)) (by rfl) T.g_is_tuple T.F_is_tuple.kp T.b_is_tuple .nil pass0 (pa_cons (pv 0) pa_nil)))) (pw_or1 (pt_not (pt_val (pe_callB (cr_all rfl) (by rfl) T.m_all (by decide +kernel) (pa_cons (pe_lc (own := [("leaf", 2)]) (g := gName 2) (by rfl) sc_judged_leaves.nd (pi_or (pi_list (pv 0)) (pi_tup (pv 0))) (blkOk_by (own := [("leaf", 2)]) (N := N_judged_leaves) (sc := defScope s_judged_leaves) (by decide +kernel)) (fun _ _ _ _ _ => pg_name (i := 2) sc_judged_leaves.nd rfl (.inl rfl)) (fun _ _ _ _ _ => pts_nil) (fun _ _ _ _ _ => (pe_callB (call_isiK' (K := K) rfl) (by rfl) T.m_isinstance (by decide +kernel) (pa_cons (pv 2) (pa_cons (pe_glob (v := .ref T.C_Leaf) (by rfl) T.cg_Leaf rfl) pa_nil))))) pa_nil)))))))
      (pss_one ps_never)
      pss_nil)
      (pss_cons (ps_if (pt_cmpR op_gt (pe_callB call_len_seq (by rfl) T.m_len PySem.boot_len (pa_cons (pv 0) pa_nil)) (pe_glob (v := .int 60) (by rfl) T.c_MOST_LEAVES ⟨_, rfl⟩) (nomark _))
      (pss_one ps_never)
      pss_nil)
      (pss_cons (ps_for PassesOwn.never rfl (pi_range2 (by rfl) T.m_range (pa_cons pe_int (pa_cons (pe_callB call_len_seq (by rfl) T.m_len PySem.boot_len (pa_cons (pv 0) pa_nil)) pa_nil))) (pg_name (i := 1) sc_judged_leaves.nd rfl (.inl rfl))
      (pss_one (ps_if (pt_cmpR (op_leD (un2 hr)) (pe_fld (pe_ix (IxR.or ix_list ix_tup) (pv 0) (pv 1) (fun _ _ => rfl)) rfl) (pe_fld (pe_ix (IxR.or ix_list ix_tup) (pv 0) (pe_op op_sub (pv 1) pe_int) (fun _ _ => rfl)) rfl) (nomark _))
        (pss_one ps_never)
        pss_nil)))
      (pss_one (ps_ret (pe_callTy call_tuple_of (by rfl) T.m_tuple (by decide +kernel) (pa_cons (pv 0) pa_nil))))))), ?_⟩
    have len := hl.len
    refine ⟨_, rfl, _, .none, rfl, .inr ⟨a, xs, rfl, .inl (.inl (.inl ha)), fun H1 s1 => ⟨_, rfl, iteF ?_⟩⟩⟩
    have ha1 := s1 _ _ ha
    refine .inl ⟨_, rfl, a, rfl, ⟨_, .inl (.inl ha1)⟩, fun D nD => ?_⟩
    refine lc_fm xs (fun _ => some (V.bl true)) (walkL (xs := xs) rfl) nD (fun H h => .inl (.inl (h _ _ ha1))) (by omega) ?_ ?_
    · rintro i d x H2 H3 ed sm ⟨rfl, hx⟩ R N hR hN
      obtain ⟨lf, _, y, dx, l, f, b, p, s, rfl, hy, _⟩ := hl.get hx
      exact ⟨rfl, _, rfl, _, _, _, _, _, rfl, .own T.C_Leaf, .base (.ins ((s1.trans sm) _ _ hy) T.cl_Leaf T.ca_Leaf T.cn_Leaf T.ct_Leaf T.cm_Leaf), kit_self, hR _ rfl _ (Same.refl _)⟩
    rintro H2 sm eD
    rw [map_fm, show (fun (_ : V) => V.bl true) = V.bl ∘ (fun _ => true) from rfl, ← List.map_map] at eD
    refine ⟨D, _, rfl, .inl (.inl eD), _, rfl, ?_⟩
    rw [all_map, List.all_eq_true.mpr (fun _ _ => rfl)]
    refine iteF ?_
    have s2 := s1.trans sm
    have ha2 := s2 _ _ ha
    refine ⟨_, rfl, a, xs, rfl, .inl (.inl (.inl ha2)), _, _, rfl, rfl, _, rfl, ite2 (fun e => ?_) (fun _ => ?_)⟩
    · have : (60 : Int) < xs.length := of_decide_eq_true e
      omega
    refine ⟨_, rfl, a, xs, rfl, .inl (.inl (.inl ha2)), 1, _, rfl, ⟨by decide, by decide, by omega, by omega⟩, for_range (lo := 1) (n := ((xs.length : Int) - 1).toNat) (fun j σ' H' => ∃ y, σ' = [some (.ref a), y, none] ∧ H' = H2) ⟨none, rfl, rfl⟩ ?_ ?_⟩
    · rintro j σ' H' hj ⟨y, rfl, rfl⟩
      have hj2 : j + 1 < bk.length := by omega
      obtain ⟨v1, e1, x1, dx1, l1, f1, b1, p1, t1, rfl, hx1, hl1, _⟩ := hl.get2 (List.getElem?_eq_getElem hj2)
      obtain ⟨v0, e0, x0, dx0, l0, f0, b0, p0, t0, rfl, hx0, hl0, _⟩ := hl.get2 (List.getElem?_eq_getElem (show j < bk.length by omega))
      refine ⟨_, rfl, _, rfl, .inl ⟨a, xs, _, _, rfl, rfl, .inl (.inl ha2), at_of' (by omega) e1, x1, _, dx1, _, _, rfl, s2 _ _ hx1, T.cl_Leaf, T.na_Leaf_label, fLf_label, ?_⟩⟩
      refine ⟨_, rfl, _, rfl, _, _, rfl, rfl, .inl ⟨a, xs, _, _, rfl, rfl, .inl (.inl ha2), at_of' (by omega) e0, x0, _, dx0, _, _, rfl, s2 _ _ hx0, T.cl_Leaf, T.na_Leaf_label, fLf_label, ?_⟩⟩
      refine ⟨_, _, (tpL (s2 _ _ hl1)).dp, (tpL (s2 _ _ hl0)).dp, alike_L _ _, (fun z => nomatch z), Nat.le_trans (depthL _) (by decide), false, congrArg V.bl ?_, iteF ⟨_, rfl, rfl⟩⟩
      show (!PySem.W.dataLt _ _) = false
      rw [dlt_L, (List.pairwise_iff_getElem.mp o3) j (j + 1) (by omega) hj2 (by omega)]
      rfl
    · rintro σ' H' ⟨y, rfl, rfl⟩
      exact ⟨_, rfl, a, xs, rfl, .inl ⟨.inl (.inl ha2), fun p np => q p _ (s2.trans (same_upd np)) upd_same⟩⟩
theorem ok_token (T : Tab K mg) : FnOk P w K mg base CX0 2 T.f_token T.d_token ["_law_source_here", "_law_most"] (sp_token K) := by
  refine T.F_token.ok sc_token (fun vs H Q E h => ?_) (fun cdv A outer s H vs Q E hr h => ?_)
  · obtain ⟨a, m, rfl, _⟩ := h
    rfl
  · obtain ⟨a, m, rfl, src, m1, m20, q⟩ := h
    refine ⟨_, (pss_cons (ps_set (i := 2) sc_token.nd rfl (.inl rfl) pe_str)
      (pss_cons (ps_set (i := 3) sc_token.nd rfl (.inl rfl) (pe_op op_add pe_int (pe_call (ok_pick T) (hr.mono (by decide)) (by rfl) T.g_pick T.F_pick.kp T.b_pick .nil pass0 (pa_cons (pv 0) (pa_cons (pv 1) pa_nil)))))
      (pss_cons (ps_set (i := 4) sc_token.nd rfl (.inl rfl) pe_str)
      (pss_cons (ps_for PassesOwn.never rfl (pi_range1 (by rfl) T.m_range (pa_cons (pv 3) pa_nil)) (pg_name (i := 5) sc_token.nd rfl (.inl rfl))
      (pss_cons (ps_set (i := 6) sc_token.nd rfl (.inl rfl) (pe_call (ok_pick T) (hr.mono (by decide)) (by rfl) T.g_pick T.F_pick.kp T.b_pick .nil pass0 (pa_cons (pv 0) (pa_cons (pe_callB call_len_str (by rfl) T.m_len PySem.boot_len (pa_cons (pv 2) pa_nil)) pa_nil))))
        (pss_one (ps_set (i := 4) sc_token.nd rfl (.inl rfl) (pe_op op_add_str (pv 4) (pe_ix ix_str (pv 2) (pv 6) (fun _ _ => rfl)))))))
      (pss_one (ps_ret (pv 4))))))), ?_⟩
    refine ⟨_, rfl, _, rfl, a, m, rfl, src, by omega, by omega, fun r H1 s1 b1 r0 r1 => ⟨_, _, rfl, rfl, ?_⟩⟩
    have e0 : ∀ x ∈ ("" : Str).cps.toList, x ≠ 32 ∧ x < 128 := fun x hx => by cases (show x ∈ ([] : List Nat) from hx)
    refine ⟨_, rfl, _, rfl, by omega, by omega, for_range (lo := 0) (n := (1 + r).toNat) (fun j σ' H' => ∃ (y5 y6 : Option V) (z : Str), σ' = [some (.ref a), some (.int m), some (.str SG), some (.int (1 + r)), some (.str z), y5, y6] ∧ Src H' a ∧ But a H H' ∧ z.length = j ∧ ∀ x ∈ z.cps.toList, x ≠ 32 ∧ x < 128) ⟨none, none, "", rfl, s1, b1, rfl, e0⟩ ?_ ?_⟩
    · rintro j σ' H2 hj ⟨y5, y6, z, rfl, s2, b2, lz, hz⟩
      refine ⟨_, rfl, _, rfl, SG, rfl, by rw [str_len, SG_len, sizeLine_eq]; decide, a, _, rfl, s2, by rw [str_len, SG_len]; decide, by rw [str_len, SG_len]; decide, fun i H3 s3 b3 i0 i1 => ?_⟩
      rw [str_len, SG_len] at i1
      obtain ⟨c, hc⟩ := at_some SG.cps.toList i i0 (by rw [SG_len]; omega)
      have cm : c ∈ SG.cps.toList := by
        obtain ⟨k, rfl⟩ := Int.eq_ofNat_of_zero_le i0
        have := List.getElem?_eq_getElem (show k < SG.cps.toList.length by rw [SG_len]; omega)
        rw [atI_nat this] at hc
        cases hc
        exact List.mem_of_getElem? this
      refine ⟨_, rfl, _, rfl, _, rfl, SG, i, c, rfl, rfl, by rw [str_len, SG_len, sizeLine_eq]; decide, hc, _, _, rfl, rfl, Nat.le_of_lt (small1000 (by have : (⟨#[c]⟩ : Str).length = 1 := rfl; omega)), _, _, _, rfl, s3, b2.trans b3, ?_, app_sgn hz (one_sgn (SG_sgn c cm))⟩
      rw [app_len, lz]
      rfl
    · rintro σ' H2 ⟨y5, y6, z, rfl, s2, b2, lz, hz⟩
      exact ⟨_, rfl, q z H2 s2 b2 (tok_of (by omega) (by omega) hz)⟩
theorem ok_label (T : Tab K mg) : FnOk P w K mg base CX0 2 T.f_label T.d_label ["_law_source_here"] (sp_label K) := by
  refine T.F_label.ok sc_label (fun vs H Q E h => ?_) (fun cdv A outer s H vs Q E hr h => ?_)
  · obtain ⟨a, rfl, _⟩ := h
    rfl
  · obtain ⟨a, rfl, src, q⟩ := h
    refine ⟨_, (pss_cons (ps_set (i := 1) sc_label.nd rfl (.inl rfl) (pe_ix ix_list (pe_lst (pa_cons pe_int (pa_cons pe_int (pa_cons pe_int pa_nil)))) (pe_call (ok_pick T) (hr.mono (by decide)) (by rfl) T.g_pick T.F_pick.kp T.b_pick .nil pass0 (pa_cons (pv 0) (pa_cons pe_int pa_nil))) (fun _ _ => rfl)))
      (pss_cons (ps_set (i := 2) sc_label.nd rfl (.inl rfl) (pe_op op_add pe_int (pe_call (ok_pick T) (hr.mono (by decide)) (by rfl) T.g_pick T.F_pick.kp T.b_pick .nil pass0 (pa_cons (pv 0) (pa_cons pe_int pa_nil)))))
      (pss_cons (ps_set (i := 3) sc_label.nd rfl (.inl rfl) (pe_lst pa_nil))
      (pss_cons (ps_for PassesOwn.never rfl (pi_range1 (by rfl) T.m_range (pa_cons (pv 2) pa_nil)) (pg_name (i := 4) sc_label.nd rfl (.inl rfl))
      (pss_one (ps_expr (pe_bm PySem.F.plainAttrs_list PySem.F.slot_list_append PySem.F.type_list_append mt_append (pv 3) (pa_cons (pe_call (ok_pick T) (hr.mono (by decide)) (by rfl) T.g_pick T.F_pick.kp T.b_pick .nil pass0 (pa_cons (pv 0) (pa_cons (pv 1) pa_nil))) pa_nil)))))
      (C8.pss_cut (ps_if (pt_cmpR op_eq (pe_ix ix_list (pv 3) (pe_un un_neg pe_int) (fun _ _ => rfl)) pe_int (nomark _))
      (pss_one (ps_asg pe_int (pg_sub (pv 3) (pe_un un_neg pe_int) set_list)))
      pss_nil)
      (pss_one (ps_ret (pe_callTy call_tuple_of (by rfl) T.m_tuple (by decide +kernel) (pa_cons (pv 3) pa_nil))))))))), ?_⟩
    refine ⟨(by show 3 ≤ sizeLine; decide), fun u nu => ?_⟩
    have su := same_upd (o := .lst [.int 3, .int 12, .int 100]) nu
    have hu : upd H u (.lst [.int 3, .int 12, .int 100]) u = some (.lst [.int 3, .int 12, .int 100]) := upd_same
    have un : u ≠ a := (src.ne nu).symm
    generalize upd H u (.lst [.int 3, .int 12, .int 100]) = H0 at su hu
    refine ⟨_, rfl, a, 3, rfl, srcS su src, by decide, by decide, fun i H1 s1 b1 i0 i1 => ?_⟩
    obtain ⟨m, em, m1, m9⟩ : ∃ m : Int, ([.int 3, .int 12, .int 100] : List V)[i.toNat]? = some (.int m) ∧ 1 ≤ m ∧ m ≤ 100 := by
      obtain h | h | h : i.toNat = 0 ∨ i.toNat = 1 ∨ i.toNat = 2 := by omega
      · rw [h]; exact ⟨3, rfl, by decide, by decide⟩
      · rw [h]; exact ⟨12, rfl, by decide, by decide⟩
      · rw [h]; exact ⟨100, rfl, by decide, by decide⟩
    refine ⟨u, _, i, .int m, rfl, rfl, .inl (.inl (b1 _ _ un hu)), at_of' (Int.toNat_of_nonneg i0).symm em, ?_⟩
    have b01 := (But.of (a := a) su).trans b1
    refine ⟨_, rfl, a, 3, rfl, s1, by decide, by decide, fun n1 H2 s2 b2 p1 p2 => ⟨_, _, rfl, rfl, ?_⟩⟩
    have b02 := b01.trans b2
    refine ⟨Nat.zero_le _, fun D nD => ?_⟩
    have nDa : D ≠ a := (s2.ne nD).symm
    have fD : H D = none := b02.none nD nDa
    refine ⟨_, rfl, _, rfl, by omega, by omega, for_range (lo := 0) (n := (1 + n1).toNat) (fun j σ' H' => ∃ (y4 : Option V), σ' = [some (.ref a), some (.int m), some (.int (1 + n1)), some (.ref D), y4] ∧ Src H' a ∧ But a H H' ∧ ∃ L : List Int, H' D = some (.lst (L.map V.int)) ∧ L.length = j ∧ ∀ i ∈ L, 0 ≤ i ∧ i ≤ 99) ⟨none, rfl, s2.put nDa.symm _, b02.put fD _, [], upd_same, rfl, fun _ h => nomatch h⟩ ?_ ?_⟩
    · rintro j σ' H3 hj ⟨y4, rfl, s3, b3, L, eD, lL, bL⟩
      refine ⟨_, rfl, .inl ⟨rfl, _, .inl (.inl eD)⟩, _, rfl, _, rfl, a, m, rfl, s3, by omega, by omega, fun v H4 s4 b4 p3 p4 => ?_⟩
      refine ⟨D, _, _, rfl, rfl, b4 _ _ nDa eD, by rw [List.length_map]; exact small1000 (by omega), _, rfl, s4.put nDa.symm _, (b3.trans b4).put fD _, L ++ [v], ?_, ?_, ?_⟩
      · rw [upd_same, List.map_append]; rfl
      · rw [List.length_append, lL]; rfl
      · intro i hi
        rcases List.mem_append.mp hi with h | h
        · exact bL _ h
        · rw [List.mem_singleton.mp h]; omega
    · rintro σ' H3 ⟨y4, rfl, s2, b2, L, eD2, lL, bL⟩
      have hne : L ≠ [] := fun e => by rw [e] at lL; simp at lL; omega
      obtain ⟨R, x, rfl⟩ : ∃ R x, L = R ++ [x] := ⟨_, _, (List.dropLast_concat_getLast hne).symm⟩
      have hx := bL x (by simp)
      have lR : (R ++ [x]).length ≤ 3 := by omega
      refine ⟨fun σ' H' => ∃ (L : List Int), σ' = [some (.ref a), some (.int m), some (.int (1 + n1)), some (.ref D), y4] ∧ Src H' a ∧ But a H H' ∧ H' D = some (.lst (L.map V.int)) ∧ okL L, ?_, ?_⟩
      · refine ⟨_, rfl, 1, rfl, D, _, -1, .int x, rfl, rfl, .inl (.inl eD2), at_end R x, rfl, _, rfl, ite2 (fun e => ?_) (fun e => ?_)⟩
        · refine ⟨_, rfl, 1, rfl, D, _, -1, _, rfl, rfl, eD2, ixN_end R x, ?_⟩
          refine ⟨R ++ [1], rfl, s2.put nDa.symm _, b2.put fD _, ?_, ?_, ?_, ?_⟩
          · rw [upd_same, set_end]
          · rw [List.length_append] at lR ⊢; exact lR
          · rw [List.getLastD_eq_getLast?, List.getLast?_append]
            show (1 : Int) ≠ 0
            omega
          · intro i hi
            rcases List.mem_append.mp hi with h | h
            · exact bL _ (List.mem_append_left _ h)
            · rw [List.mem_singleton.mp h]; omega
        · have hx0 : x ≠ 0 := fun h => e (decide_eq_true (congrArg V.int h))
          refine ⟨_, rfl, s2, b2, eD2, lR, ?_, bL⟩
          rw [List.getLastD_eq_getLast?, List.getLast?_append]
          exact hx0
      · rintro σ' H4 ⟨L, rfl, s3, b3, eD3, hL⟩
        refine ⟨_, rfl, D, _, rfl, .inl ⟨.inl (.inl eD3), fun l nl => ?_⟩⟩
        have nla : l ≠ a := (s3.ne nl).symm
        exact q l L _ (s3.put nla.symm _) (b3.trans (But.of (same_upd nl))) upd_same hL
theorem ok_paper_row (T : Tab K mg) : FnOk P w K mg base CX0 2 T.f_paper_row T.d_paper_row ["_law_source_here", "_law_pool"] (sp_paper_row K) := by
  refine T.F_paper_row.ok sc_paper_row (fun vs H Q E h => ?_) (fun cdv A outer s H vs Q E hr h => ?_)
  · obtain ⟨a, b, zs, rfl, _⟩ := h
    rfl
  · obtain ⟨a, b, zs, rfl, src, ba, hb, ⟨wz, z2, z9, dz⟩, q⟩ := h
    refine ⟨_, (pss_cons (ps_set (i := 2) sc_paper_row.nd rfl (.inl rfl) (pe_op op_add pe_int (pe_call (ok_pick T) (hr.mono (by decide)) (by rfl) T.g_pick T.F_pick.kp T.b_pick .nil pass0 (pa_cons (pv 0) (pa_cons pe_int pa_nil)))))
      (C8.pss_cut (ps_if (pt_cmpR op_eq (pe_call (ok_pick T) (hr.mono (by decide)) (by rfl) T.g_pick T.F_pick.kp T.b_pick .nil pass0 (pa_cons (pv 0) (pa_cons pe_int pa_nil))) pe_int (nomark _))
      (pss_one (ps_set (i := 2) sc_paper_row.nd rfl (.inl rfl) (pe_op op_add pe_int (pe_call (ok_pick T) (hr.mono (by decide)) (by rfl) T.g_pick T.F_pick.kp T.b_pick .nil pass0 (pa_cons (pv 0) (pa_cons pe_int pa_nil))))))
      pss_nil)
      (pss_cons (ps_set (i := 3) sc_paper_row.nd rfl (.inl rfl) (pe_lst pa_nil))
      (pss_cons (ps_set (i := 4) sc_paper_row.nd rfl (.inl rfl) pe_int)
      (pss_cons (ps_for PassesOwn.never rfl (pi_range1 (by rfl) T.m_range (pa_cons (pv 2) pa_nil)) (pg_name (i := 5) sc_paper_row.nd rfl (.inl rfl))
      (pss_cons (ps_set (i := 6) sc_paper_row.nd rfl (.inl rfl) (pe_call (ok_pick T) (hr.mono (by decide)) (by rfl) T.g_pick T.F_pick.kp T.b_pick .nil pass0 (pa_cons (pv 0) (pa_cons (pe_callB call_len_seq (by rfl) T.m_len PySem.boot_len (pa_cons (pv 1) pa_nil)) pa_nil))))
        (pss_one (ps_if (pt_cmpR op_lt (pe_callB call_len_str (by rfl) T.m_len PySem.boot_len (pa_cons (pe_ix ix_list (pv 1) (pv 6) (fun _ _ => rfl)) pa_nil)) (pv 4) (nomark _))
        (pss_cons (ps_expr (pe_bm PySem.F.plainAttrs_list PySem.F.slot_list_append PySem.F.type_list_append mt_append (pv 3) (pa_cons (pe_ix ix_list (pv 1) (pv 6) (fun _ _ => rfl)) pa_nil)))
          (pss_one (ps_set (i := 4) sc_paper_row.nd rfl (.inl rfl) (pe_op op_sub (pe_op op_sub (pv 4) (pe_callB call_len_str (by rfl) T.m_len PySem.boot_len (pa_cons (pe_ix ix_list (pv 1) (pv 6) (fun _ _ => rfl)) pa_nil))) pe_int))))
        pss_nil))))
      (pss_one (ps_ret (pe_join pe_str (pv 3))))))))), ?_⟩
    refine ⟨_, rfl, a, 4, rfl, src, by decide, by decide, fun i1 H1 s1 b1 i10 i11 => ⟨_, _, rfl, rfl, ?_⟩⟩
    refine ⟨fun σ' H' => ∃ n : Int, σ' = [some (.ref a), some (.ref b), some (.int n), none, none, none, none] ∧ Src H' a ∧ But a H H' ∧ 1 ≤ n ∧ n ≤ 30, ?_, ?_⟩
    · refine ⟨_, rfl, a, 16, rfl, s1, by decide, by decide, fun r2 H2 s2 b2 r20 r21 => ⟨rfl, _, rfl, ite2 (fun e => ?_) (fun e => ?_)⟩⟩
      · exact ⟨_, rfl, a, 30, rfl, s2, by decide, by decide, fun r3 H3 s3 b3 r30 r31 => ⟨_, _, rfl, rfl, 1 + r3, rfl, s3, (b1.trans b2).trans b3, by omega, by omega⟩⟩
      · exact ⟨1 + i1, rfl, s2, b1.trans b2, by omega, by omega⟩
    rintro σ' H2 ⟨n, rfl, s2, b2, n1, n30⟩
    refine ⟨Nat.zero_le _, fun D nD => ?_⟩
    have nDa : D ≠ a := (s2.ne nD).symm
    have hb2 := b2 _ _ ba hb
    have bD : b ≠ D := ne_of_none hb2 nD
    have fD : H D = none := b2.none nD nDa
    refine ⟨_, rfl, _, rfl, by omega, by omega, for_range (lo := 0) (n := n.toNat) (fun j σ' H' => ∃ (ys : List Str) (y5 y6 : Option V), σ' = [some (.ref a), some (.ref b), some (.int n), some (.ref D), some (.int (121 - (lenS ys + ys.length : Nat))), y5, y6] ∧ Src H' a ∧ But a H H' ∧ H' D = some (.lst (ys.map V.str)) ∧ ys.length ≤ j ∧ (j ≠ 0 → ys ≠ []) ∧ (∀ y ∈ ys, Wd y) ∧ lenS ys + ys.length ≤ 121) ⟨[], none, none, rfl, s2.put nDa.symm _, b2.put fD _, upd_same, Nat.le_refl _, fun h => absurd rfl h, (fun _ h => nomatch h), by decide⟩ ?_ ?_⟩
    · rintro j σ' H3 hj ⟨ys, y5, y6, rfl, s3, b3, eD, ly, ny, wy, le⟩
      have hb3 := b3 _ _ ba hb
      refine ⟨_, rfl, _, rfl, b, _, rfl, .inl (.inl (.inl hb3)), a, _, rfl, s3, by rw [List.length_map]; omega, by rw [List.length_map]; omega, fun i H4 s4 b4 i0 i1' => ?_⟩
      rw [List.length_map] at i1'
      have hi : i.toNat < zs.length := by omega
      have eo := List.getElem?_eq_getElem hi
      generalize zs[i.toNat] = z at eo
      have mo := List.mem_of_getElem? eo
      have hb4 := b4 _ _ ba hb3
      have eD4 := b4 _ _ nDa eD
      have b04 := b3.trans b4
      have zl := (wz z mo).len
      have at4 := at_of' (v := V.str z) (xs := zs.map V.str) (Int.toNat_of_nonneg i0).symm (by rw [List.getElem?_map, eo]; rfl)
      have zs4 : z.length ≤ sizeLine := by rw [sizeLine_eq]; omega
      refine ⟨_, rfl, _, rfl, b, _, i, .str z, rfl, rfl, .inl (.inl hb4), at4, z, rfl, zs4, _, rfl, _, _, rfl, rfl, _, rfl, ite2 (fun e => ?_) (fun e => ?_)⟩
      · have e1 := of_decide_eq_true e
        refine ⟨_, rfl, .inl ⟨rfl, _, .inl (.inl eD4)⟩, _, rfl, _, rfl, b, _, i, .str z, rfl, rfl, .inl (.inl hb4), at4, D, _, _, rfl, rfl, eD4, by rw [List.length_map]; exact small1000 (by omega), ?_⟩
        have hb5 : upd H4 D (.lst (ys.map V.str ++ [.str z])) b = some (.lst (zs.map V.str)) := (upd_ne bD).trans hb4
        have s5 := s4.put nDa.symm (.lst (ys.map V.str ++ [.str z]))
        have b5 := b04.put fD (.lst (ys.map V.str ++ [.str z]))
        have eD5 : upd H4 D (.lst (ys.map V.str ++ [.str z])) D = some (.lst ((ys ++ [z]).map V.str)) := by rw [upd_same, List.map_append]; rfl
        generalize upd H4 D (.lst (ys.map V.str ++ [.str z])) = H5 at hb5 s5 b5 eD5
        have er : (121 - (lenS ys + ys.length : Nat) : Int) - z.length - 1 = 121 - (lenS (ys ++ [z]) + (ys ++ [z]).length : Nat) := by
          rw [lenS_snoc, List.length_append, List.length_singleton]
          omega
        refine ⟨_, rfl, _, rfl, _, rfl, b, _, i, .str z, rfl, rfl, .inl (.inl hb5), at4, z, rfl, zs4, _, _, rfl, rfl, _, _, rfl, rfl, ys ++ [z], _, _, by rw [← er]; rfl, s5, b5, eD5, ?_, ?_, ?_, ?_⟩
        · rw [List.length_append, List.length_singleton]; omega
        · intro _ h; simp at h
        · intro y hy
          rcases List.mem_append.mp hy with h | h
          · exact wy _ h
          · rw [List.mem_singleton.mp h]; exact wz z mo
        · rw [lenS_snoc, List.length_append, List.length_singleton]; omega
      · refine ⟨ys, _, _, rfl, s4, b04, eD4, by omega, fun _ h => e (decide_eq_true ?_), wy, le⟩
        rw [h]
        show (z.length : Int) < 121
        omega
    · rintro σ' H3 ⟨ys, y5, y6, rfl, s3, b3, eD, ly, ny, wy, le⟩
      have rw_ := row_of (ny (by omega)) wy (by omega) le
      refine ⟨⟨_, rfl⟩, _, rfl, _, D, ys, rfl, rfl, .inl (.inl (.inl eD)), ?_, q _ H3 s3 b3 rw_.1 rw_.2⟩
      have e1 : (" " : Str).length = 1 := by decide +kernel
      have e2 : (List.map (fun x => x.length) ys).sum = lenS ys := rfl
      rw [e2]
      show lenS ys + ys.length * (" " : Str).length ≤ 16777216
      rw [e1]
      omega
theorem ok_pen (T : Tab K mg) : FnOk P w K mg base CX0 2 T.f_pen T.d_pen ["_law_source_here", "_law_sides", "_law_pool"] (sp_pen K) := by
  refine T.F_pen.ok sc_pen (fun vs H Q E h => ?_) (fun cdv A outer s H vs Q E hr h => ?_)
  · obtain ⟨a, s, b, f, k0, zs, lf, rfl, _⟩ := h
    rfl
  · obtain ⟨a, s, b, f, k0, zs, lf, rfl, src, ba, sa, hb, ⟨wz, z2, z9, dz⟩, hs, hrw, q⟩ := h
    refine ⟨_, (pss_cons (ps_set (i := 3) sc_pen.nd rfl (.inr rfl) pe_dnewN)
      (pss_cons (ps_for PassesOwn.never rfl (pi_range1 (by rfl) T.m_range (pa_cons (pe_call (ok_pick T) (hr.mono (by decide)) (by rfl) T.g_pick T.F_pick.kp T.b_pick .nil pass0 (pa_cons (pv 0) (pa_cons pe_int pa_nil))) pa_nil)) (pg_name (i := 4) sc_pen.nd rfl (.inl rfl))
      (pss_cons (ps_set (i := 5) sc_pen.nd rfl (.inl rfl) (pe_call (ok_pick T) (hr.mono (by decide)) (by rfl) T.g_pick T.F_pick.kp T.b_pick .nil pass0 (pa_cons (pv 0) (pa_cons pe_int pa_nil))))
        (pss_one (ps_if (pt_truth (pe_ix ix_list (pv 1) (pv 5) (fun _ _ => rfl)) (fun _ => rfl))
        (pss_cons (ps_set (i := 6) sc_pen.nd rfl (.inl rfl) (pe_call (ok_pick T) (hr.mono (by decide)) (by rfl) T.g_pick T.F_pick.kp T.b_pick .nil pass0 (pa_cons (pv 0) (pa_cons (pe_callB call_len_seq (by rfl) T.m_len PySem.boot_len (pa_cons (pe_ix ix_list (pv 1) (pv 5) (fun _ _ => rfl)) pa_nil)) pa_nil))))
          (pss_cons (ps_set (i := 7) sc_pen.nd rfl (.inl rfl) (pe_call (ok_pick T) (hr.mono (by decide)) (by rfl) T.g_pick T.F_pick.kp T.b_pick .nil pass0 (pa_cons (pv 0) (pa_cons (pe_callB call_len_seq (by rfl) T.m_len PySem.boot_len (pa_cons (pe_split (pe_ix ix_tup (pe_ix ix_list (pv 1) (pv 5) (fun _ _ => rfl)) (pv 6) (fun _ _ => rfl)) pe_str) pa_nil)) pa_nil))))
          (pss_cons (ps_set (i := 8) sc_pen.nd rfl (.inl rfl) (pe_call (ok_pick T) (hr.mono (by decide)) (by rfl) T.g_pick T.F_pick.kp T.b_pick .nil pass0 (pa_cons (pv 0) (pa_cons (pe_callB call_len_seq (by rfl) T.m_len PySem.boot_len (pa_cons (pv 2) pa_nil)) pa_nil))))
          (pss_one (ps_nput (by have z := hr.units; exact z) (pv 3) (pe_tup (pa_cons (pv 5) (pa_cons (pv 6) (pa_cons (pv 7) pa_nil)))) (pe_ix ix_list (pv 2) (pv 8) (fun _ _ => rfl)) rfl)))))
        pss_nil))))
      (pss_one (ps_ret (pe_callTy call_tuple_of (by rfl) T.m_tuple (by decide +kernel) (pa_cons (pe_lc (own := [("_law_spot_here", 9)]) (g := gName 9) (by rfl) sc_pen.nd (pi_list (pe_callB (cr_sortedD (un2 hr)) (by rfl) T.m_sorted (by decide +kernel) (pa_cons (pe_callTy (call_listN rfl) (by rfl) T.m_list (by decide +kernel) (pa_cons (pv 3) pa_nil)) pa_nil))) (blkOk_by (own := [("_law_spot_here", 9)]) (N := N_pen) (sc := defScope s_pen) (by decide +kernel)) (fun _ _ _ _ _ => pg_name (i := 9) sc_pen.nd rfl (.inl rfl)) (fun _ _ _ _ _ => pts_nil) (fun _ _ _ _ _ => (pe_op (op_catAK (K := K) rfl) (pv 9) (pe_tup (pa_cons (pe_ngetK (K := K) (w := w) rfl rfl (Nat.lt_of_le_of_lt (Nat.add_le_add_left (by decide) _) (un2 hr)) (pv 3) (pv 9) (fun _ _ => rfl)) pa_nil))))) pa_nil)))))), ?_⟩
    obtain ⟨hf, hk0, k1, k2⟩ := hrw
    refine fun D nD => ?_
    have nDa : D ≠ a := (src.ne nD).symm
    have src0 := src.put nDa.symm (rawN w D [])
    have b00 := (But.refl a H).put nD (rawN w D [])
    have mq0 : MqAt w (upd H D (rawN w D [])) D (fun _ => none) 0 := MqAt.zero
    refine ⟨_, rfl, a, 4, rfl, src0, by decide, by decide, fun n1 H1 s1 b1 n10 n14 => ?_⟩
    refine ⟨_, rfl, by omega, by omega, for_range (lo := 0) (n := n1.toNat) (fun j σ' H' => ∃ (y4 y5 y6 y7 y8 : Option V) (F : MG), σ' = [some (.ref a), some (.ref s), some (.ref b), some (.ref D), y4, y5, y6, y7, y8, none] ∧ Src H' a ∧ But a H H' ∧ MqAt w H' D F j ∧ ∀ p z, F p = some z → plB lf p = true ∧ Wd z) ⟨none, none, none, none, none, _, rfl, s1, b00.trans b1, mq0.nl (src0.nl b1), fun _ _ h => nomatch h⟩ ?_ ?_⟩
    · rintro j σ' H2 hj ⟨y4, y5, y6, y7, y8, F, rfl, s2, b2, mq, okF⟩
      refine ⟨_, rfl, a, 2, rfl, s2, by decide, by decide, fun sd H3 s3 b3 d0 d1 => ?_⟩
      have b03 := b2.trans b3
      have m03 := src.nl b03
      have hs3 := b03 _ _ sa hs
      obtain ⟨va, ats, hva⟩ : ∃ va, ([.ref f, .ref k0] : List V)[sd.toNat]? = some (.ref va) ∧ H va = some (.tup ((sideR lf sd).map V.str)) := by
        obtain h | h : sd = 0 ∨ sd = 1 := by omega
        · rw [h]; exact ⟨f, rfl, hf⟩
        · rw [h]; exact ⟨k0, rfl, hk0⟩
      have hva3 := m03 _ _ hva (fun _ z => nomatch z)
      have at1 := at_of' (Int.toNat_of_nonneg d0).symm ats
      obtain ⟨c1, c2⟩ := side_small k1 k2 sd
      have mq3 := mq.nl (s2.nl b3)
      refine ⟨_, rfl, _, rfl, s, _, sd, .ref va, rfl, rfl, .inl (.inl hs3), at1, !((sideR lf sd).map V.str).isEmpty, .inr (.inl ⟨_, .inl (.inl hva3), rfl⟩), ite2 (fun e => ?_) (fun e => ?_)⟩
      · have up : 0 < (sideR lf sd).length := by
          cases h : sideR lf sd with
          | nil => rw [h] at e; cases e
          | cons _ _ => exact Nat.succ_pos _
        refine ⟨_, rfl, _, rfl, _, rfl, s, _, sd, .ref va, rfl, rfl, .inl (.inl hs3), at1, va, _, rfl, .inr (.inl (.inl hva3)), a, _, rfl, s3, by rw [List.length_map]; omega, by rw [List.length_map]; omega, fun r H4 s4 b4 r0 r1 => ?_⟩
        rw [List.length_map] at r1
        have hr : r.toNat < (sideR lf sd).length := by omega
        have ey := List.getElem?_eq_getElem hr
        have eg : (sideR lf sd).getD r.toNat ⟨#[]⟩ = (sideR lf sd)[r.toNat] := by rw [List.getD_eq_getElem?_getD, ey]; rfl
        generalize (sideR lf sd)[r.toNat] = y at ey eg
        have yl := c2 y (List.mem_of_getElem? ey)
        have b04 := b03.trans b4
        have hs4 := b04 _ _ sa hs
        have hva4 := (src.nl b04) _ _ hva (fun _ z => nomatch z)
        have at2 := at_of' (v := V.str y) (xs := (sideR lf sd).map V.str) (Int.toNat_of_nonneg r0).symm (by rw [List.getElem?_map, ey]; rfl)
        refine ⟨_, rfl, _, rfl, _, rfl, s, _, sd, .ref va, rfl, rfl, .inl (.inl hs4), at1, _, rfl, va, _, r, .str y, rfl, rfl, .inl (.inl hva4), at2, ⟨_, rfl⟩, y, _, rfl, rfl, (by decide +kernel), (by rw [sizeLine_eq]; omega), fun W nW => ?_⟩
        have sW := same_upd (o := .lst ((Txt.split y (Str.ofString " ")).map V.str)) nW
        have sk4 := srcS sW s4
        have b04W := b04.trans (But.of sW)
        have mq4 := (mq3.nl (s3.nl b4)).nl (NL.of sW)
        refine ⟨W, _, rfl, .inl (.inl (.inl upd_same)), a, _, rfl, sk4, by rw [List.length_map]; omega, by rw [List.length_map]; have : (Txt.split y (Str.ofString " ")).length ≤ 30 := yl.2.1; omega, fun wd H5 s5 b5 w0 w1 => ?_⟩
        rw [List.length_map] at w1
        have b05 := b04W.trans b5
        have mq5 := mq4.nl (sk4.nl b5)
        have hb5 := b05 _ _ ba hb
        have tl1 : 1 ≤ (Txt.split y (Str.ofString " ")).length := List.length_pos_iff.mpr (split_ne _ _)
        have hpl : plB lf (sd, r, wd) = true := by
          unfold plB
          rw [show (sideR lf (sd, r, wd).1).getD (sd, r, wd).2.1.toNat ⟨#[]⟩ = y from eg]
          simp only [Bool.and_eq_true, Bool.or_eq_true, decide_eq_true_eq]
          refine ⟨by omega, ⟨r0, by omega⟩, w0, ?_⟩
          show wd < ((Txt.split y (Str.ofString " ")).length : Nat)
          omega
        refine ⟨_, rfl, _, rfl, b, _, rfl, .inl (.inl (.inl hb5)), a, _, rfl, s5, by rw [List.length_map]; omega, by rw [List.length_map]; omega, fun i H6 s6 b6 i0 i1 => ?_⟩
        rw [List.length_map] at i1
        have hi : i.toNat < zs.length := by omega
        have eo := List.getElem?_eq_getElem hi
        generalize zs[i.toNat] = z at eo
        have mo := List.mem_of_getElem? eo
        have b06 := b05.trans b6
        have hb6 := b06 _ _ ba hb
        refine ⟨_, rfl, _, rfl, b, _, i, .str z, rfl, rfl, .inl (.inl hb6), at_of' (Int.toNat_of_nonneg i0).symm (by rw [List.getElem?_map, eo]; rfl), _, rfl, _, rfl, _, rfl, _, rfl, (by show 3 ≤ sizeLine; decide), fun kb nk => ?_⟩
        have s7 := same_upd (o := .tup [.int sd, .int r, .int wd]) nk
        have hk : Tp (upd H6 kb (.tup [.int sd, .int r, .int wd])) (.ref kb) (dP3 (sd, r, wd)) := tpL (L := plL (sd, r, wd)) upd_same
        have sk7 := srcS s7 s6
        have b07 := b06.trans (But.of s7)
        have mq7 := (mq5.nl (s5.nl b6)).nl (NL.of s7)
        generalize upd H6 kb (.tup [.int sd, .int r, .int wd]) = H7 at s7 hk sk7 b07 mq7
        obtain ⟨ms, dn, tms, fms, ndm, lms⟩ := mq7
        refine ⟨D, kv3 ms, kb, nkD (dP3 (sd, r, wd)), rfl, rfl, dn, nkey_3 hk, by rw [sizeLine_eq]; unfold kv3; rw [List.length_map]; omega, _, _, _, _, _, _, rfl, sk7.put nDa.symm _, b07.put nD _, MqAt.put dn tms fms ndm lms hk, ?_⟩
        intro p z9 h
        by_cases e9 : p = (sd, r, wd)
        · rw [if_pos e9] at h
          injection h with h
          rw [e9, ← h]
          exact ⟨hpl, wz z mo⟩
        · rw [if_neg e9] at h
          exact okF p z9 h
      · exact ⟨_, _, _, _, _, F, rfl, s3, b03, mq3.mono (Nat.le_succ _), okF⟩
    · rintro σ' H2 ⟨y4, y5, y6, y7, y8, F, rfl, s2, b2, mq, okF⟩
      obtain ⟨ms, dn, tms, fms, ndm, lms⟩ := mq
      refine ⟨_, rfl, D, _, rfl, dn, fun P1 n1' => ?_⟩
      have sP1 := same_upd (o := .lst ((kv3 ms).map fun e => V.ref e.2.1)) n1'
      have eP1 : upd H2 P1 (.lst ((kv3 ms).map fun e => V.ref e.2.1)) P1 = some (.lst ((kv3 ms).map fun e => V.ref e.2.1)) := upd_same
      generalize upd H2 P1 (.lst ((kv3 ms).map fun e => V.ref e.2.1)) = H3 at sP1 eP1
      have tk := tpKeys3 fun e he => (tms e he).nl (NL.of sP1)
      refine ⟨P1, _, _, rfl, .inl (.inl eP1), tk.dp, allAlike_3 _, sortable_3 _, depth_3 _, fun P n2 => ?_⟩
      have sP := same_upd (o := .lst ((srtV ((kv3 ms).map fun e => V.ref e.2.1) ((ms.map M3.q).map dP3)).map Prod.fst)) n2
      have eP : upd H3 P (.lst ((srtV ((kv3 ms).map fun e => V.ref e.2.1) ((ms.map M3.q).map dP3)).map Prod.fst)) P = some (.lst ((srtV ((kv3 ms).map fun e => V.ref e.2.1) ((ms.map M3.q).map dP3)).map Prod.fst)) := upd_same
      have tS := (srt_T tk).nl (NL.of sP)
      generalize upd H3 P (.lst ((srtV ((kv3 ms).map fun e => V.ref e.2.1) ((ms.map M3.q).map dP3)).map Prod.fst)) = H4 at sP eP tS
      generalize (srtV ((kv3 ms).map fun e => V.ref e.2.1) ((ms.map M3.q).map dP3)).map Prod.fst = pv9 at eP tS
      have pS := sortBy_perm dP3 (ms.map M3.q)
      have wS := sortBy_pw dP3 (ms.map M3.q)
      generalize sortBy dP3 (ms.map M3.q) = S at tS pS wS
      have nS : S.Nodup := pS.nodup_iff.mpr ndm
      have pwS := sort3_pw wS nS
      have lS : S.length ≤ 3 := by rw [pS.length_eq, List.length_map]; omega
      have lp : pv9.length = S.length := by have := tS.len; rwa [List.length_map] at this
      have mS : ∀ p ∈ S, ∃ z, F p = some z := fun p hp => by
        rw [pS.mem_iff, ← at3_some, fms] at hp
        exact Option.isSome_iff_exists.mp hp
      have s24 := sP1.trans sP
      refine ⟨P, rfl, ⟨_, .inl (.inl eP)⟩, fun L nL => ?_⟩
      have hLa : L ≠ a := ((srcS s24 s2).ne nL).symm
      refine lc_tp S (fun p => some (dSk (p, (F p).getD ⟨#[]⟩))) (walkL (xs := pv9) lp) nL (fun H h => .inl (.inl (h _ _ eP))) (by omega) ?_ ?_
      · rintro i p x H5 H6 er sm ⟨rfl, hx⟩ R N hR hN
        obtain ⟨d, ed, tx⟩ := tS.get hx
        rw [List.getElem?_map, er] at ed
        cases ed
        obtain ⟨kq, rfl, hkq⟩ := tpL_inv (tx.nl (NL.of sm))
        obtain ⟨z, ez⟩ := mS p (List.mem_of_getElem? er)
        have dn6 := (dn.nl (NL.of s24)).nl (NL.of sm)
        refine ⟨rfl, _, rfl, _, rfl, _, rfl, D, kv3 ms, kq, dP3 p, .str z, rfl, dn6, rfl, (tx.nl (NL.of sm)).dp, noL_3 _, dP3_depth _, by rw [atN_kv3, fms, ez]; rfl, (by show 1 ≤ sizeLine; decide), fun t nt => ?_⟩
        have st := same_upd (o := .tup [.str z]) nt
        have et : upd H6 t (.tup [.str z]) t = some (.tup [.str z]) := upd_same
        generalize upd H6 t (.tup [.str z]) = H7 at st et
        refine ⟨kq, t, _, _, rfl, rfl, .inl (.inl (st _ _ hkq)), .inl (.inl et), (by show 4 ≤ sizeLine; decide), (by intro h; cases h), (by intro _ h; cases h), fun _ _ p9 np9 => ?_⟩
        have s9 := same_upd (o := .tup ((plL p).map V.int ++ [.str z])) np9
        have hz : (F p).getD ⟨#[]⟩ = z := by rw [ez]; rfl
        refine hR _ _ rfl _ (st.trans s9) ?_
        rw [hz]
        exact .tup upd_same (.cons (.int _) (.cons (.int _) (.cons (.int _) (.cons (.str _) .nil))))
      · intro H5 us s5 eL tz
        rw [map_fm] at tz
        refine ⟨L, _, rfl, .inl ⟨.inl (.inl eL), fun T0 nT => ?_⟩⟩
        have st := same_upd (o := .tup us) nT
        have s25 := (s24.trans s5).trans st
        refine q T0 us (S.map fun p => (p, (F p).getD ⟨#[]⟩)) _ (srcS s25 s2) (b2.trans (But.of s25)) upd_same ?_ ?_ ?_ ?_ (by rw [List.length_map]; exact lS)
        · rw [List.map_map]
          exact tz.nl (NL.of st)
        · intro sk hsk
          obtain ⟨p, hp, rfl⟩ := List.mem_map.mp hsk
          obtain ⟨z, ez⟩ := mS p hp
          have := okF p z ez
          show plB lf p = true ∧ tokB ((F p).getD ⟨#[]⟩) = true
          rw [ez]
          exact ⟨this.1, this.2.1⟩
        · rw [List.pairwise_map]
          exact pwS
        · intro sk hsk
          obtain ⟨p, hp, rfl⟩ := List.mem_map.mp hsk
          obtain ⟨z, ez⟩ := mS p hp
          show Wd ((F p).getD ⟨#[]⟩)
          rw [ez]
          exact (okF p z ez).2
theorem ok_carry (T : Tab K mg) : FnOk P w K mg base CX0 2 T.f_carry T.d_carry ["_law_spots_here", "_law_pens_here", "_law_one"] (sp_carry K w) := by
  refine T.F_carry.ok sc_carry (fun vs H Q E h => ?_) (fun cdv A outer s H vs Q E hr h => ?_)
  · obtain ⟨s, g, v, c, f, h0, n, m, rfl, _⟩ := h
    rfl
  · obtain ⟨s, g, v, c, f, h0, n, m, rfl, sg, hs, hg, m5, tc, k⟩ := h
    refine ⟨_, (pss_cons (ps_set (i := 3) sc_carry.nd rfl (.inl rfl) (pe_slice sl_tupA (pv 2) po_none (po_some pe_int)))
      (pss_one (ps_if (PW.pt (pw_and (pt_cmpR (op_inN (by have z := hr.units; exact z)) (pv 3) (pv 0) (by rfl)) (pw_and1 (pt_cmpR op_eq (pe_call (ok_says T) (hr.mono (by decide)) (by rfl) T.g_says T.F_says.kp T.b_says .nil pass0 (pa_cons (pv 0) (pa_cons (pv 1) (pa_cons (pv 3) pa_nil)))) (pe_ix ix_tup (pv 2) pe_int (fun _ _ => rfl)) (nomark _)))))
      (pss_one (ps_nput (by have z := hr.units; exact z) (pv 1) (pv 3) (pe_ix ix_tup (pv 2) pe_int (fun _ _ => rfl)) rfl))
      pss_nil))), ?_⟩
    obtain ⟨b, pv, rfl, hb, hp⟩ := tpC_inv tc
    refine ⟨_, rfl, ?_⟩
    dsimp only [tNoPart]
    refine ⟨3, rfl, sl_goT hb fun kb H1 s1 ekb => ?_⟩
    have ekb : H1 kb = some (.tup [pv, .int c.r, .int c.w]) := ekb
    have tq : Tp H1 (.ref kb) (dQ c.pl) := .tup ekb (.cons (hp.nl (NL.of s1)) (.cons (.int _) (.cons (.int _) .nil)))
    have hs1 := hs.nl (NL.of s1)
    have hg1 := hg.nl (NL.of s1)
    have hb1 := s1 _ _ hb
    obtain ⟨msS, dS0, tS, fS, ndS, lS⟩ := id hs1
    obtain ⟨msG, dG, tG, fG, ndG, lG⟩ := id hg1
    refine ⟨_, rfl, _, rfl, s, _, kb, dQ c.pl, rfl, dS0, rfl, tq.dp, noL_Q _, dQ_depth c.pl, ?_⟩
    rw [atN_kvM, Option.isSome_map, fS]
    have no : ¬ ((f c.pl).isSome = true ∧ sayF f h0 c.pl = some c.o) → Q .non H1 := fun e => by
      refine k H1 (But.of s1) ?_
      have : carF f h0 c = h0 := if_neg e
      rw [this]
      exact hg1.mono (Nat.le_succ _)
    cases ef : f c.pl with
    | none =>
      refine ⟨_, rfl, iteF ?_⟩
      exact no (by rw [ef]; exact fun z => nomatch z.1)
    | some z =>
      refine ⟨_, rfl, iteT ?_⟩
      refine ⟨_, rfl, _, rfl, _, rfl, s, g, .ref kb, c.pl, f, h0, _, _, z, rfl, hs1, hg1, tq, ef, fun H2 s2 => ?_⟩
      have hb2 := s2 _ _ hb1
      refine ⟨_, rfl, b, _, 3, .str c.o, rfl, rfl, .inl (.inl hb2), rfl, rfl, _, rfl, ite2 (fun e => ?_) (fun e => ?_)⟩
      · have e1 : (h0 c.pl).getD z = c.o := V.str.inj (of_decide_eq_true e)
        have sy : (f c.pl).isSome = true ∧ sayF f h0 c.pl = some c.o := ⟨by rw [ef]; rfl, by
          rw [← e1]
          unfold sayF
          cases h0 c.pl with
          | none => exact ef
          | some y => rfl⟩
        have cf : carF f h0 c = fun q => if q = c.pl then some c.n else h0 q := if_pos sy
        refine ⟨_, rfl, b, _, 4, .str c.n, rfl, rfl, .inl (.inl hb2), rfl, _, rfl, _, rfl, g, kvM msG, kb, nkD (dQ c.pl), rfl, rfl, dG.nl (NL.of s2), nkey_Q (tq.nl (NL.of s2)), by rw [sizeLine_eq]; unfold kvM; rw [List.length_map]; omega, ?_⟩
        refine k _ (fun x o ne ex => (upd_ne ne).trans ((s1.trans s2) _ _ ex)) ?_
        rw [cf]
        exact MpAt.put (dG.nl (NL.of s2)) (fun x hx => (tG x hx).nl (NL.of s2)) fG ndG lG (tq.nl (NL.of s2))
      · have ne : ¬ ((f c.pl).isSome = true ∧ sayF f h0 c.pl = some c.o) := fun y => e (decide_eq_true (by
          have y2 := y.2
          unfold sayF at y2
          cases eh : h0 c.pl with
          | none => rw [eh] at y2; dsimp only at y2; rw [ef] at y2; exact congrArg V.str (Option.some.inj y2)
          | some u => rw [eh] at y2; exact congrArg V.str (Option.some.inj y2)))
        refine k H2 (But.of (s1.trans s2)) ?_
        have : carF f h0 c = h0 := if_neg ne
        rw [this]
        exact (hg1.nl (NL.of s2)).mono (Nat.le_succ _)
theorem ok_kept_label (T : Tab K mg) : FnOk P w K mg base CX0 3 T.f_kept_label T.d_kept_label ["thing"] (sp_kept_label K) := by
  refine T.F_kept_label.ok sc_kept_label (fun vs H Q E h => ?_) (fun cdv A outer s H vs Q E hr h => ?_)
  · obtain ⟨x, L, rfl, _⟩ := h
    rfl
  · obtain ⟨x, L, rfl, ⟨l, rfl, hl⟩, hL, q⟩ := h
    refine ⟨_, (pss_cons (ps_if (pt_not (pt_val (pe_call (ok_is_sized T) (hr.mono (by decide)) (by rfl) T.g_is_sized T.F_is_sized.kp T.b_is_sized .nil pass0 (pa_cons (pv 0) (pa_cons pe_int (pa_cons (pe_glob (v := .int 3) (by rfl) T.c_MOST_PARTS ⟨_, rfl⟩) pa_nil))))))
      (pss_one (ps_ret pe_non))
      pss_nil)
      (pss_cons (ps_if (PW.pt (pw_or (pt_not (pt_val (pe_callB (cr_all rfl) (by rfl) T.m_all (by decide +kernel) (pa_cons (pe_lc (own := [("part", 1)]) (g := gName 1) (by rfl) sc_kept_label.nd (pi_or (pi_list (pv 0)) (pi_tup (pv 0))) (blkOk_by (own := [("part", 1)]) (N := N_kept_label) (sc := defScope s_kept_label) (by decide +kernel)) (fun _ _ _ _ _ => pg_name (i := 1) sc_kept_label.nd rfl (.inl rfl)) (fun _ _ _ _ _ => pts_nil) (fun _ _ _ _ _ => (pe_call (ok_is_within T) (hr.mono (by decide)) (by rfl) T.g_is_within T.F_is_within.kp T.b_is_within .nil pass0 (pa_cons (pv 1) (pa_cons pe_int (pa_cons pe_int pa_nil)))))) pa_nil)))) (pw_or1 (pt_cmpR op_eq (pe_ix (IxR.or ix_list ix_tup) (pv 0) (pe_un un_neg pe_int) (fun _ _ => rfl)) pe_int (nomark _)))))
      (pss_one (ps_ret pe_non))
      pss_nil)
      (pss_one (ps_ret (pe_callTy call_tuple_of (by rfl) T.m_tuple (by decide +kernel) (pa_cons (pv 0) pa_nil)))))), ?_⟩
    have dx : ∃ d, Dp K H (.ref l) d ∧ items d = some (L.map PyData.int) := by
      rcases hl with hl | hl
      · exact ⟨_, dpL (.inl (.inl hl)), rfl⟩
      · exact ⟨_, .lst hl (dp_ints L), rfl⟩
    obtain ⟨d, hd, hi⟩ := dx
    obtain ⟨R, z, rfl, l3, z0⟩ : ∃ R z, L = R ++ [z] ∧ (R ++ [z]).length ≤ 3 ∧ z ≠ 0 := by
      obtain ⟨R, z, rfl, _, h2, h3, _⟩ := okL_split hL
      exact ⟨R, z, rfl, hL.1, by omega⟩
    have hsz : sz 1 3 d = true := by
      unfold sz
      rw [hi]
      simp only [List.length_map, List.length_append, List.length_singleton]
      rw [List.length_append, List.length_singleton] at l3
      exact decide_eq_true (by omega)
    refine ⟨_, rfl, _, d, 1, 3, rfl, hd, fun H1 s1 => ⟨_, rfl, ?_⟩⟩
    rw [hsz]
    have all : ∀ i ∈ R ++ [z], wI 0 99 (.int i) = true := fun i h => decide_eq_true (hL.2.2 i h)
    rcases hl with hl | hl
    · have hl1 := s1 _ _ hl
      refine .inr ⟨_, rfl, l, rfl, ⟨_, .inl (.inl hl1)⟩, fun D nD => ?_⟩
      refine lc_fm (R ++ [z]) (fun i => some (V.bl (wI 0 99 (.int i)))) (walkT (xs := (R ++ [z]).map V.int) (List.length_map ..)) nD (fun H h => .inl (.inl (h _ _ hl1))) (by omega) ?_ ?_
      · rintro i0 i y H4x H4 er sm ⟨rfl, hy⟩ Rr N hR hN
        rw [List.getElem?_map, er] at hy
        cases hy
        exact ⟨rfl, _, rfl, _, .int _, 0, 99, rfl, .int _, hR _ rfl _ (Same.refl _)⟩
      rintro H2 s2 eD
      rw [map_fm, show (fun i => V.bl (wI 0 99 (.int i))) = V.bl ∘ (fun i => wI 0 99 (.int i)) from rfl, ← List.map_map] at eD
      refine ⟨D, _, rfl, .inl (.inl eD), _, rfl, ?_⟩
      rw [all_map, List.all_eq_true.mpr all]
      have hl2 := s2 _ _ hl1
      refine ⟨_, rfl, 1, rfl, .inr ⟨_, _, _, _, rfl, rfl, .inl (.inl hl2), at_end R z, rfl, _, rfl, ?_⟩⟩
      rw [decide_eq_false (fun h => z0 (V.int.inj h))]
      exact ⟨_, rfl, _, _, rfl, .inr ⟨.inl (.inl hl2), q (.ref l) _ (s1.trans s2) ⟨l, rfl, hl2⟩⟩⟩
    · have hl1 := s1.seq hl
      refine .inl ⟨_, rfl, l, rfl, ⟨_, hl1⟩, fun D nD => ?_⟩
      refine lc_fm (R ++ [z]) (fun i => some (V.bl (wI 0 99 (.int i)))) (walkL (xs := (R ++ [z]).map V.int) (List.length_map ..)) nD (fun H h => h.seq hl1) (by omega) ?_ ?_
      · rintro i0 i y H4x H4 er sm ⟨rfl, hy⟩ Rr N hR hN
        rw [List.getElem?_map, er] at hy
        cases hy
        exact ⟨rfl, _, rfl, _, .int _, 0, 99, rfl, .int _, hR _ rfl _ (Same.refl _)⟩
      rintro H2 s2 eD
      rw [map_fm, show (fun i => V.bl (wI 0 99 (.int i))) = V.bl ∘ (fun i => wI 0 99 (.int i)) from rfl, ← List.map_map] at eD
      refine ⟨D, _, rfl, .inl (.inl eD), _, rfl, ?_⟩
      rw [all_map, List.all_eq_true.mpr all]
      have hl2 := s2.seq hl1
      refine ⟨_, rfl, 1, rfl, .inl ⟨_, _, _, _, rfl, rfl, hl2, at_end R z, rfl, _, rfl, ?_⟩⟩
      rw [decide_eq_false (fun h => z0 (V.int.inj h))]
      refine ⟨_, rfl, _, _, rfl, .inl ⟨hl2, fun t nt => ?_⟩⟩
      exact q (.ref t) _ ((s1.trans s2).trans (same_upd nt)) ⟨t, rfl, upd_same⟩
theorem ok_judged_rows (T : Tab K mg) : FnOk P w K mg base CX0 3 T.f_judged_rows T.d_judged_rows ["rows", "least", "side"] (sp_judged_rows K) := by
  refine T.F_judged_rows.ok sc_judged_rows (fun vs H Q E h => ?_) (fun cdv A outer s H vs Q E hr h => ?_)
  · obtain ⟨a, zs, l, u, rfl, _⟩ := h
    rfl
  · obtain ⟨a, zs, l, u, rfl, ha, hk, q⟩ := h
    refine ⟨_, (pss_cons (ps_if (PW.pt (pw_or (pt_not (pt_val (pe_call (ok_is_sized T) (hr.mono (by decide)) (by rfl) T.g_is_sized T.F_is_sized.kp T.b_is_sized .nil pass0 (pa_cons (pv 0) (pa_cons (pv 1) (pa_cons (pe_glob (v := .int 12) (by rfl) T.c_MOST_ROWS ⟨_, rfl⟩) pa_nil)))))) (pw_or1 (pt_not (pt_val (pe_callB (cr_all rfl) (by rfl) T.m_all (by decide +kernel) (pa_cons (pe_lc (own := [("row", 3)]) (g := gName 3) (by rfl) sc_judged_rows.nd (pi_or (pi_list (pv 0)) (pi_tup (pv 0))) (blkOk_by (own := [("row", 3)]) (N := N_judged_rows) (sc := defScope s_judged_rows) (by decide +kernel)) (fun _ _ _ _ _ => pg_name (i := 3) sc_judged_rows.nd rfl (.inl rfl)) (fun _ _ _ _ _ => pts_nil) (fun _ _ _ _ _ => (pe_call (ok_is_row T) (hr.mono (by decide)) (by rfl) T.g_is_row T.F_is_row.kp T.b_is_row .nil pass0 (pa_cons (pv 3) pa_nil)))) pa_nil)))))))
      (pss_one ps_never)
      pss_nil)
      (pss_one (ps_ret (pe_callTy call_tuple_of (by rfl) T.m_tuple (by decide +kernel) (pa_cons (pv 0) pa_nil))))), ?_⟩
    unfold rowsB at hk
    simp only [Bool.and_eq_true, decide_eq_true_eq, List.all_eq_true] at hk
    obtain ⟨⟨h1, h2⟩, h3⟩ := hk
    have hs : SqT K H a (zs.map V.str) := .inl (.inl ha)
    have dp : Dp K H (.ref a) (dS zs) := (tpS ha).dp
    refine ⟨_, rfl, _, rfl, .ref a, dS zs, l, 12, rfl, dp, fun H1 s1 => ⟨_, rfl, ?_⟩⟩
    have e1 : sz l 12 (dS zs) = true := decide_eq_true (by rw [List.length_map]; omega)
    rw [e1]
    refine iteF ?_
    refine .inr ⟨_, rfl, a, rfl, ⟨_, same_seqT s1 hs⟩, fun D nD => ?_⟩
    refine lc_fm zs (fun z => some (V.bl (rowB z))) (walkT (xs := zs.map V.str) (List.length_map ..)) nD (fun H h => same_seqT h (same_seqT s1 hs)) (by omega) ?_ ?_
    · rintro i d x H2 H3 ed sm ⟨rfl, hx⟩ R N hR hN
      rw [List.getElem?_map, ed] at hx
      cases hx
      have hr := h3 d (List.mem_of_getElem? ed)
      have hz : d.length ≤ 120 := by
        unfold rowB at hr
        simp only [Bool.and_eq_true, decide_eq_true_eq] at hr
        exact hr.1.1
      exact ⟨rfl, _, rfl, d, rfl, by omega, fun H' s => hR _ rfl _ s⟩
    · rintro H2 sm eD
      rw [map_fm, show (fun d => V.bl (rowB d)) = V.bl ∘ rowB from rfl, ← List.map_map] at eD
      refine ⟨D, _, rfl, .inl (.inl eD), _, rfl, ?_⟩
      rw [all_map, List.all_eq_true.mpr h3]
      refine iteF ?_
      exact ⟨_, rfl, a, _, rfl, .inr ⟨same_seqT (s1.trans sm) hs, q _ (s1.trans sm)⟩⟩
theorem ok_is_stroke (T : Tab K mg) : FnOk P w K mg base CX0 3 T.f_is_stroke T.d_is_stroke ["thing"] (sp_is_stroke K) := by
  refine T.F_is_stroke.ok sc_is_stroke (fun vs H Q E h => ?_) (fun cdv A outer s H vs Q E hr h => ?_)
  · obtain ⟨v, s, rfl, _⟩ := h
    rfl
  · obtain ⟨v, s, rfl, hv, ⟨b1, b2, b3, b4⟩, q⟩ := h
    refine ⟨_, (pss_cons (ps_if (PW.pt (pw_or (pt_not (pt_val (pe_call (ok_is_sized T) (hr.mono (by decide)) (by rfl) T.g_is_sized T.F_is_sized.kp T.b_is_sized .nil pass0 (pa_cons (pv 0) (pa_cons pe_int (pa_cons pe_int pa_nil)))))) (pw_or1 (pt_not (pt_val (pe_call (ok_is_token T) (hr.mono (by decide)) (by rfl) T.g_is_token T.F_is_token.kp T.b_is_token .nil pass0 (pa_cons (pe_ix ix_tup (pv 0) pe_int (fun _ _ => rfl)) pa_nil)))))))
      (pss_one (ps_ret pe_bl))
      pss_nil)
      (pss_one (ps_ret (pe_and (pe_call (ok_is_within T) (hr.mono (by decide)) (by rfl) T.g_is_within T.F_is_within.kp T.b_is_within .nil pass0 (pa_cons (pe_ix ix_tup (pv 0) pe_int (fun _ _ => rfl)) (pa_cons pe_int (pa_cons pe_int pa_nil)))) (pe_and (pe_call (ok_is_within T) (hr.mono (by decide)) (by rfl) T.g_is_within T.F_is_within.kp T.b_is_within .nil pass0 (pa_cons (pe_ix ix_tup (pv 0) pe_int (fun _ _ => rfl)) (pa_cons pe_int (pa_cons (pe_op op_sub (pe_glob (v := .int 12) (by rfl) T.c_MOST_ROWS ⟨_, rfl⟩) pe_int) pa_nil)))) (pe_one (pe_call (ok_is_within T) (hr.mono (by decide)) (by rfl) T.g_is_within T.F_is_within.kp T.b_is_within .nil pass0 (pa_cons (pe_ix ix_tup (pv 0) pe_int (fun _ _ => rfl)) (pa_cons pe_int (pa_cons (pe_op op_sub (pe_glob (v := .int 30) (by rfl) T.c_MOST_TOKENS ⟨_, rfl⟩) pe_int) pa_nil)))))))))), ?_⟩
    have hsz : sz 4 4 (dSk s) = true := rfl
    obtain ⟨a, rfl, ha⟩ := sk_inv hv
    refine ⟨_, rfl, .ref a, dSk s, 4, 4, rfl, hv.dp, fun H1 s1 => ⟨_, rfl, ?_⟩⟩
    have ha1 := s1 _ _ ha
    rw [hsz]
    refine iteF ?_
    refine ⟨_, rfl, a, _, _, _, rfl, rfl, .inl (.inl ha1), rfl, s.2, rfl, ?_, _, rfl, ?_⟩
    · unfold tokB at b4
      simp only [Bool.and_eq_true, decide_eq_true_eq] at b4
      omega
    rw [b4]
    refine iteF ?_
    refine ⟨_, rfl, a, _, _, _, rfl, rfl, .inl (.inl ha1), rfl, _, .int s.1.1, 0, 1, rfl, .int _, ?_⟩
    rw [show wI 0 1 (.int s.1.1) = true from decide_eq_true b1]
    refine ⟨_, rfl, iteT ?_⟩
    refine ⟨_, rfl, a, _, _, _, rfl, rfl, .inl (.inl ha1), rfl, _, _, rfl, rfl, .int s.1.2.1, .int s.1.2.1, 0, 11, rfl, .int _, ?_⟩
    rw [show wI 0 11 (.int s.1.2.1) = true from decide_eq_true b2]
    refine ⟨_, rfl, iteT ?_⟩
    refine ⟨_, rfl, a, _, _, _, rfl, rfl, .inl (.inl ha1), rfl, _, _, rfl, rfl, .int s.1.2.2, .int s.1.2.2, 0, 29, rfl, .int _, ?_⟩
    rw [show wI 0 29 (.int s.1.2.2) = true from decide_eq_true b3]
    exact q _ s1
theorem ok_Book_init (T : Tab K mg) : FnOk P w K mg base CX0 3 T.f_Book_init T.d_Book_init ["self", "leaves"] (sp_Book_init K T.C_Leaf T.C_Book) := by
  refine T.F_Book_init.ok sc_Book_init (fun vs H Q E h => ?_) (fun cdv A outer s H vs Q E hr h => ?_)
  · obtain ⟨x, dx, a, xs, bk, rfl, _⟩ := h
    rfl
  · obtain ⟨x, dx, a, xs, bk, rfl, hx, ha, hl, ho, q⟩ := h
    refine ⟨_, (pss_cons (ps_fld (pv 0) (pe_call (ok_judged_leaves T) (hr.mono (by decide)) (by rfl) T.g_judged_leaves T.F_judged_leaves.kp T.b_judged_leaves .nil pass0 (pa_cons (pv 1) pa_nil)) rfl)
      (pss_one (ps_fld (pv 0) (pe_dcT (own := [("k", 2), ("leaf", 3)]) (g := gTup K 2 _) (by have z := un2 hr; exact Nat.lt_of_le_of_lt (Nat.add_le_add_left (by decide) _) z) (by rfl) sc_Book_init.nd (pi_enumT (by rfl) T.m_enumerate (pa_cons (pe_fld (pv 0) rfl) pa_nil)) (blkOk_by (own := [("k", 2), ("leaf", 3)]) (N := N_Book_init) (sc := defScope s_Book_init) (by decide +kernel)) (fun _ _ _ _ _ => pg_tup (by rfl) (pgs_cons (pg_name (i := 2) sc_Book_init.nd rfl (.inl rfl)) (pgs_cons (pg_name (i := 3) sc_Book_init.nd rfl (.inl rfl)) pgs_nil))) (fun _ _ _ _ _ => (pe_fldK (K := K) rfl (pv 3) rfl)) (fun _ _ _ _ _ => (pv 2))) rfl))), ?_⟩
    have len := hl.len
    refine ⟨_, rfl, a, xs, bk, rfl, ha, hl, ho, fun t H1 s1 ht => ?_⟩
    have tx : t ≠ x := fun z => by rw [z, s1 _ _ hx] at ht; cases ht
    refine ⟨_, rfl, x, _, dx, _, rfl, s1 _ _ hx, T.cl_Book, T.na_Book_leaves, (show 0 < 1000 by decide), ?_⟩
    refine ⟨_, rfl, x, _, dx, _, _, rfl, upd_same, T.cl_Book, T.na_Book_leaves, rfl, ?_⟩
    have b1 : But x H (upd H1 x (.ins T.C_Book dx (putF "leaves" (.ref t) []))) := (But.of s1).trans (But.upd _)
    have ht2 : upd H1 x (.ins T.C_Book dx (putF "leaves" (.ref t) [])) t = some (.tup xs) := by rw [upd_ne tx]; exact ht
    have hx2 : upd H1 x (.ins T.C_Book dx (putF "leaves" (.ref t) [])) x = some (.ins T.C_Book dx (putF "leaves" (.ref t) [])) := upd_same
    generalize upd H1 x (.ins T.C_Book dx (putF "leaves" (.ref t) [])) = H2 at b1 ht2 hx2
    have nl2 : ∀ {v : V} {l : Lf}, LfAt T.C_Leaf H v l → LfAt T.C_Leaf H2 v l := fun h => NL.butI hx b1 h
    refine ⟨t, xs, rfl, .inl (.inl ht2), fun D nD => ?_⟩
    refine dc_it (walk_enumT (xs := xs)) (fun i H' => Same H2 H' ∧ H' D = some (.dT (spots bk i))) ⟨same_upd nD, upd_same⟩ (fun _ H' _ hh => .inl (.inl (hh.1 _ _ ht2))) ?_ ?_
    · rintro i y H3 H4 hi ⟨sm, eD⟩ ⟨p, u, v, rfl, np, rfl, eu, ev⟩
      cases eu
      obtain ⟨lf, el, hf⟩ := hl.get ev
      obtain ⟨z, dz, l, f, b, pn, s, rfl, hz, hL, _⟩ := LfAt.nl (NL.of sm) (nl2 hf)
      refine ⟨p, [.int (i : Nat), .ref z], rfl, .inl (.inl upd_same), rfl, _, _, rfl, _, _, rfl, rfl, rfl, ?_⟩
      have k : ∀ {q : Addr} {o : HO}, H3 q = some o → upd H3 p (.tup [.int (i : Nat), .ref z]) q = some o := fun e => by rw [upd_ne (ne_of_none e np)]; exact e
      refine ⟨_, rfl, z, _, dz, _, _, rfl, k hz, T.cl_Leaf, T.na_Leaf_label, fLf_label, _, rfl, l, spots bk i, lf.L.map Sum.inl, rfl, k eD, by rw [kL]; exact k hL, ?_, same_put (sm.trans (same_upd np)) nD _, ?_⟩
      · have := spots_len bk i
        have := ho.1
        exact small1000 (by omega)
      · rw [upd_same]
        show some (HO.dT (putK (spots bk i) (lf.L.map Sum.inl) (.int (i : Nat)))) = some (.dT (match bk[i]? with | some l => putK (spots bk i) (l.L.map Sum.inl) (.int (i : Nat)) | none => spots bk i))
        rw [el]
    · rintro H3 ⟨sm, eD⟩
      have Dx : D ≠ x := fun z => by rw [z, sm _ _ hx2] at eD; cases eD
      have tx3 := sm _ _ ht2
      refine ⟨_, rfl, x, _, dx, _, rfl, sm _ _ hx2, T.cl_Book, T.na_Book__spots, (show 1 < 1000 by decide), ?_⟩
      refine q _ ?_ ((b1.trans (But.of sm)).trans (But.upd _))
      refine ⟨x, dx, t, D, xs, rfl, upd_same, by rw [upd_ne tx]; exact tx3, ?_, ?_, ho.1⟩
      · exact LfAll.butI hx ((b1.trans (But.of sm)).trans (But.upd _)) hl
      · rw [upd_ne Dx, ← len]; exact eD
theorem ok_tokens_pool (T : Tab K mg) : FnOk P w K mg base CX0 3 T.f_tokens_pool T.d_tokens_pool ["_law_source_here", "_law_many"] (sp_tokens_pool K) := by
  refine T.F_tokens_pool.ok sc_tokens_pool (fun vs H Q E h => ?_) (fun cdv A outer s H vs Q E hr h => ?_)
  · obtain ⟨a, m, rfl, _⟩ := h
    rfl
  · obtain ⟨a, m, rfl, src, m2, m8, q⟩ := h
    refine ⟨_, (pss_cons (ps_set (i := 2) sc_tokens_pool.nd rfl (.inl rfl) (pe_lst pa_nil))
      (pss_cons (ps_for PassesOwn.never rfl (pi_range1 (by rfl) T.m_range (pa_cons (pv 1) pa_nil)) (pg_name (i := 3) sc_tokens_pool.nd rfl (.inl rfl))
      (pss_cons (ps_set (i := 4) sc_tokens_pool.nd rfl (.inl rfl) (pe_ix ix_list (pe_lst (pa_cons pe_int (pa_cons pe_int (pa_cons pe_int pa_nil)))) (pe_call (ok_pick T) (hr.mono (by decide)) (by rfl) T.g_pick T.F_pick.kp T.b_pick .nil pass0 (pa_cons (pv 0) (pa_cons pe_int pa_nil))) (fun _ _ => rfl)))
        (pss_cons (ps_set (i := 5) sc_tokens_pool.nd rfl (.inl rfl) (pe_call (ok_token T) (hr.mono (by decide)) (by rfl) T.g_token T.F_token.kp T.b_token .nil pass0 (pa_cons (pv 0) (pa_cons (pv 4) pa_nil))))
        (pss_one (ps_if (pt_cmpR op_notIn_seq (pv 5) (pv 2) (by rfl))
        (pss_one (ps_expr (pe_bm PySem.F.plainAttrs_list PySem.F.slot_list_append PySem.F.type_list_append mt_append (pv 2) (pa_cons (pv 5) pa_nil))))
        pss_nil)))))
      (C8.pss_cut (ps_if (pt_cmpR op_lt (pe_callB call_len_seq (by rfl) T.m_len PySem.boot_len (pa_cons (pv 2) pa_nil)) pe_int (nomark _))
      (pss_one (ps_expr (pe_bm PySem.F.plainAttrs_list PySem.F.slot_list_append PySem.F.type_list_append mt_append (pv 2) (pa_cons (pe_call (ok_other T) (hr.mono (by decide)) (by rfl) T.g_other T.F_other.kp T.b_other .nil pass0 (pa_cons (pe_ix ix_list (pv 2) pe_int (fun _ _ => rfl)) pa_nil)) pa_nil))))
      pss_nil)
      (pss_one (ps_ret (pv 2)))))), ?_⟩
    refine ⟨Nat.zero_le _, fun D nD => ?_⟩
    have nDa : D ≠ a := (src.ne nD).symm
    refine ⟨_, rfl, _, rfl, by omega, by omega, for_range (lo := 0) (n := m.toNat) (fun j σ' H' => ∃ (y3 y4 y5 : Option V), σ' = [some (.ref a), some (.int m), some (.ref D), y3, y4, y5] ∧ Src H' a ∧ But a H H' ∧ ∃ zs : List Str, H' D = some (.lst (zs.map V.str)) ∧ zs.length ≤ j ∧ (j ≠ 0 → zs ≠ []) ∧ (∀ z ∈ zs, Wd z) ∧ zs.Nodup) ⟨none, none, none, rfl, src.put nDa.symm _, (But.of (Same.refl _)).put nD _, [], upd_same, Nat.le_refl _, fun h => absurd rfl h, (by intro z h; cases h), List.nodup_nil⟩ ?_ ?_⟩
    · rintro j σ' H1 hj ⟨y3, y4, y5, rfl, s1, b1, zs, eD, lz, nz, wz, dz⟩
      refine ⟨(by show 3 ≤ sizeLine; decide), fun u nu => ?_⟩
      have su := same_upd (o := .lst [.int 2, .int 8, .int 20]) nu
      have hu : upd H1 u (.lst [.int 2, .int 8, .int 20]) u = some (.lst [.int 2, .int 8, .int 20]) := upd_same
      have un : u ≠ a := (s1.ne nu).symm
      generalize upd H1 u (.lst [.int 2, .int 8, .int 20]) = H2 at su hu
      refine ⟨_, rfl, a, 3, rfl, srcS su s1, by decide, by decide, fun i H3 s3 b3 i0 i1 => ?_⟩
      obtain ⟨c, ec, c1, c20⟩ : ∃ c : Int, ([.int 2, .int 8, .int 20] : List V)[i.toNat]? = some (.int c) ∧ 1 ≤ c ∧ c ≤ 20 := by
        obtain h | h | h : i.toNat = 0 ∨ i.toNat = 1 ∨ i.toNat = 2 := by omega
        · rw [h]; exact ⟨2, rfl, by decide, by decide⟩
        · rw [h]; exact ⟨8, rfl, by decide, by decide⟩
        · rw [h]; exact ⟨20, rfl, by decide, by decide⟩
      refine ⟨u, _, i, .int c, rfl, rfl, .inl (.inl (b3 _ _ un hu)), at_of' (Int.toNat_of_nonneg i0).symm ec, ?_⟩
      have b13 := (But.of (a := a) su).trans b3
      refine ⟨_, rfl, _, rfl, a, c, rfl, s3, c1, c20, fun z H4 s4 b4 hz => ?_⟩
      have b14 := b13.trans b4
      have b04 := b1.trans b14
      have eD4 := b14 _ _ nDa eD
      refine ⟨_, rfl, _, rfl, D, _, rfl, .inl (.inl (.inl eD4)), rfl, flatS zs, ?_⟩
      rw [inVs]
      refine ⟨_, rfl, ite2 (fun e => ?_) (fun e => ?_)⟩
      · have e1 : z ∉ zs := fun h => by rw [decide_eq_true h] at e; cases e
        refine ⟨_, rfl, .inl ⟨rfl, _, .inl (.inl eD4)⟩, _, rfl, D, _, _, rfl, rfl, eD4, by rw [List.length_map]; exact small1000 (by omega), _, _, _, rfl, s4.put nDa.symm _, b04.put nD _, zs ++ [z], ?_, ?_, ?_, ?_, ?_⟩
        · rw [upd_same, List.map_append]; rfl
        · rw [List.length_append]; show zs.length + 1 ≤ _; omega
        · intro _ h; simp at h
        · intro y hy
          rcases List.mem_append.mp hy with h | h
          · exact wz _ h
          · rw [List.mem_singleton.mp h]; exact hz
        · exact List.nodup_append.mpr ⟨dz, by simp, fun a ha b hb e => e1 (by rw [← List.mem_singleton.mp hb, ← e]; exact ha)⟩
      · have e1 : z ∈ zs := by
          by_cases h : z ∈ zs
          · exact h
          · rw [decide_eq_false h] at e; exact absurd rfl e
        exact ⟨_, _, _, rfl, s4, b04, zs, eD4, by omega, fun _ h => (by rw [h] at e1; cases e1), wz, dz⟩
    · rintro σ' H1 ⟨y3, y4, y5, rfl, s1, b1, zs, eD, lz, nz, wz, dz⟩
      have ne := nz (by omega)
      obtain ⟨z0, r, rfl⟩ : ∃ z0 r, zs = z0 :: r := by
        cases zs with
        | nil => exact absurd rfl ne
        | cons z0 r => exact ⟨z0, r, rfl⟩
      have l9 : (z0 :: r).length ≤ 8 := by omega
      refine ⟨fun σ' H' => ∃ zs, σ' = [some (.ref a), some (.int m), some (.ref D), y3, y4, y5] ∧ Src H' a ∧ But a H H' ∧ H' D = some (.lst (zs.map V.str)) ∧ PoolOk zs, ?_, ?_⟩
      · refine ⟨_, rfl, D, _, rfl, .inl (.inl (.inl eD)), _, _, rfl, rfl, _, rfl, ite2 (fun e => ?_) (fun e => ?_)⟩
        · have e1 := of_decide_eq_true e
          rw [List.length_map] at e1
          have hr : r = [] := by
            cases r with
            | nil => rfl
            | cons _ _ => simp at e1; omega
          subst hr
          refine ⟨_, rfl, .inl ⟨rfl, _, .inl (.inl eD)⟩, _, rfl, D, _, 0, .str z0, rfl, rfl, .inl (.inl eD), rfl, z0, rfl, wz z0 (List.mem_cons_self ..), fun y hy hne => ?_⟩
          refine ⟨D, _, _, rfl, rfl, eD, small1000 (by show 1 ≤ 1000; decide), [z0, y], rfl, s1.put nDa.symm _, b1.put nD _, upd_same, ?_, (by show 2 ≤ 2; decide), (by show 2 ≤ 9; decide), ?_⟩
          · intro x hx
            rcases List.mem_cons.mp hx with rfl | hx
            · exact wz _ (List.mem_cons_self ..)
            · rw [List.mem_singleton.mp hx]; exact hy
          · simp [hne]
        · have e1 : ¬ (((z0 :: r).map V.str).length : Int) < 2 := fun h => e (decide_eq_true h)
          rw [List.length_map] at e1
          exact ⟨z0 :: r, rfl, s1, b1, eD, wz, by omega, by omega, dz⟩
      · rintro σ' H2 ⟨zs, rfl, s2, b2, e2, ok⟩
        exact ⟨_, rfl, q D zs H2 s2 b2 nD e2 ok⟩
theorem ok_side (T : Tab K mg) : FnOk P w K mg base CX0 3 T.f_side T.d_side ["_law_source_here", "_law_pool", "_law_least"] (sp_side K) := by
  refine T.F_side.ok sc_side (fun vs H Q E h => ?_) (fun cdv A outer s H vs Q E hr h => ?_)
  · obtain ⟨a, b, zs, l, rfl, _⟩ := h
    rfl
  · obtain ⟨a, b, zs, l, rfl, src, ba, hb, pok, hl, q⟩ := h
    refine ⟨_, (pss_cons (ps_set (i := 3) sc_side.nd rfl (.inl rfl) pe_int)
      (C8.pss_cut (ps_if (pt_cmpR op_eq (pe_call (ok_pick T) (hr.mono (by decide)) (by rfl) T.g_pick T.F_pick.kp T.b_pick .nil pass0 (pa_cons (pv 0) (pa_cons pe_int pa_nil))) pe_int (nomark _))
      (pss_one (ps_set (i := 3) sc_side.nd rfl (.inl rfl) (pe_op op_sub pe_int (pv 2))))
      pss_nil)
      (pss_cons (ps_set (i := 4) sc_side.nd rfl (.inl rfl) (pe_op op_add (pv 2) (pe_call (ok_pick T) (hr.mono (by decide)) (by rfl) T.g_pick T.F_pick.kp T.b_pick .nil pass0 (pa_cons (pv 0) (pa_cons (pv 3) pa_nil)))))
      (pss_one (ps_ret (pe_callTy call_tuple_of (by rfl) T.m_tuple (by decide +kernel) (pa_cons (pe_lc (own := [("_law_k", 5)]) (g := gName 5) (by rfl) sc_side.nd (pi_range1 (by rfl) T.m_range (pa_cons (pv 4) pa_nil)) (blkOk_by (own := [("_law_k", 5)]) (N := N_side) (sc := defScope s_side) (by decide +kernel)) (fun _ _ _ _ _ => pg_name (i := 5) sc_side.nd rfl (.inl rfl)) (fun _ _ _ _ _ => pts_nil) (fun _ _ _ _ _ => (pe_call (ok_paper_row T) (hr.mono (by decide)) (by rfl) T.g_paper_row T.F_paper_row.kp T.b_paper_row .nil pass0 (pa_cons (pv 0) (pa_cons (pv 1) pa_nil))))) pa_nil))))))), ?_⟩
    refine ⟨fun σ' H' => ∃ m : Int, σ' = [some (.ref a), some (.ref b), some (.int l), some (.int m), none, none] ∧ Src H' a ∧ But a H H' ∧ 1 ≤ m ∧ m ≤ 13 - l, ?_, ?_⟩
    · refine ⟨_, rfl, a, 12, rfl, src, by decide, by decide, fun r2 H2 s2 b2 r20 r21 => ⟨rfl, _, rfl, ite2 (fun e => ?_) (fun e => ?_)⟩⟩
      · exact ⟨_, rfl, _, _, rfl, rfl, 13 - l, rfl, s2, b2, by omega, by omega⟩
      · exact ⟨3, rfl, s2, b2, by omega, by omega⟩
    rintro σ' H2 ⟨m, rfl, s2, b2, m1, m13⟩
    refine ⟨_, rfl, _, rfl, _, rfl, a, m, rfl, s2, by omega, by omega, fun r H3 s3 b3 r0 r1 => ⟨_, _, rfl, rfl, ?_⟩⟩
    have b03 := b2.trans b3
    refine ⟨_, rfl, _, rfl, by omega, by omega, fun L nL => ?_⟩
    have nLa : L ≠ a := (s3.ne nL).symm
    have fL : H L = none := b03.none nL nLa
    refine lc_range (lo := 0) (n := (l + r).toNat) (fun j H' => Src H' a ∧ But a H H' ∧ ∃ ys : List Str, H' L = some (.lst (ys.map V.str)) ∧ ys.length = j ∧ ∀ y ∈ ys, rowB y = true ∧ Asc y) ⟨s3.put nLa.symm _, b03.put fL _, [], upd_same, rfl, fun _ h => nomatch h⟩ ?_ ?_
    · rintro j H4 hj ⟨s4, b4, ys, eL, ly, wy⟩
      refine ⟨rfl, ?_⟩
      refine ⟨_, rfl, _, rfl, a, b, zs, rfl, s4, ba, b4 _ _ ba hb, pok, fun y H5 s5 b5 y1 y2 => ?_⟩
      have eL5 := b5 _ _ nLa eL
      refine ⟨_, eL5, by rw [List.length_map]; exact small1000 (by omega), s5.put nLa.symm _, (b4.trans b5).put fL _, ys ++ [y], ?_, ?_, ?_⟩
      · rw [upd_same, List.map_append]; rfl
      · rw [List.length_append, ly]; rfl
      · intro x hx
        rcases List.mem_append.mp hx with h | h
        · exact wy _ h
        · rw [List.mem_singleton.mp h]; exact ⟨y1, y2⟩
    · rintro H4 ⟨s4, b4, ys, eL, ly, wy⟩
      refine ⟨L, _, rfl, .inl ⟨.inl (.inl eL), fun t nt => ?_⟩⟩
      have st := same_upd (o := .tup (ys.map V.str)) nt
      refine q t ys _ (srcS st s4) (b4.trans (But.of st)) upd_same ?_ (fun y hy => (wy y hy).2)
      unfold rowsB
      simp only [Bool.and_eq_true, decide_eq_true_eq, List.all_eq_true]
      exact ⟨⟨by omega, by omega⟩, fun y hy => (wy y hy).1⟩
theorem ok_spot (T : Tab K mg) : FnOk P w K mg base CX0 3 T.f_spot T.d_spot ["_law_source_here", "_law_places"] (sp_spot K) := by
  refine T.F_spot.ok sc_spot (fun vs H Q E h => ?_) (fun cdv A outer s H vs Q E hr h => ?_)
  · obtain ⟨a, b, us, qs, rfl, _⟩ := h
    rfl
  · obtain ⟨a, b, us, qs, rfl, src, ba, hb, tq, okq, lq, q⟩ := h
    refine ⟨_, (pss_cons (ps_set (i := 2) sc_spot.nd rfl (.inl rfl) (pe_call (ok_pick T) (hr.mono (by decide)) (by rfl) T.g_pick T.F_pick.kp T.b_pick .nil pass0 (pa_cons (pv 0) (pa_cons pe_int pa_nil))))
      (pss_cons (ps_if (PW.pt (pw_and (pt_truth (pv 1) (fun _ => rfl)) (pw_and1 (pt_cmpR op_lt (pv 2) pe_int (nomark _)))))
      (pss_cons (ps_asg (pe_ix ix_list (pv 1) (pe_call (ok_pick T) (hr.mono (by decide)) (by rfl) T.g_pick T.F_pick.kp T.b_pick .nil pass0 (pa_cons (pv 0) (pa_cons (pe_callB call_len_seq (by rfl) T.m_len PySem.boot_len (pa_cons (pv 1) pa_nil)) pa_nil))) (fun _ _ => rfl)) (pg_tup (by rfl) (pgs_cons (pg_name (i := 3) sc_spot.nd rfl (.inl rfl)) (pgs_cons (pg_name (i := 4) sc_spot.nd rfl (.inl rfl)) (pgs_cons (pg_name (i := 5) sc_spot.nd rfl (.inl rfl)) pgs_nil)))))
        (pss_cons (ps_if (pt_cmpR op_eq (pv 2) pe_int (nomark _))
        (pss_one (ps_ret (pe_tup (pa_cons (pv 3) (pa_cons (pv 4) (pa_cons (pe_callB (call_min2 rfl) (by rfl) T.m_min (by decide +kernel) (pa_cons pe_int (pa_cons (pe_op op_add (pe_op op_add (pv 5) pe_int) (pe_call (ok_pick T) (hr.mono (by decide)) (by rfl) T.g_pick T.F_pick.kp T.b_pick .nil pass0 (pa_cons (pv 0) (pa_cons pe_int pa_nil)))) pa_nil))) pa_nil))))))
        pss_nil)
        (pss_cons (ps_if (pt_cmpR op_eq (pv 2) pe_int (nomark _))
        (pss_one (ps_ret (pe_tup (pa_cons (pv 3) (pa_cons (pe_call (ok_pick T) (hr.mono (by decide)) (by rfl) T.g_pick T.F_pick.kp T.b_pick .nil pass0 (pa_cons (pv 0) (pa_cons pe_int pa_nil))) (pa_cons (pv 5) pa_nil))))))
        pss_nil)
        (pss_one (ps_ret (pe_tup (pa_cons (pv 3) (pa_cons (pv 4) (pa_cons (pv 5) pa_nil)))))))))
      pss_nil)
      (pss_cons (ps_set (i := 6) sc_spot.nd rfl (.inl rfl) (pe_call (ok_label T) (hr.mono (by decide)) (by rfl) T.g_label T.F_label.kp T.b_label .nil pass0 (pa_cons (pv 0) pa_nil)))
      (pss_cons (ps_set (i := 3) sc_spot.nd rfl (.inl rfl) (pe_tup (pa_cons (pv 6) (pa_cons (pe_call (ok_pick T) (hr.mono (by decide)) (by rfl) T.g_pick T.F_pick.kp T.b_pick .nil pass0 (pa_cons (pv 0) (pa_cons pe_int pa_nil))) pa_nil))))
      (pss_cons (ps_set (i := 4) sc_spot.nd rfl (.inl rfl) (pe_call (ok_pick T) (hr.mono (by decide)) (by rfl) T.g_pick T.F_pick.kp T.b_pick .nil pass0 (pa_cons (pv 0) (pa_cons pe_int pa_nil))))
      (pss_one (ps_ret (pe_tup (pa_cons (pv 3) (pa_cons (pv 4) (pa_cons (pe_call (ok_pick T) (hr.mono (by decide)) (by rfl) T.g_pick T.F_pick.kp T.b_pick .nil pass0 (pa_cons (pv 0) (pa_cons pe_int pa_nil))) pa_nil))))))))))), ?_⟩
    have lu : us.length = qs.length := by have := tq.len; rwa [List.length_map] at this
    refine ⟨_, rfl, a, 8, rfl, src, by decide, by decide, fun r7 H1 s1 b1 r70 r71 => ?_⟩
    have hb1 := b1 _ _ ba hb
    have tq1 := tq.nl (src.nl b1)
    refine ⟨_, rfl, !us.isEmpty, .inl ⟨us, .inl (.inl hb1), rfl⟩, ite2 (fun e0 => ⟨_, rfl, _, _, rfl, rfl, _, rfl, ite2 (fun e => ?_) (fun e => ?_)⟩) (fun e0 => ?_)⟩
    · have up : 0 < us.length := by
        cases us with
        | nil => cases e0
        | cons _ _ => exact Nat.succ_pos _
      refine ⟨_, rfl, _, rfl, _, rfl, b, _, rfl, .inl (.inl (.inl hb1)), a, _, rfl, s1, by omega, by omega, fun i H2 s2 b2 i0 i1 => ?_⟩
      have hi : i.toNat < us.length := by omega
      have ev := List.getElem?_eq_getElem hi
      generalize us[i.toNat] = v0 at ev
      obtain ⟨d0, ed0, tv0⟩ := tq1.get ev
      rw [List.getElem?_map] at ed0
      obtain ⟨q0, eq0, rfl⟩ := Option.map_eq_some_iff.mp ed0
      have hb2 := b2 _ _ ba hb1
      have hq := okq _ (List.mem_of_getElem? eq0)
      obtain ⟨kq, pgv, rfl, hkq, hpg⟩ := q_inv (tv0.nl (s1.nl b2))
      have b02 := b1.trans b2
      refine ⟨b, _, i, .ref kq, rfl, rfl, .inl (.inl hb2), at_of' (Int.toNat_of_nonneg i0).symm ev, ?_⟩
      refine ⟨kq, _, rfl, .inl (.inl hkq), rfl, _, _, rfl, _, _, rfl, _, _, rfl, rfl, ?_⟩
      refine ⟨_, rfl, rfl, _, rfl, ite2 (fun e5 => ?_) (fun e5 => ?_)⟩
      · refine ⟨_, rfl, _, rfl, _, rfl, _, _, rfl, rfl, _, rfl, a, 3, rfl, s2, by decide, by decide, fun r9 H3 s3 b3 p0 p1 => ⟨_, _, rfl, rfl, _, _, rfl, ?_⟩⟩
        refine ⟨(by show 3 ≤ sizeLine; decide), fun t nt => ?_⟩
        have hpg3 := hpg.nl (s2.nl b3)
        generalize ew : (if q0.2.2 + 1 + r9 < 29 then q0.2.2 + 1 + r9 else 29) = w9 at nt ⊢
        have w9b : 0 ≤ w9 ∧ w9 ≤ 29 := by
          have := hq.2.2
          rw [← ew]
          split <;> omega
        have st := same_upd (o := .tup [pgv, .int q0.2.1, .int w9]) nt
        exact q (.ref t) (q0.1, q0.2.1, w9) _ (srcS st s3) ((b02.trans b3).trans (But.of st)) (.tup upd_same (.cons (hpg3.nl (NL.of st)) (.cons (.int _) (.cons (.int _) .nil)))) ⟨hq.1, hq.2.1, w9b⟩
      refine ⟨_, rfl, rfl, _, rfl, ite2 (fun e6 => ?_) (fun e6 => ?_)⟩
      · refine ⟨_, rfl, _, rfl, a, 12, rfl, s2, by decide, by decide, fun r9 H3 s3 b3 p0 p1 => ⟨_, rfl, ?_⟩⟩
        refine ⟨(by show 3 ≤ sizeLine; decide), fun t nt => ?_⟩
        have hpg3 := hpg.nl (s2.nl b3)
        have st := same_upd (o := .tup [pgv, .int r9, .int q0.2.2]) nt
        exact q (.ref t) (q0.1, r9, q0.2.2) _ (srcS st s3) ((b02.trans b3).trans (But.of st)) (.tup upd_same (.cons (hpg3.nl (NL.of st)) (.cons (.int _) (.cons (.int _) .nil)))) ⟨hq.1, by show 0 ≤ r9 ∧ r9 ≤ 11; omega, hq.2.2⟩
      · refine ⟨_, rfl, _, rfl, _, rfl, (by show 3 ≤ sizeLine; decide), fun t nt => ?_⟩
        have st := same_upd (o := .tup [pgv, .int q0.2.1, .int q0.2.2]) nt
        exact q (.ref t) q0 _ (srcS st s2) (b02.trans (But.of st)) (.tup upd_same (.cons (hpg.nl (NL.of st)) (.cons (.int _) (.cons (.int _) .nil)))) hq
    · refine ⟨_, rfl, a, rfl, s1, fun l L H2 s2 b2 hl okl => ?_⟩
      refine ⟨_, rfl, _, rfl, a, 2, rfl, s2, by decide, by decide, fun sd H3 s3 b3 d0 d1 => ?_⟩
      have hl3 := s2.nl b3 _ _ hl (fun _ z => nomatch z)
      refine ⟨(by show 2 ≤ sizeLine; decide), fun p np => ?_⟩
      have s4 := same_upd (o := .tup [.ref l, .int sd]) np
      have hp : Tp (upd H3 p (.tup [.ref l, .int sd])) (.ref p) (dP (L, sd)) := tpP (p := (L, sd)) upd_same (s4 _ _ hl3)
      generalize upd H3 p (.tup [.ref l, .int sd]) = H4 at s4 hp
      have b04 := ((b1.trans b2).trans b3).trans (But.of s4)
      have src4 := srcS s4 s3
      refine ⟨_, rfl, a, 12, rfl, src4, by decide, by decide, fun r H5 s5 b5 r0 r1 => ?_⟩
      refine ⟨_, rfl, _, rfl, _, rfl, a, 30, rfl, s5, by decide, by decide, fun w9 H6 s6 b6 w0 w1 => ?_⟩
      have hp6 := hp.nl (src4.nl (b5.trans b6))
      refine ⟨(by show 3 ≤ sizeLine; decide), fun t nt => ?_⟩
      have st := same_upd (o := .tup [.ref p, .int r, .int w9]) nt
      exact q (.ref t) ((L, sd), r, w9) _ (srcS st s6) (((b04.trans b5).trans b6).trans (But.of st)) (.tup upd_same (.cons (hp6.nl (NL.of st)) (.cons (.int _) (.cons (.int _) .nil)))) ⟨⟨okl, by show sd = 0 ∨ sd = 1; omega⟩, by show 0 ≤ r ∧ r ≤ 11; omega, by show 0 ≤ w9 ∧ w9 ≤ 29; omega⟩
    · refine ⟨_, rfl, a, rfl, s1, fun l L H2 s2 b2 hl okl => ?_⟩
      refine ⟨_, rfl, _, rfl, a, 2, rfl, s2, by decide, by decide, fun sd H3 s3 b3 d0 d1 => ?_⟩
      have hl3 := s2.nl b3 _ _ hl (fun _ z => nomatch z)
      refine ⟨(by show 2 ≤ sizeLine; decide), fun p np => ?_⟩
      have s4 := same_upd (o := .tup [.ref l, .int sd]) np
      have hp : Tp (upd H3 p (.tup [.ref l, .int sd])) (.ref p) (dP (L, sd)) := tpP (p := (L, sd)) upd_same (s4 _ _ hl3)
      generalize upd H3 p (.tup [.ref l, .int sd]) = H4 at s4 hp
      have b04 := ((b1.trans b2).trans b3).trans (But.of s4)
      have src4 := srcS s4 s3
      refine ⟨_, rfl, a, 12, rfl, src4, by decide, by decide, fun r H5 s5 b5 r0 r1 => ?_⟩
      refine ⟨_, rfl, _, rfl, _, rfl, a, 30, rfl, s5, by decide, by decide, fun w9 H6 s6 b6 w0 w1 => ?_⟩
      have hp6 := hp.nl (src4.nl (b5.trans b6))
      refine ⟨(by show 3 ≤ sizeLine; decide), fun t nt => ?_⟩
      have st := same_upd (o := .tup [.ref p, .int r, .int w9]) nt
      exact q (.ref t) ((L, sd), r, w9) _ (srcS st s6) (((b04.trans b5).trans b6).trans (But.of st)) (.tup upd_same (.cons (hp6.nl (NL.of st)) (.cons (.int _) (.cons (.int _) .nil)))) ⟨⟨okl, by show sd = 0 ∨ sd = 1; omega⟩, by show 0 ≤ r ∧ r ≤ 11; omega, by show 0 ≤ w9 ∧ w9 ≤ 29; omega⟩
theorem ok_judged_label (T : Tab K mg) : FnOk P w K mg base CX0 4 T.f_judged_label T.d_judged_label ["thing"] (sp_judged_label K) := by
  refine T.F_judged_label.ok sc_judged_label (fun vs H Q E h => ?_) (fun cdv A outer s H vs Q E hr h => ?_)
  · obtain ⟨x, L, rfl, _⟩ := h
    rfl
  · obtain ⟨x, L, rfl, hx, hL, q⟩ := h
    refine ⟨_, (pss_cons (ps_set (i := 1) sc_judged_label.nd rfl (.inl rfl) (pe_call (ok_kept_label T) (hr.mono (by decide)) (by rfl) T.g_kept_label T.F_kept_label.kp T.b_kept_label .nil pass0 (pa_cons (pv 0) pa_nil)))
      (pss_cons (ps_if (pt_cmpR op_isN (pv 1) pe_non (nomark _))
      (pss_one ps_never)
      pss_nil)
      (pss_one (ps_ret (pv 1))))), ?_⟩
    refine ⟨_, rfl, _, L, rfl, hx, hL, fun y H1 s1 hy => ?_⟩
    have q1 := q y H1 s1 hy
    obtain ⟨l, rfl, _⟩ := hy
    refine ⟨_, rfl, rfl, _, rfl, ite2 (fun e => absurd (of_decide_eq_true e) (by intro z; cases z)) (fun _ => ?_)⟩
    exact ⟨_, rfl, q1⟩
theorem ok_kept_page (T : Tab K mg) : FnOk P w K mg base CX0 4 T.f_kept_page T.d_kept_page ["thing"] (sp_kept_page K) := by
  refine T.F_kept_page.ok sc_kept_page (fun vs H Q E h => ?_) (fun cdv A outer s H vs Q E hr h => ?_)
  · obtain ⟨v, p, rfl, _⟩ := h
    rfl
  · obtain ⟨v, p, rfl, ⟨a, u, rfl, hS, hu⟩, ok, q⟩ := h
    refine ⟨_, (pss_cons (ps_if (PW.pt (pw_or (pt_not (pt_val (pe_call (ok_is_sized T) (hr.mono (by decide)) (by rfl) T.g_is_sized T.F_is_sized.kp T.b_is_sized .nil pass0 (pa_cons (pv 0) (pa_cons pe_int (pa_cons pe_int pa_nil)))))) (pw_or1 (pt_not (pt_val (pe_call (ok_is_within T) (hr.mono (by decide)) (by rfl) T.g_is_within T.F_is_within.kp T.b_is_within .nil pass0 (pa_cons (pe_ix (IxR.or ix_list ix_tup) (pv 0) pe_int (fun _ _ => rfl)) (pa_cons pe_int (pa_cons pe_int pa_nil)))))))))
      (pss_one (ps_ret pe_non))
      pss_nil)
      (pss_cons (ps_set (i := 1) sc_kept_page.nd rfl (.inl rfl) (pe_call (ok_kept_label T) (hr.mono (by decide)) (by rfl) T.g_kept_label T.F_kept_label.kp T.b_kept_label .nil pass0 (pa_cons (pe_ix (IxR.or ix_list ix_tup) (pv 0) pe_int (fun _ _ => rfl)) pa_nil)))
      (pss_one (ps_ret (pe_ifExp (pt_cmpR op_isN (pv 1) pe_non (nomark _)) pe_non (pe_tup (pa_cons (pv 1) (pa_cons (pe_ix (IxR.or ix_list ix_tup) (pv 0) pe_int (fun _ _ => rfl)) pa_nil)))))))), ?_⟩
    have du : ∃ d, Dp K H u d := by
      obtain ⟨l, rfl, hl | hl⟩ := hu
      · exact ⟨_, dpL (L := p.1) (.inl (.inl hl))⟩
      · exact ⟨_, .lst hl (dp_ints p.1)⟩
    obtain ⟨d, hd⟩ := du
    have dd : ∃ d', Dp K H (.ref a) d' ∧ items d' = some [d, .int p.2] := by
      rcases hS with hS | hS
      · exact ⟨_, .lst hS (.cons hd (.cons (.int _) .nil)), rfl⟩
      · exact ⟨_, .tup hS (.cons hd (.cons (.int _) .nil)), rfl⟩
    obtain ⟨d', hd', hi⟩ := dd
    have hsz : sz 2 2 d' = true := by
      unfold sz
      rw [hi]
      rfl
    refine ⟨_, rfl, _, d', 2, 2, rfl, hd', fun H1 s1 => ⟨_, rfl, ?_⟩⟩
    rw [hsz]
    have ix : ∀ {Q1 : V → Hp → Prop} {H2 : Hp} {i : Int} {z : V}, Same H H2 → atI [u, .int p.2] i = some z → Q1 z H2 → (rIxL K (.ref a) (.int i) H2 Q1 ∨ rIxT K (.ref a) (.int i) H2 Q1) := fun {Q1 H2 i z} s e q => by
      rcases hS with hS | hS
      · exact .inl ⟨a, _, _, _, rfl, rfl, s.seq hS, e, q⟩
      · exact .inr ⟨a, _, _, _, rfl, rfl, same_seqT s hS, e, q⟩
    refine ⟨_, rfl, ix s1 rfl ?_⟩
    refine ⟨.int p.2, .int p.2, 0, 1, rfl, .int _, ?_⟩
    have e1 : wI 0 1 (.int p.2) = true := decide_eq_true (by have := ok.2; omega)
    rw [e1]
    refine ⟨_, rfl, ?_⟩
    refine ⟨_, rfl, ix s1 rfl ?_⟩
    have hu1 : IL K H1 u p.1 := by
      obtain ⟨l, rfl, hl | hl⟩ := hu
      · exact ⟨l, rfl, .inl (s1 _ _ hl)⟩
      · exact ⟨l, rfl, .inr (s1.seq hl)⟩
    refine ⟨u, p.1, rfl, hu1, ok.1, fun y H2 s2 hy => ?_⟩
    obtain ⟨b, rfl, hb⟩ := hy
    refine ⟨_, rfl, rfl, _, rfl, ite2 (fun e => absurd (of_decide_eq_true e) (by intro z; cases z)) (fun _ => ?_)⟩
    refine ⟨_, rfl, _, rfl, ix (s1.trans s2) rfl ?_⟩
    refine ⟨(by show 2 ≤ sizeLine; decide), fun t nt => ?_⟩
    have s3 := same_upd (o := .tup [.ref b, .int p.2]) nt
    exact q (.ref t) _ ((s1.trans s2).trans s3) (tpP (p := p) upd_same (s3 _ _ hb))
theorem ok_kept_strokes (T : Tab K mg) : FnOk P w K mg base CX0 4 T.f_kept_strokes T.d_kept_strokes ["strokes"] (sp_kept_strokes K) := by
  refine T.F_kept_strokes.ok sc_kept_strokes (fun vs H Q E h => ?_) (fun cdv A outer s H vs Q E hr h => ?_)
  · obtain ⟨a, ss, rfl, _⟩ := h
    rfl
  · obtain ⟨a, ss, rfl, ⟨us, hS, tu, l5⟩, ok, q⟩ := h
    refine ⟨_, (pss_cons (ps_if (PW.pt (pw_or (pt_not (pt_val (pe_call (ok_is_tuple T) (hr.mono (by decide)) (by rfl) T.g_is_tuple T.F_is_tuple.kp T.b_is_tuple .nil pass0 (pa_cons (pv 0) pa_nil)))) (pw_or1 (pt_not (pt_val (pe_callB (cr_all rfl) (by rfl) T.m_all (by decide +kernel) (pa_cons (pe_lc (own := [("stroke", 1)]) (g := gName 1) (by rfl) sc_kept_strokes.nd (pi_or (pi_list (pv 0)) (pi_tup (pv 0))) (blkOk_by (own := [("stroke", 1)]) (N := N_kept_strokes) (sc := defScope s_kept_strokes) (by decide +kernel)) (fun _ _ _ _ _ => pg_name (i := 1) sc_kept_strokes.nd rfl (.inl rfl)) (fun _ _ _ _ _ => pts_nil) (fun _ _ _ _ _ => (pe_call (ok_is_stroke T) (hr.mono (by decide)) (by rfl) T.g_is_stroke T.F_is_stroke.kp T.b_is_stroke .nil pass0 (pa_cons (pv 1) pa_nil)))) pa_nil)))))))
      (pss_one (ps_ret pe_non))
      pss_nil)
      (pss_one (ps_ret (pe_callTy call_tuple_of (by rfl) T.m_tuple (by decide +kernel) (pa_cons (pe_lc (own := [("stroke", 1)]) (g := gName 1) (by rfl) sc_kept_strokes.nd (pi_or (pi_list (pv 0)) (pi_tup (pv 0))) (blkOk_by (own := [("stroke", 1)]) (N := N_kept_strokes) (sc := defScope s_kept_strokes) (by decide +kernel)) (fun _ _ _ _ _ => pg_name (i := 1) sc_kept_strokes.nd rfl (.inl rfl)) (fun _ _ _ _ _ => pts_nil) (fun _ _ _ _ _ => (pe_callTy (call_tuple_ofK (K := K) rfl) (by rfl) T.m_tuple (by decide +kernel) (pa_cons (pv 1) pa_nil)))) pa_nil))))), ?_⟩
    have lu : us.length = ss.length := by have := tu.len; rwa [List.length_map] at this
    have fin : ∀ {H1 H2 : Hp} {D : Addr} {ws : List V}, Same H H1 → Same H1 H2 → H2 D = some (.lst ws) → TpAll H2 ws (ss.map dSk) → ∀ t, H2 t = none → Q (.ref t) (upd H2 t (.tup ws)) := fun {H1 H2 D ws} s1 s2 eD tw t nt => q t ws _ ((s1.trans s2).trans (same_upd nt)) upd_same (tw.nl (NL.of (same_upd nt)))
    rcases hS with hS | hS
    · refine ⟨_, rfl, _, .none, rfl, .inr ⟨a, us, rfl, .inl hS, fun H1 s1 => ⟨_, rfl, iteF ?_⟩⟩⟩
      have hs1 := Same.seq s1 hS
      have tu1 := tu.nl (NL.of s1)
      refine .inl ⟨_, rfl, a, rfl, ⟨_, hs1⟩, fun D nD => ?_⟩
      refine lc_fm ss (fun s => some (V.bl ((fun _ => true) s))) (walkL (xs := us) lu) nD (fun H h => Same.seq h hs1) l5 ?_ ?_
      · rintro i d x H2 H3 ed sm ⟨rfl, hx⟩ R N hR hN
        obtain ⟨e, ee, tx⟩ := tu1.get hx
        rw [List.getElem?_map, ed] at ee
        cases ee
        exact ⟨rfl, _, rfl, x, d, rfl, tx.nl (NL.of sm), ok d (List.mem_of_getElem? ed), fun H' s => hR _ rfl _ s⟩
      rintro H2 sm eD
      rw [map_fm, show (fun d : Sk => V.bl ((fun _ => true) d)) = V.bl ∘ (fun _ => true) from rfl, ← List.map_map] at eD
      refine ⟨D, _, rfl, .inl (.inl eD), _, rfl, ?_⟩
      rw [all_map, List.all_eq_true.mpr (fun _ _ => rfl)]
      refine iteF ?_
      have hs2 := Same.seq sm hs1
      have tu2 := tu1.nl (NL.of sm)
      refine .inl ⟨_, rfl, a, rfl, ⟨_, hs2⟩, fun D2 nD2 => ?_⟩
      refine lc_tp ss (fun s => some (dSk s)) (walkL (xs := us) lu) nD2 (fun H h => Same.seq h hs2) l5 ?_ ?_
      · rintro i d x H3 H4 ed sm2 ⟨rfl, hx⟩ R N hR hN
        obtain ⟨e, ee, tx⟩ := tu2.get hx
        rw [List.getElem?_map, ed] at ee
        cases ee
        have tx2 := tx.nl (NL.of sm2)
        obtain ⟨b, rfl, hb⟩ := sk_inv tx2
        exact ⟨rfl, _, rfl, b, _, rfl, .inr ⟨.inl (.inl hb), hR _ _ rfl _ (Same.refl _) tx2⟩⟩
      rintro H4 ws s4 eD2 tw
      rw [map_fm] at tw
      refine ⟨D2, ws, rfl, .inl ⟨.inl (.inl eD2), fun t nt => ?_⟩⟩
      exact fin (s1.trans sm) s4 eD2 tw t nt
    · refine ⟨_, rfl, _, .none, rfl, .inr ⟨a, us, rfl, .inr hS, fun H1 s1 => ⟨_, rfl, iteF ?_⟩⟩⟩
      have hs1 := same_seqT s1 hS
      have tu1 := tu.nl (NL.of s1)
      refine .inr ⟨_, rfl, a, rfl, ⟨_, hs1⟩, fun D nD => ?_⟩
      refine lc_fm ss (fun s => some (V.bl ((fun _ => true) s))) (walkT (xs := us) lu) nD (fun H h => same_seqT h hs1) l5 ?_ ?_
      · rintro i d x H2 H3 ed sm ⟨rfl, hx⟩ R N hR hN
        obtain ⟨e, ee, tx⟩ := tu1.get hx
        rw [List.getElem?_map, ed] at ee
        cases ee
        exact ⟨rfl, _, rfl, x, d, rfl, tx.nl (NL.of sm), ok d (List.mem_of_getElem? ed), fun H' s => hR _ rfl _ s⟩
      rintro H2 sm eD
      rw [map_fm, show (fun d : Sk => V.bl ((fun _ => true) d)) = V.bl ∘ (fun _ => true) from rfl, ← List.map_map] at eD
      refine ⟨D, _, rfl, .inl (.inl eD), _, rfl, ?_⟩
      rw [all_map, List.all_eq_true.mpr (fun _ _ => rfl)]
      refine iteF ?_
      have hs2 := same_seqT sm hs1
      have tu2 := tu1.nl (NL.of sm)
      refine .inr ⟨_, rfl, a, rfl, ⟨_, hs2⟩, fun D2 nD2 => ?_⟩
      refine lc_tp ss (fun s => some (dSk s)) (walkT (xs := us) lu) nD2 (fun H h => same_seqT h hs2) l5 ?_ ?_
      · rintro i d x H3 H4 ed sm2 ⟨rfl, hx⟩ R N hR hN
        obtain ⟨e, ee, tx⟩ := tu2.get hx
        rw [List.getElem?_map, ed] at ee
        cases ee
        have tx2 := tx.nl (NL.of sm2)
        obtain ⟨b, rfl, hb⟩ := sk_inv tx2
        exact ⟨rfl, _, rfl, b, _, rfl, .inr ⟨.inl (.inl hb), hR _ _ rfl _ (Same.refl _) tx2⟩⟩
      rintro H4 ws s4 eD2 tw
      rw [map_fm] at tw
      refine ⟨D2, ws, rfl, .inl ⟨.inl (.inl eD2), fun t nt => ?_⟩⟩
      exact fin (s1.trans sm) s4 eD2 tw t nt
theorem ok_paper (T : Tab K mg) : FnOk P w K mg base CX0 4 T.f_paper T.d_paper ["_law_source_here", "_law_many", "_law_pool"] (sp_paper K) := by
  refine T.F_paper.ok sc_paper (fun vs H Q E h => ?_) (fun cdv A outer s H vs Q E hr h => ?_)
  · obtain ⟨a, b, zs, m, rfl, _⟩ := h
    rfl
  · obtain ⟨a, b, zs, m, rfl, src, ba, hb, pok, m0, m3, q⟩ := h
    refine ⟨_, (pss_cons (ps_set (i := 3) sc_paper.nd rfl (.inl rfl) (pe_lst pa_nil))
      (pss_cons (ps_for PassesOwn.never rfl (pi_range1 (by rfl) T.m_range (pa_cons (pv 1) pa_nil)) (pg_name (i := 4) sc_paper.nd rfl (.inl rfl))
      (pss_cons (ps_set (i := 5) sc_paper.nd rfl (.inl rfl) (pe_call (ok_label T) (hr.mono (by decide)) (by rfl) T.g_label T.F_label.kp T.b_label .nil pass0 (pa_cons (pv 0) pa_nil)))
        (pss_one (ps_if (pt_cmpR (op_notInDD (un2 hr)) (pv 5) (pv 3) (by rfl))
        (pss_one (ps_expr (pe_bm PySem.F.plainAttrs_list PySem.F.slot_list_append PySem.F.type_list_append mt_append (pv 3) (pa_cons (pv 5) pa_nil))))
        pss_nil))))
      (pss_cons (ps_set (i := 6) sc_paper.nd rfl (.inl rfl) (pe_lst pa_nil))
      (pss_cons (ps_for PassesOwn.never rfl (pi_list (pe_callB (cr_sortedD (un2 hr)) (by rfl) T.m_sorted (by decide +kernel) (pa_cons (pv 3) pa_nil))) (pg_name (i := 5) sc_paper.nd rfl (.inl rfl))
      (pss_cons (ps_set (i := 7) sc_paper.nd rfl (.inl rfl) (pe_call (ok_side T) (hr.mono (by decide)) (by rfl) T.g_side T.F_side.kp T.b_side .nil pass0 (pa_cons (pv 0) (pa_cons (pv 2) (pa_cons pe_int pa_nil)))))
        (pss_cons (ps_set (i := 8) sc_paper.nd rfl (.inl rfl) (pe_call (ok_side T) (hr.mono (by decide)) (by rfl) T.g_side T.F_side.kp T.b_side .nil pass0 (pa_cons (pv 0) (pa_cons (pv 2) (pa_cons pe_int pa_nil)))))
        (pss_one (ps_expr (pe_bm PySem.F.plainAttrs_list PySem.F.slot_list_append PySem.F.type_list_append mt_append (pv 6) (pa_cons (pe_tup (pa_cons (pv 5) (pa_cons (pv 7) (pa_cons (pv 8) (pa_cons (pe_call (ok_pen T) (hr.mono (by decide)) (by rfl) T.g_pen T.F_pen.kp T.b_pen .nil pass0 (pa_cons (pv 0) (pa_cons (pe_lst (pa_cons (pv 7) (pa_cons (pv 8) pa_nil))) (pa_cons (pv 2) pa_nil)))) pa_nil))))) pa_nil)))))))
      (pss_one (ps_ret (pv 6))))))), ?_⟩
    refine ⟨Nat.zero_le _, fun D nD => ?_⟩
    have nDa : D ≠ a := (src.ne nD).symm
    refine ⟨_, rfl, _, rfl, by omega, by omega, for_range (lo := 0) (n := m.toNat) (fun j σ' H' => ∃ (y4 y5 : Option V) (Ls : List (List Int)) (ws : List V), σ' = [some (.ref a), some (.int m), some (.ref b), some (.ref D), y4, y5, none, none, none] ∧ Src H' a ∧ But a H H' ∧ H' D = some (.lst ws) ∧ TpAll H' ws (Ls.map dL) ∧ Ls.Nodup ∧ (∀ L ∈ Ls, okL L) ∧ Ls.length ≤ j) ⟨none, none, [], [], rfl, src.put nDa.symm _, (But.refl a H).put nD _, upd_same, .nil, List.nodup_nil, (fun _ h => nomatch h), Nat.le_refl _⟩ ?_ ?_⟩
    · rintro j σ' H1 hj ⟨y4, y5, Ls, ws, rfl, s1, b1, eD, tw, nd, okl, lj⟩
      refine ⟨_, rfl, a, rfl, s1, fun l L H2 s2 b2 hl okL0 => ?_⟩
      have eD2 := b2 _ _ nDa eD
      have tw2 := tw.nl (s1.nl b2)
      have lw : ws.length = Ls.length := by have := tw.len; rwa [List.length_map] at this
      refine ⟨_, rfl, _, rfl, dL L, Ls.map dL, (tpL hl).dp, .inl (.lst (.inl (.inl eD2)) tw2.dp), shaped_L L, pn_Ls, _, rfl, ite2 (fun e => ?_) (fun e => ?_)⟩
      · have nm : L ∉ Ls := fun hm => by
          have : (Ls.map dL).any (fun z => PyData.eqv z (dL L)) = true := List.any_eq_true.mpr ⟨dL L, List.mem_map_of_mem hm, by rw [eqv_L]; exact decide_eq_true rfl⟩
          rw [this] at e
          cases e
        have mm := (NL.refl H2).put eD2 (.lst (ws ++ [.ref l]))
        refine ⟨_, rfl, .inl ⟨rfl, _, .inl (.inl eD2)⟩, _, rfl, D, _, _, rfl, rfl, eD2, small1000 (by omega), _, _, Ls ++ [L], ws ++ [.ref l], rfl, s2.put nDa.symm _, (b1.trans b2).put nD _, upd_same, ?_, ?_, ?_, by rw [List.length_append, List.length_singleton]; omega⟩
        · rw [List.map_append]
          exact (tw2.nl mm).snoc ((tpL hl).nl mm)
        · exact List.nodup_append.mpr ⟨nd, by simp, fun x hx y hy e9 => nm (by rw [← List.mem_singleton.mp hy, ← e9]; exact hx)⟩
        · intro x hx
          rcases List.mem_append.mp hx with h | h
          · exact okl _ h
          · rw [List.mem_singleton.mp h]; exact okL0
      · exact ⟨_, _, Ls, ws, rfl, s2, b1.trans b2, eD2, tw2, nd, okl, by omega⟩
    rintro σ' H1 ⟨y4, y5, Ls, ws, rfl, s1, b1, eD, tw, nd, okl, lj⟩
    have l3 : Ls.length ≤ 3 := by omega
    refine ⟨Nat.zero_le _, fun G nG => ?_⟩
    have sG := same_upd (o := .lst []) nG
    have eG : upd H1 G (.lst []) G = some (.lst []) := upd_same
    have nGa : G ≠ a := (s1.ne nG).symm
    have fG : H G = none := b1.none nG nGa
    have src2 := srcS sG s1
    have b2 := b1.trans (But.of sG)
    have eD2 := sG _ _ eD
    have tw2 := tw.nl (NL.of sG)
    generalize upd H1 G (.lst []) = H2 at sG eG src2 b2 eD2 tw2
    refine ⟨_, rfl, D, ws, Ls.map dL, rfl, .inl (.inl eD2), tw2.dp, allAlike_L _, sortable_L okl, depth_Ls _, fun P nP => ?_⟩
    have sP := same_upd (o := .lst ((srtV ws (Ls.map dL)).map Prod.fst)) nP
    have eP : upd H2 P (.lst ((srtV ws (Ls.map dL)).map Prod.fst)) P = some (.lst ((srtV ws (Ls.map dL)).map Prod.fst)) := upd_same
    have tS := (srt_T tw2).nl (NL.of sP)
    have src3 := srcS sP src2
    have b3 := b2.trans (But.of sP)
    have eG3 := sP _ _ eG
    have PG : P ≠ G := (ne_of_none eG nP).symm
    generalize upd H2 P (.lst ((srtV ws (Ls.map dL)).map Prod.fst)) = H3 at sP eP tS src3 b3 eG3
    generalize (srtV ws (Ls.map dL)).map Prod.fst = pv9 at eP tS
    have pS := sortBy_perm dL Ls
    have wS := sortBy_pw dL Ls
    generalize sortBy dL Ls = S at tS pS wS
    have nS : S.Nodup := pS.nodup_iff.mpr nd
    have pwS := sortL_pw wS nS
    have lS : S.length ≤ 3 := by rw [pS.length_eq]; exact l3
    have lp : pv9.length = S.length := by have := tS.len; rwa [List.length_map] at this
    have nPa : P ≠ a := (src2.ne nP).symm
    refine ⟨P, rfl, ⟨_, .inl (.inl eP)⟩, for_list (xs := pv9) (fun i σ' H' => ∃ (y5 y7 y8 : Option V) (ls : List V) (bk : List Lf), σ' = [some (.ref a), some (.int m), some (.ref b), some (.ref D), y4, y5, some (.ref G), y7, y8] ∧ Src H' a ∧ But a H H' ∧ (∀ c ys, c ≠ a → c ≠ G → H3 c = some (.lst ys) → H' c = some (.lst ys)) ∧ NL H3 H' ∧ H' G = some (.lst ls) ∧ TpAll H' ls (bk.map dLp) ∧ bk.map Lf.L = S.take i ∧ (∀ l ∈ bk, GLf l ∧ l.pen.length ≤ 3)) ⟨_, _, _, [], [], rfl, src3, b3, (fun _ _ _ _ h => h), NL.refl _, eG3, .nil, rfl, (fun _ h => nomatch h)⟩ (fun i σ' H' _ hh => by obtain ⟨_, _, _, _, _, _, _, _, kl, _⟩ := hh; exact .inl (.inl (kl _ _ nPa PG eP))) ?_ ?_⟩
    · rintro i x σ' H4 hx ⟨y5, y7, y8, ls, bk, rfl, s4, b4, kl4, m4, eG4, tl4, eL4, ok4⟩
      have i3 := (List.getElem?_eq_some_iff.mp hx).1
      obtain ⟨d, ed, tx⟩ := tS.get hx
      rw [List.getElem?_map] at ed
      obtain ⟨L, eL, rfl⟩ := Option.map_eq_some_iff.mp ed
      have tx4 := tx.nl m4
      obtain ⟨l9, rfl, hl9⟩ := tpL_inv tx4
      have okL9 : okL L := okl L (pS.mem_iff.mp (List.mem_of_getElem? eL))
      have hb4 := b4 _ _ ba hb
      refine ⟨_, rfl, _, rfl, a, b, zs, 1, rfl, s4, ba, hb4, pok, .inr rfl, fun p1 ys1 H5 s5 b5 e1 r1 a1 => ?_⟩
      have b05 := b4.trans b5
      refine ⟨_, rfl, _, rfl, a, b, zs, 0, rfl, s5, ba, b05 _ _ ba hb, pok, .inl rfl, fun p2 ys2 H6 s6 b6 e2 r2 a2 => ?_⟩
      have b06 := b05.trans b6
      have e16 := (s5.nl b6) _ _ e1 (fun _ z => nomatch z)
      have b46 := b5.trans b6
      have eG6 := b46 _ _ nGa eG4
      refine ⟨_, rfl, .inl ⟨rfl, _, .inl (.inl eG6)⟩, _, rfl, _, rfl, _, rfl, _, rfl, _, rfl, _, rfl, (by show 2 ≤ sizeLine; decide), fun R nR => ?_⟩
      have sR := same_upd (o := .lst [.ref p1, .ref p2]) nR
      have eR : upd H6 R (.lst [.ref p1, .ref p2]) R = some (.lst [.ref p1, .ref p2]) := upd_same
      have src7 := srcS sR s6
      have b07 := b06.trans (But.of sR)
      have nRa : R ≠ a := (s6.ne nR).symm
      have e17 := sR _ _ e16
      have e27 := sR _ _ e2
      have b47 := b46.trans (But.of sR)
      have eG7 := sR _ _ eG6
      have m47 : NL H4 (upd H6 R (.lst [.ref p1, .ref p2])) := s4.nl b47
      generalize upd H6 R (.lst [.ref p1, .ref p2]) = H7 at sR eR src7 b07 e17 e27 b47 eG7 m47
      refine ⟨_, rfl, a, R, b, p1, p2, zs, ⟨L, ys1, ys2, []⟩, rfl, src7, ba, nRa, b07 _ _ ba hb, pok, eR, ⟨e17, e27, r1, r2⟩, fun p4 us4 ss H8 s8 b8 e4 t4 okp pw w4 l4 => ?_⟩
      have m8 := src7.nl b8
      have b08 := b07.trans b8
      have b48 := b47.trans b8
      refine ⟨(by show 4 ≤ sizeLine; decide), fun t9 n9 => ?_⟩
      have s9 := same_upd (o := .tup [.ref l9, .ref p1, .ref p2, .ref p4]) n9
      have e9 : upd H8 t9 (.tup [.ref l9, .ref p1, .ref p2, .ref p4]) t9 = some (.tup [.ref l9, .ref p1, .ref p2, .ref p4]) := upd_same
      have src9 := srcS s9 s8
      have b09 := b08.trans (But.of s9)
      have b49 := b48.trans (But.of s9)
      have m49 := (m47.trans m8).trans (NL.of s9)
      have htl := tp_Lp (lf := ⟨L, ys1, ys2, ss⟩) e9 (m49 _ _ hl9 (fun _ z => nomatch z)) (s9 _ _ (m8 _ _ e17 (fun _ z => nomatch z))) (s9 _ _ (m8 _ _ e27 (fun _ z => nomatch z))) (s9 _ _ e4) (t4.nl (NL.of s9))
      have eG9 := s9 _ _ (b8 _ _ nGa eG7)
      generalize upd H8 t9 (.tup [.ref l9, .ref p1, .ref p2, .ref p4]) = H9 at s9 e9 src9 b09 b49 m49 htl eG9
      have mm := (NL.refl H9).put eG9 (.lst (ls ++ [.ref t9]))
      have lls : ls.length = bk.length := by have := tl4.len; rwa [List.length_map] at this
      have lbk : bk.length ≤ 3 := by
        have := congrArg List.length eL4
        rw [List.length_map, List.length_take] at this
        omega
      refine ⟨G, _, _, rfl, rfl, eG9, small1000 (by omega), _, _, _, ls ++ [.ref t9], bk ++ [⟨L, ys1, ys2, ss⟩], rfl, src9.put nGa.symm _, b09.put fG _, fun c ys ca cG hc => (upd_ne cG).trans (b49 _ _ ca (kl4 c ys ca cG hc)), (m4.trans m49).trans mm, upd_same, ?_, ?_, ?_⟩
      · rw [List.map_append]
        exact ((tl4.nl m49).nl mm).snoc (htl.nl mm)
      · rw [List.map_append, eL4, List.take_add_one, eL]
        rfl
      · intro l hl
        rcases List.mem_append.mp hl with h | h
        · exact ok4 l h
        · rw [List.mem_singleton.mp h]
          exact ⟨⟨⟨okL9, r1, r2, okp, pw⟩, a1, a2, w4⟩, l4⟩
    · rintro σ' H4 ⟨y5, y7, y8, ls, bk, rfl, s4, b4, kl4, m4, eG4, tl4, eL4, ok4⟩
      rw [lp, List.take_length] at eL4
      refine ⟨_, rfl, q G ls bk H4 s4 b4 fG eG4 tl4 ⟨?_, ?_, ok4⟩⟩
      · have := congrArg List.length eL4
        rw [List.length_map] at this
        omega
      · rw [← List.pairwise_map (f := Lf.L) (R := fun a b => HT.lexLt a b = true), eL4]
        exact pwS
theorem ok_correction (T : Tab K mg) : FnOk P w K mg base CX0 4 T.f_correction T.d_correction ["_law_source_here", "_law_places", "_law_spots_here", "_law_pens_here", "_law_pool"] (sp_correction K w) := by
  refine T.F_correction.ok sc_correction (fun vs H Q E h => ?_) (fun cdv A outer s H vs Q E hr h => ?_)
  · obtain ⟨a, b, s, g, c, us, qs, zs, f, h0, n, m, rfl, _⟩ := h
    rfl
  · obtain ⟨a, b, s, g, c, us, qs, zs, f, h0, n, m, rfl, src, ba, sa, ga, ca, hb, tq, okq, q9, hs, hg, wf, wg, hc, ⟨wz, z2, z9, dz⟩, k⟩ := h
    refine ⟨_, (pss_cons (ps_set (i := 5) sc_correction.nd rfl (.inl rfl) (pe_call (ok_spot T) (hr.mono (by decide)) (by rfl) T.g_spot T.F_spot.kp T.b_spot .nil pass0 (pa_cons (pv 0) (pa_cons (pv 1) pa_nil))))
      (pss_cons (ps_set (i := 6) sc_correction.nd rfl (.inr rfl) (pe_ix ix_list (pv 4) (pe_call (ok_pick T) (hr.mono (by decide)) (by rfl) T.g_pick T.F_pick.kp T.b_pick .nil pass0 (pa_cons (pv 0) (pa_cons (pe_callB call_len_seq (by rfl) T.m_len PySem.boot_len (pa_cons (pv 4) pa_nil)) pa_nil))) (fun _ _ => rfl)))
      (C8.pss_cut (ps_if (PW.pt (pw_and (pt_cmpR (op_inN (by have z := hr.units; exact z)) (pv 5) (pv 2) (by rfl)) (pw_and1 (pt_cmpR op_lt (pe_call (ok_pick T) (hr.mono (by decide)) (by rfl) T.g_pick T.F_pick.kp T.b_pick .nil pass0 (pa_cons (pv 0) (pa_cons pe_int pa_nil))) pe_int (nomark _)))))
      (pss_one (ps_set (i := 6) sc_correction.nd rfl (.inr rfl) (pe_call (ok_says T) (hr.mono (by decide)) (by rfl) T.g_says T.F_says.kp T.b_says .nil pass0 (pa_cons (pv 2) (pa_cons (pv 3) (pa_cons (pv 5) pa_nil))))))
      pss_nil)
      (pss_cons (ps_setLc (i := 7) (own := [("_law_one", 8)]) (g := gName 8) (by rfl) sc_correction.nd rfl rfl (sw_true rfl rfl rfl (by decide +kernel)) (pi_list (pv 4)) (blkOk_by (own := [("_law_one", 8)]) (N := N_correction) (sc := defScope s_correction) (by decide +kernel)) (fun _ _ _ _ _ => pg_name (i := 8) sc_correction.nd rfl (.inl rfl)) (fun _ _ _ _ _ => (pts_one (pt_cmpR op_ne (pv 8) (pv 6) (nomark _)))) (fun _ _ _ _ _ => (pv 8)))
      (pss_one (ps_ret (pe_op op_catA (pv 5) (pe_tup (pa_cons (pv 6) (pa_cons (pe_ix ix_list (pv 7) (pe_call (ok_pick T) (hr.mono (by decide)) (by rfl) T.g_pick T.F_pick.kp T.b_pick .nil pass0 (pa_cons (pv 0) (pa_cons (pe_callB call_len_seq (by rfl) T.m_len PySem.boot_len (pa_cons (pv 7) pa_nil)) pa_nil))) (fun _ _ => rfl)) pa_nil)))))))))), ?_⟩
    refine ⟨_, rfl, _, rfl, a, b, us, qs, rfl, src, ba, hb, tq, okq, q9, fun v q H1 s1 b1 tv hq => ?_⟩
    have hc1 := b1 _ _ ca hc
    refine ⟨_, rfl, _, rfl, _, rfl, c, _, rfl, .inl (.inl (.inl hc1)), a, _, rfl, s1, by rw [List.length_map]; omega, by rw [List.length_map]; omega, fun i H2 s2 b2 i0 i1 => ?_⟩
    rw [List.length_map] at i1
    have hi : i.toNat < zs.length := by omega
    have eo := List.getElem?_eq_getElem hi
    generalize zs[i.toNat] = o1 at eo
    have mo := List.mem_of_getElem? eo
    have hc2 := b2 _ _ ca hc1
    refine ⟨c, _, i, .str o1, rfl, rfl, .inl (.inl hc2), at_of' (Int.toNat_of_nonneg i0).symm (by rw [List.getElem?_map, eo]; rfl), ?_⟩
    have b02 := b1.trans b2
    have tv2 := tv.nl (s1.nl b2)
    have hs2 := hs.nl (src.nl b02)
    have hg2 := hg.nl (src.nl b02)
    refine ⟨fun σ' H' => ∃ o : Str, σ' = [some (.ref a), some (.ref b), some (.ref s), some (.ref g), some (.ref c), some v, some (.str o), none, none] ∧ Wd o ∧ Src H' a ∧ But a H2 H', ?_, ?_⟩
    · obtain ⟨kb, pv0, rfl, _⟩ := q_inv tv2
      obtain ⟨msS, dS0, tS, fS, ndS, lS⟩ := id hs2
      refine ⟨_, rfl, _, rfl, s, _, kb, dQ q, rfl, dS0, rfl, tv2.dp, noL_Q _, dQ_depth _, ?_⟩
      rw [atN_kvM, Option.isSome_map, fS]
      cases ef : f q with
      | none => exact ⟨_, rfl, iteF ⟨o1, rfl, wz o1 mo, s2, fun _ _ _ h => h⟩⟩
      | some z =>
        refine ⟨_, rfl, iteT ⟨_, rfl, a, 4, rfl, s2, by decide, by decide, fun r H3 s3 b3 r0 r1 => ⟨_, _, rfl, rfl, _, rfl, ite2 (fun e => ?_) (fun e => ?_)⟩⟩⟩
        · have m3 := s2.nl b3
          refine ⟨_, rfl, _, rfl, _, rfl, s, g, .ref kb, q, f, h0, _, _, z, rfl, hs2.nl m3, hg2.nl m3, tv2.nl m3, ef, fun H4 s4 => ⟨(h0 q).getD z, rfl, ?_, srcS s4 s3, b3.trans (But.of s4)⟩⟩
          cases eh : h0 q with
          | none => exact wf _ _ ef
          | some y => exact wg _ _ eh
        · exact ⟨o1, rfl, wz o1 mo, s3, b3⟩
    rintro σ' H6 ⟨o, rfl, wo, s6, b26⟩
    have b06 := b02.trans b26
    have hc6 := b26 _ _ ca hc2
    have tv6 := tv2.nl (s2.nl b26)
    refine ⟨_, rfl, c, rfl, ⟨_, .inl (.inl hc6)⟩, fun O nO => ?_⟩
    refine lc_fm zs (fun y => if (!decide (V.str y = V.str o)) = true then some (V.str y) else none) (walkL (xs := zs.map V.str) (by simp)) nO (fun H h => .inl (.inl (h _ _ hc6))) (by omega) ?_ ?_
    · rintro i3 d x H7 H8 ed sm ⟨rfl, hx⟩ R N hR hN
      rw [List.getElem?_map, ed] at hx
      cases hx
      refine ⟨rfl, _, rfl, _, rfl, rfl, _, rfl, ite2 (fun e => ?_) (fun e => ?_)⟩
      · exact ⟨_, rfl, hR _ (if_pos e) _ (Same.refl _)⟩
      · exact hN (if_neg e) _ (Same.refl _)
    · rintro H7 s67 eO
      rw [fm_filter (fun y => !decide (V.str y = V.str o)) V.str] at eO
      generalize hF : zs.filter (fun y => !decide (V.str y = V.str o)) = F at eO
      have mF : ∀ y ∈ F, Wd y ∧ o ≠ y := by
        intro y hy
        rw [← hF] at hy
        obtain ⟨h1, h2⟩ := List.mem_filter.mp hy
        refine ⟨wz y h1, fun h => ?_⟩
        rw [h] at h2
        simp at h2
      have lF : F.length ≤ 9 := by
        rw [← hF]
        exact Nat.le_trans (List.length_filter_le ..) z9
      have F1 : 1 ≤ F.length := by
        obtain ⟨y, hy, hne⟩ : ∃ y ∈ zs, y ≠ o := by
          match zs, z2, dz with
          | x1 :: x2 :: r, _, dz =>
            by_cases h : x1 = o
            · refine ⟨x2, by simp, fun h2 => ?_⟩
              rw [h, h2] at dz
              simp at dz
            · exact ⟨x1, by simp, h⟩
        have : y ∈ F := by
          rw [← hF]
          refine List.mem_filter.mpr ⟨hy, ?_⟩
          have : ¬ V.str y = V.str o := fun h => by injection h with h; exact hne h
          simp [this]
        exact List.length_pos_of_mem this
      have s7 := srcS s67 s6
      have b07 := b06.trans (But.of s67)
      refine ⟨_, rfl, _, rfl, _, rfl, _, rfl, _, rfl, O, _, rfl, .inl (.inl (.inl eO)), a, _, rfl, s7, by rw [List.length_map]; omega, by rw [List.length_map]; omega, fun i4 H8 s8 b8 i40 i41 => ?_⟩
      rw [List.length_map] at i41
      have hi4 : i4.toNat < F.length := by omega
      have en := List.getElem?_eq_getElem hi4
      generalize F[i4.toNat] = x9 at en
      have mn := mF x9 (List.mem_of_getElem? en)
      have nOa : O ≠ a := fun z => by
        obtain ⟨g1, g2, g3, g4⟩ := s6
        rw [z, g4] at nO
        cases nO
      have eO8 := b8 _ _ nOa eO
      refine ⟨O, _, i4, .str x9, rfl, rfl, .inl (.inl eO8), at_of' (Int.toNat_of_nonneg i40).symm (by rw [List.getElem?_map, en]; rfl), ?_⟩
      refine ⟨(by show 2 ≤ sizeLine; decide), fun t nt => ?_⟩
      have st := same_upd (o := .tup [.str o, .str x9]) nt
      have et : upd H8 t (.tup [.str o, .str x9]) t = some (.tup [.str o, .str x9]) := upd_same
      generalize upd H8 t (.tup [.str o, .str x9]) = H9 at st et
      have b09 := (b07.trans b8).trans (But.of st)
      have s9 := srcS st s8
      have tv9 := ((tv6.nl (NL.of s67)).nl (s7.nl b8)).nl (NL.of st)
      obtain ⟨kq, pgv, rfl, hkq, hpg⟩ := q_inv tv9
      refine ⟨kq, t, _, _, rfl, rfl, .inl (.inl hkq), .inl (.inl et), (by show 5 ≤ sizeLine; decide), (by intro h; cases h), (by intro _ h; cases h), fun _ _ p np => ?_⟩
      have sp := same_upd (o := .tup ([pgv, .int q.2.1, .int q.2.2] ++ [.str o, .str x9])) np
      have ep : upd H9 p (.tup ([pgv, .int q.2.1, .int q.2.2] ++ [.str o, .str x9])) p = some (.tup ([pgv, .int q.2.1, .int q.2.2] ++ [.str o, .str x9])) := upd_same
      generalize upd H9 p (.tup ([pgv, .int q.2.1, .int q.2.2] ++ [.str o, .str x9])) = H10 at sp ep
      have b010 := b09.trans (But.of sp)
      exact k _ ⟨q.1, q.2.1, q.2.2, o, x9⟩ _ (srcS sp s9) b010 (.tup ep (.cons (hpg.nl (NL.of sp)) (.cons (.int _) (.cons (.int _) (.cons (.str _) (.cons (.str _) .nil)))))) ⟨hq.1, hq.2.1, hq.2.2, wo, mn.1, mn.2⟩
theorem ok_second (T : Tab K mg) : FnOk P w K mg base CX0 4 T.f_second T.d_second ["_law_source_here", "_law_leaves", "_law_pool"] (sp_second K) := by
  refine T.F_second.ok sc_second (fun vs H Q E h => ?_) (fun cdv A outer s H vs Q E hr h => ?_)
  · obtain ⟨a, l, b, us, bk, zs, n, rfl, _⟩ := h
    rfl
  · obtain ⟨a, l, b, us, bk, zs, n, rfl, src, ba, la, hl, tu, gb, hb, pok, q⟩ := h
    refine ⟨_, (pss_cons (ps_set (i := 3) sc_second.nd rfl (.inl rfl) (pe_lst pa_nil))
      (pss_cons (ps_for PassesOwn.never rfl (pi_list (pv 1)) (pg_tup (by rfl) (pgs_cons (pg_name (i := 4) sc_second.nd rfl (.inl rfl)) (pgs_cons (pg_name (i := 5) sc_second.nd rfl (.inl rfl)) (pgs_cons (pg_name (i := 6) sc_second.nd rfl (.inl rfl)) (pgs_cons (pg_name (i := 7) sc_second.nd rfl (.inl rfl)) pgs_nil)))))
      (pss_cons (ps_set (i := 8) sc_second.nd rfl (.inl rfl) (pe_call (ok_pick T) (hr.mono (by decide)) (by rfl) T.g_pick T.F_pick.kp T.b_pick .nil pass0 (pa_cons (pv 0) (pa_cons pe_int pa_nil))))
        (pss_cons (ps_set (i := 9) sc_second.nd rfl (.inl rfl) (pe_lst (pa_cons (pv 5) (pa_cons (pv 6) pa_nil))))
        (C8.pss_cut (ps_if (pt_cmpR op_eq (pv 8) pe_int (nomark _))
        (pss_one (ps_set (i := 9) sc_second.nd rfl (.inl rfl) (pe_lst (pa_cons (pe_call (ok_side T) (hr.mono (by decide)) (by rfl) T.g_side T.F_side.kp T.b_side .nil pass0 (pa_cons (pv 0) (pa_cons (pv 2) (pa_cons pe_int pa_nil)))) (pa_cons (pv 6) pa_nil)))))
        pss_nil)
        (C8.pss_cut (ps_if (pt_cmpR op_eq (pv 8) pe_int (nomark _))
        (pss_one (ps_set (i := 9) sc_second.nd rfl (.inl rfl) (pe_lst (pa_cons (pv 5) (pa_cons (pe_call (ok_side T) (hr.mono (by decide)) (by rfl) T.g_side T.F_side.kp T.b_side .nil pass0 (pa_cons (pv 0) (pa_cons (pv 2) (pa_cons pe_int pa_nil)))) pa_nil)))))
        pss_nil)
        (pss_one (ps_if (pt_cmpR op_gt (pv 8) pe_int (nomark _))
        (pss_one (ps_expr (pe_bm PySem.F.plainAttrs_list PySem.F.slot_list_append PySem.F.type_list_append mt_append (pv 3) (pa_cons (pe_tup (pa_cons (pv 4) (pa_cons (pe_ix ix_list (pv 9) pe_int (fun _ _ => rfl)) (pa_cons (pe_ix ix_list (pv 9) pe_int (fun _ _ => rfl)) (pa_cons (pe_call (ok_pen T) (hr.mono (by decide)) (by rfl) T.g_pen T.F_pen.kp T.b_pen .nil pass0 (pa_cons (pv 0) (pa_cons (pv 9) (pa_cons (pv 2) pa_nil)))) pa_nil))))) pa_nil))))
        pss_nil)))))))
      (pss_one (ps_ret (pv 3))))), ?_⟩
    have lu : us.length = bk.length := by have := tu.len; rwa [List.length_map] at this
    have b3 := gb.1
    refine ⟨Nat.zero_le _, fun D nD => ?_⟩
    have nDa : D ≠ a := (src.ne nD).symm
    have nlD : l ≠ D := ne_of_none hl nD
    have tuA : TpAll (upd H D (.lst [])) us (bk.map dLp) := tu.nl (NL.of (same_upd nD))
    refine ⟨_, rfl, l, rfl, ⟨_, .inl (.inl ((same_upd nD) _ _ hl))⟩, for_list (xs := us) (fun i σ' H' => ∃ (y4 y5 y6 y7 y8 y9 : Option V) (ls : List V) (bk' : List Lf), σ' = [some (.ref a), some (.ref l), some (.ref b), some (.ref D), y4, y5, y6, y7, y8, y9] ∧ Src H' a ∧ But a H H' ∧ H' D = some (.lst ls) ∧ TpAll H' ls (bk'.map dLp) ∧ (bk'.map Lf.L).Sublist ((bk.take i).map Lf.L) ∧ (∀ x ∈ bk', GLf x ∧ x.pen.length ≤ 3)) ⟨none, none, none, none, none, none, [], [], rfl, src.put nDa.symm _, (But.refl a H).put nD _, upd_same, .nil, List.Sublist.refl _, (fun _ h => nomatch h)⟩ (fun i σ' H' _ hh => by obtain ⟨_, _, _, _, _, _, _, _, _, _, bt, _⟩ := hh; exact .inl (.inl (bt _ _ la hl))) ?_ ?_⟩
    · rintro i x σ' H1 hx ⟨y4, y5, y6, y7, y8, y9, ls, bk', rfl, s1, b1, eD, tl, sub, ok⟩
      obtain ⟨d, ed, tx⟩ := tu.get hx
      rw [List.getElem?_map] at ed
      obtain ⟨lf, el, rfl⟩ := Option.map_eq_some_iff.mp ed
      have gl := (gb.2.2 lf (List.mem_of_getElem? el)).1
      have i3 := (List.getElem?_eq_some_iff.mp el).1
      have tk : (bk.take (i + 1)).map Lf.L = (bk.take i).map Lf.L ++ [lf.L] := by rw [List.take_add_one, el, List.map_append]; rfl
      have lbk : bk'.length ≤ 3 := by
        have := sub.length_le
        rw [List.length_map, List.length_map, List.length_take] at this
        omega
      have lls : ls.length = bk'.length := by have := tl.len; rwa [List.length_map] at this
      have m1 : NL H H1 := src.nl b1
      obtain ⟨t, g1, f, k0, c, ps, rfl, ht, hg1, hf, hk, hc, tp⟩ := dLp_inv (tx.nl m1)
      refine ⟨t, _, rfl, .inl (.inl ht), rfl, _, _, rfl, _, _, rfl, _, _, rfl, _, _, rfl, rfl, ?_⟩
      refine ⟨_, rfl, a, 4, rfl, s1, by decide, by decide, fun wy H2 s2 b2 w0 w1 => ?_⟩
      have m2 := s1.nl b2
      refine ⟨_, rfl, _, rfl, (by show 2 ≤ sizeLine; decide), fun R nR => ?_⟩
      have sR := same_upd (o := .lst [.ref f, .ref k0]) nR
      have eR : upd H2 R (.lst [.ref f, .ref k0]) R = some (.lst [.ref f, .ref k0]) := upd_same
      have s3 := srcS sR s2
      have bR := b2.trans (But.of sR)
      have nRa : R ≠ a := (s2.ne nR).symm
      generalize upd H2 R (.lst [.ref f, .ref k0]) = H3 at sR eR s3 bR
      have tupM : ∀ {H' : Hp} {c : Addr} {ys : List V}, But a H1 H' → H1 c = some (.tup ys) → H' c = some (.tup ys) := fun bt h => (s1.nl bt) _ _ h (fun _ z => nomatch z)
      refine ⟨fun σ' H' => ∃ (R p1 : Addr) (ys1 : List Str), σ' = [some (.ref a), some (.ref l), some (.ref b), some (.ref D), some (.ref g1), some (.ref f), some (.ref k0), some (.ref c), some (.int wy), some (.ref R)] ∧ Src H' a ∧ But a H1 H' ∧ H' R = some (.lst [.ref p1, .ref k0]) ∧ H' p1 = some (.tup (ys1.map V.str)) ∧ rowsB 1 ys1 = true ∧ (∀ y ∈ ys1, Asc y) ∧ R ≠ a, ?_, ?_⟩
      · refine ⟨_, rfl, rfl, _, rfl, ite2 (fun e => ?_) (fun e => ?_)⟩
        · refine ⟨_, rfl, _, rfl, a, b, zs, 1, rfl, s3, ba, bR _ _ ba (b1 _ _ ba hb), pok, .inr rfl, fun p1 ys1 H5 s5 b5 e1 r1 a1 => ?_⟩
          refine ⟨_, rfl, (by show 2 ≤ sizeLine; decide), fun R5 nR5 => ?_⟩
          have s6 := same_upd (o := .lst [.ref p1, .ref k0]) nR5
          exact ⟨R5, p1, ys1, rfl, srcS s6 s5, (bR.trans b5).trans (But.of s6), upd_same, s6 _ _ e1, r1, a1, (s5.ne nR5).symm⟩
        · exact ⟨R, f, lf.fr, rfl, s3, bR, eR, tupM bR hf, gl.1.2.1, gl.2.1, nRa⟩
      rintro σ' H4 ⟨R1, p1, ys1, rfl, s4, b4, eR1, e1, r1, a1, nR1⟩
      refine ⟨fun σ' H' => ∃ (R p1 p2 : Addr) (ys1 ys2 : List Str), σ' = [some (.ref a), some (.ref l), some (.ref b), some (.ref D), some (.ref g1), some (.ref f), some (.ref k0), some (.ref c), some (.int wy), some (.ref R)] ∧ Src H' a ∧ But a H1 H' ∧ H' R = some (.lst [.ref p1, .ref p2]) ∧ H' p1 = some (.tup (ys1.map V.str)) ∧ H' p2 = some (.tup (ys2.map V.str)) ∧ rowsB 1 ys1 = true ∧ rowsB 0 ys2 = true ∧ (∀ y ∈ ys1, Asc y) ∧ (∀ y ∈ ys2, Asc y) ∧ R ≠ a, ?_, ?_⟩
      · refine ⟨_, rfl, rfl, _, rfl, ite2 (fun e => ?_) (fun e => ?_)⟩
        · refine ⟨_, rfl, _, rfl, _, rfl, a, b, zs, 0, rfl, s4, ba, b4 _ _ ba (b1 _ _ ba hb), pok, .inl rfl, fun p2 ys2 H5 s5 b5 e2 r2 a2 => ?_⟩
          refine ⟨(by show 2 ≤ sizeLine; decide), fun R5 nR5 => ?_⟩
          have s6 := same_upd (o := .lst [.ref f, .ref p2]) nR5
          have b16 := (b4.trans b5).trans (But.of s6)
          exact ⟨R5, f, p2, lf.fr, ys2, rfl, srcS s6 s5, b16, upd_same, tupM b16 hf, s6 _ _ e2, gl.1.2.1, r2, gl.2.1, a2, (s5.ne nR5).symm⟩
        · exact ⟨R1, p1, k0, ys1, lf.bk, rfl, s4, b4, eR1, e1, tupM b4 hk, r1, gl.1.2.2.1, a1, gl.2.2.1, nR1⟩
      rintro σ' H5 ⟨R2, q1, q2, ys1, ys2, rfl, s5, b5, eR2, e1, e2, r1, r2, a1, a2, nR2⟩
      have b05 := b1.trans b5
      have eD5 := b5 _ _ nDa eD
      have m5 := s1.nl b5
      have hg5 := tupM b5 hg1
      refine ⟨_, rfl, _, _, rfl, rfl, _, rfl, ite2 (fun e => ?_) (fun e => ?_)⟩
      · refine ⟨_, rfl, .inl ⟨rfl, _, .inl (.inl eD5)⟩, _, rfl, _, rfl, R2, _, 0, .ref q1, rfl, rfl, .inl (.inl eR2), rfl, _, rfl, R2, _, 1, .ref q2, rfl, rfl, .inl (.inl eR2), rfl, _, rfl, _, rfl, _, rfl, a, R2, b, q1, q2, zs, ⟨lf.L, ys1, ys2, []⟩, rfl, s5, ba, nR2, b05 _ _ ba hb, pok, eR2, ⟨e1, e2, r1, r2⟩, fun p4 us4 ss H8 s8 b8 e4 t4 okp pw w4 l4 => ?_⟩
        have m8 := s5.nl b8
        refine ⟨(by show 4 ≤ sizeLine; decide), fun t9 n9 => ?_⟩
        have s9 := same_upd (o := .tup [.ref g1, .ref q1, .ref q2, .ref p4]) n9
        have e9 : upd H8 t9 (.tup [.ref g1, .ref q1, .ref q2, .ref p4]) t9 = some (.tup [.ref g1, .ref q1, .ref q2, .ref p4]) := upd_same
        have src9 := srcS s9 s8
        have b19 := (b5.trans b8).trans (But.of s9)
        have m9 := m8.trans (NL.of s9)
        have htl := tp_Lp (lf := ⟨lf.L, ys1, ys2, ss⟩) e9 (m9 _ _ hg5 (fun _ z => nomatch z)) (m9 _ _ e1 (fun _ z => nomatch z)) (m9 _ _ e2 (fun _ z => nomatch z)) (s9 _ _ e4) (t4.nl (NL.of s9))
        have eD9 := b19 _ _ nDa eD
        generalize upd H8 t9 (.tup [.ref g1, .ref q1, .ref q2, .ref p4]) = H9 at s9 e9 src9 b19 m9 htl eD9
        have mm := (NL.refl H9).put eD9 (.lst (ls ++ [.ref t9]))
        refine ⟨D, _, _, rfl, rfl, eD9, small1000 (by omega), _, _, _, _, _, _, ls ++ [.ref t9], bk' ++ [⟨lf.L, ys1, ys2, ss⟩], rfl, src9.put nDa.symm _, (b1.trans b19).put nD _, upd_same, ?_, ?_, ?_⟩
        · rw [List.map_append]
          exact ((tl.nl (s1.nl b19)).nl mm).snoc (htl.nl mm)
        · rw [tk, List.map_append]
          exact sub.append (List.Sublist.refl _)
        · intro x hx
          rcases List.mem_append.mp hx with h | h
          · exact ok x h
          · rw [List.mem_singleton.mp h]
            exact ⟨⟨⟨gl.1.1, r1, r2, okp, pw⟩, a1, a2, w4⟩, l4⟩
      · refine ⟨_, _, _, _, _, _, ls, bk', rfl, s5, b05, eD5, tl.nl m5, ?_, ok⟩
        rw [tk]
        exact sub.trans (List.sublist_append_left _ _)
    · rintro σ' H1 ⟨y4, y5, y6, y7, y8, y9, ls, bk', rfl, s1, b1, eD, tl, sub, ok⟩
      rw [lu, List.take_length] at sub
      refine ⟨_, rfl, q D ls bk' H1 s1 b1 nD eD tl ⟨?_, ?_, ok⟩⟩
      · have := sub.length_le
        rw [List.length_map, List.length_map] at this
        omega
      · rw [← List.pairwise_map (f := Lf.L) (R := fun a b => HT.lexLt a b = true)]
        have pw := gb.2.1
        rw [← List.pairwise_map (f := Lf.L) (R := fun a b => HT.lexLt a b = true)] at pw
        exact List.Pairwise.sublist sub pw
theorem ok_judged_pen (T : Tab K mg) : FnOk P w K mg base CX0 5 T.f_judged_pen T.d_judged_pen ["front", "back", "pen"] (sp_judged_pen K) := by
  refine T.F_judged_pen.ok sc_judged_pen (fun vs H Q E h => ?_) (fun cdv A outer s H vs Q E hr h => ?_)
  · obtain ⟨f, b, a, lf, ss, rfl, _⟩ := h
    rfl
  · obtain ⟨f, b, a, lf, ss, rfl, ⟨hf, hb, r1, r2⟩, sk, ok, pw, q⟩ := h
    refine ⟨_, (pss_cons (ps_set (i := 3) sc_judged_pen.nd rfl (.inl rfl) (pe_call (ok_kept_strokes T) (hr.mono (by decide)) (by rfl) T.g_kept_strokes T.F_kept_strokes.kp T.b_kept_strokes .nil pass0 (pa_cons (pv 2) pa_nil)))
      (pss_cons (ps_if (PW.pt (pw_or (pt_cmpR op_isN (pv 3) pe_non (nomark _)) (pw_or1 (pt_not (pt_val (pe_callB (cr_all rfl) (by rfl) T.m_all (by decide +kernel) (pa_cons (pe_lc (own := [("stroke", 4)]) (g := gName 4) (by rfl) sc_judged_pen.nd (pi_tup (pv 3)) (blkOk_by (own := [("stroke", 4)]) (N := N_judged_pen) (sc := defScope s_judged_pen) (by decide +kernel)) (fun _ _ _ _ _ => pg_name (i := 4) sc_judged_pen.nd rfl (.inl rfl)) (fun _ _ _ _ _ => pts_nil) (fun _ _ _ _ _ => (pe_call (ok_is_place T) (hr.mono (by decide)) (by rfl) T.g_is_place T.F_is_place.kp T.b_is_place .nil pass0 (pa_cons (pv 0) (pa_cons (pv 1) (pa_cons (pe_slice (sl_tupAK (K := K) rfl) (pv 4) po_none (po_some pe_int)) pa_nil)))))) pa_nil)))))))
      (pss_one ps_never)
      pss_nil)
      (pss_cons (ps_if (pt_not (pt_val (pe_callB (cr_all rfl) (by rfl) T.m_all (by decide +kernel) (pa_cons (pe_lc (own := [("one", 5), ("other", 6)]) (g := gTup K 2 _) (by rfl) sc_judged_pen.nd (RZ.pi_zipA (by rfl) T.m_zip (pa_cons (pv 3) (pa_cons (pe_slice sl_tupA (pv 3) (po_some pe_int) po_none) pa_nil))) (blkOk_by (own := [("one", 5), ("other", 6)]) (N := N_judged_pen) (sc := defScope s_judged_pen) (by decide +kernel)) (fun _ _ _ _ _ => pg_tup (by rfl) (pgs_cons (pg_name (i := 5) sc_judged_pen.nd rfl (.inl rfl)) (pgs_cons (pg_name (i := 6) sc_judged_pen.nd rfl (.inl rfl)) pgs_nil))) (fun _ _ _ _ _ => pts_nil) (fun _ _ _ _ _ => (pe_cmpR (op_ltDK (K := K) rfl (un2 hr)) (pe_slice (sl_tupAK (K := K) rfl) (pv 5) po_none (po_some pe_int)) (pe_slice (sl_tupAK (K := K) rfl) (pv 6) po_none (po_some pe_int)) (nomark _)))) pa_nil))))
      (pss_one ps_never)
      pss_nil)
      (pss_one (ps_ret (pv 3)))))), ?_⟩
    have l5 : ss.length ≤ 100000 := by obtain ⟨_, _, _, l⟩ := sk; exact l
    refine ⟨_, rfl, a, ss, rfl, sk, fun s hs => ?_, fun p us H1 s1 hp tp => ?_⟩
    · obtain ⟨o1, o2⟩ := ok s hs
      obtain ⟨p1, p2, p3⟩ := plB_small r1 r2 o1
      exact ⟨p1, p2, p3, o2⟩
    have lu : us.length = ss.length := by have := tp.len; rwa [List.length_map] at this
    refine ⟨_, rfl, rfl, _, rfl, ite2 (fun e => absurd (of_decide_eq_true e) (by intro z; cases z)) (fun _ => ?_)⟩
    have hp1 : SqT K H1 p us := .inl (.inl hp)
    refine ⟨_, rfl, p, rfl, ⟨_, hp1⟩, fun D nD => ?_⟩
    refine lc_fm ss (fun s => some (V.bl (plB lf s.1))) (walkT (xs := us) lu) nD (fun H h => same_seqT h hp1) l5 ?_ ?_
    · rintro i d x H2 H3 ed sm ⟨rfl, hx⟩ R N hR hN
      obtain ⟨e, ee, tx⟩ := tp.get hx
      rw [List.getElem?_map, ed] at ee
      cases ee
      obtain ⟨b2, rfl, hb2⟩ := sk_inv (tx.nl (NL.of sm))
      refine ⟨rfl, _, rfl, _, rfl, _, rfl, ?_⟩
      dsimp only [tNoPart]
      refine ⟨3, rfl, ?_⟩
      refine sl_goT hb2 fun c H4 s4 hc => ?_
      have s14 := (s1.trans sm).trans s4
      exact ⟨f, b, c, lf, d.1, rfl, ⟨s14 _ _ hf, s14 _ _ hb, r1, r2⟩, hc, fun H' s => hR _ rfl _ (s4.trans s)⟩
    rintro H2 sm eD
    rw [map_fm, show (fun d : Sk => V.bl (plB lf d.1)) = V.bl ∘ (fun d => plB lf d.1) from rfl, ← List.map_map] at eD
    refine ⟨D, _, rfl, .inl (.inl eD), _, rfl, ?_⟩
    rw [all_map, List.all_eq_true.mpr (fun s hs => (ok s hs).1)]
    refine iteF ?_
    have s2 := s1.trans sm
    have hp2 := same_seqT sm hp1
    have tp2 := tp.nl (NL.of sm)
    refine ⟨_, rfl, _, rfl, 1, rfl, ?_⟩
    dsimp only [tNoPart]
    refine sl_go hp2 fun c H3 s3 hc => ?_
    refine ⟨p, c, _, _, rfl, .inr ⟨same_seqT s3 hp2, hc, fun D2 nD2 => ?_⟩⟩
    have hp3 := same_seqT s3 hp2
    have tp3 := tp2.nl (NL.of s3)
    refine lc_fm (ss.zip (ss.drop 1)) (fun s => some (V.bl ((fun _ => true) s))) (walk_zipT (xs := us) (ys := cutV us (some 1) none) ?_) nD2 (fun H h => ⟨same_seqT h hp3, same_seqT h hc⟩) (by rw [List.length_zip]; omega) ?_ ?_
    · rw [List.length_zip, show cutV us (some 1) none = us.drop 1 from cutV_from us 1, List.length_drop, List.length_drop, lu]
    · rintro i d x H4 H5 ed sm2 ⟨t, x1, x2, rfl, nt, rfl, e1, e2⟩ R N hR hN
      have e2' : us[i + 1]? = some x2 := by
        have z : (cutV us (some 1) none)[i]? = some x2 := e2
        rw [show cutV us (some 1) none = us.drop 1 from cutV_from us 1, List.getElem?_drop] at z
        rw [← z]
        congr 1
        omega
      obtain ⟨d1, ed1, t1⟩ := tp3.get e1
      obtain ⟨d2, ed2, t2⟩ := tp3.get e2'
      rw [List.getElem?_map] at ed1 ed2
      obtain ⟨k1, g1, rfl⟩ := Option.map_eq_some_iff.mp ed1
      obtain ⟨k2, g2, rfl⟩ := Option.map_eq_some_iff.mp ed2
      have lt := pw_next pw g1 g2
      have st := same_upd (o := .tup [x1, x2]) nt
      have s42 := sm2.trans st
      obtain ⟨b1, rfl, hb1⟩ := sk_inv (t1.nl (NL.of s42))
      obtain ⟨b2, rfl, hb2⟩ := sk_inv (t2.nl (NL.of s42))
      refine ⟨t, _, rfl, .inl (.inl upd_same), rfl, _, _, rfl, _, _, rfl, rfl, rfl, ?_⟩
      refine ⟨_, rfl, ?_⟩
      dsimp only [tNoPart]
      refine ⟨3, rfl, ?_⟩
      refine sl_goT hb1 fun c1 H5 s5 hc1 => ?_
      refine ⟨_, rfl, ?_⟩
      dsimp only [tNoPart]
      refine ⟨3, rfl, ?_⟩
      refine sl_goT (s5 _ _ hb2) fun c2 H6 s6 hc2 => ?_
      refine ⟨dL (plL k1.1), dL (plL k2.1), (tpL (L := plL k1.1) (s6 _ _ hc1)).dp, (tpL (L := plL k2.1) hc2).dp, alike_L _ _, (by intro z; cases z), Nat.le_trans (depthL _) (by decide), ?_⟩
      show R (V.bl (PySem.W.dataLt (dL (plL k1.1)) (dL (plL k2.1)))) _
      rw [dlt_L, show HT.lexLt (plL k1.1) (plL k2.1) = true from lt]
      exact hR _ rfl _ ((st.trans s5).trans s6)
    rintro H4 s4 eD4
    rw [map_fm, show (fun d : Sk × Sk => V.bl ((fun _ => true) d)) = V.bl ∘ (fun _ => true) from rfl, ← List.map_map] at eD4
    refine ⟨D2, _, rfl, .inl (.inl eD4), _, rfl, ?_⟩
    rw [all_map, List.all_eq_true.mpr (fun _ _ => rfl)]
    refine iteF ?_
    have s5 := (s2.trans s3).trans s4
    exact ⟨_, rfl, q p us _ s5 ((s3.trans s4) _ _ (sm _ _ hp)) ((tp3).nl (NL.of s4))⟩
theorem ok_Errata_turned (T : Tab K mg) : FnOk P w K mg base CX0 5 T.f_Errata_turned T.d_Errata_turned ["self", "page", "row", "word", "token"] (sp_Errata_turned K w T.C_Errata) := by
  refine T.F_Errata_turned.ok sc_Errata_turned (fun vs H Q E h => ?_) (fun cdv A outer s H vs Q E hr h => ?_)
  · obtain ⟨v, pgv, cs, q, z, rfl, _⟩ := h
    rfl
  · obtain ⟨v, pgv, cs, q, z, rfl, her, hpv, okp, k⟩ := h
    refine ⟨_, (pss_cons (ps_set (i := 5) sc_Errata_turned.nd rfl (.inl rfl) (pe_nget2 (by have z := hr.units; exact z) (pe_fld (pv 0) rfl) (pe_tup (pa_cons (pe_call (ok_kept_page T) (hr.mono (by decide)) (by rfl) T.g_kept_page T.F_kept_page.kp T.b_kept_page .nil pass0 (pa_cons (pv 1) pa_nil)) (pa_cons (pv 2) (pa_cons (pv 3) pa_nil)))) (pe_lst pa_nil) ⟨rfl, rfl, rfl, rfl⟩))
      (pss_cons (ps_set (i := 6) sc_Errata_turned.nd rfl (.inl rfl) (pe_call (ok_steps T) (hr.mono (by decide)) (by rfl) T.g_steps T.F_steps.kp T.b_steps .nil pass0 (pa_cons (pv 4) (pa_cons (pv 5) pa_nil))))
      (pss_one (ps_ret (pe_ifExp (pt_truth (pv 6) (fun _ => rfl)) (pe_ix ix_tup (pe_ix ix_list (pv 6) (pe_un un_neg pe_int) (fun _ _ => rfl)) pe_int (fun _ _ => rfl)) (pv 4)))))), ?_⟩
    obtain ⟨ok1, l60⟩ := her.ok
    obtain ⟨x, dx, a, t, us, rfl, hx, ha, hcs, ht⟩ := her
    obtain ⟨kvs, dn, get⟩ := ht.get (K := K)
    have cw : (cxOf CX0 P w K mg base N_Errata_turned (Str.ofString "Errata.turned") (defScope s_Errata_turned) T.f_Errata_turned cdv A outer s H E).nox.w = w := rfl
    rw [cw]
    refine ⟨_, rfl, x, _, dx, _, _, rfl, hx, T.cl_Errata, T.na_Errata__turns, rfl, t, kvs, rfl, dn, ?_⟩
    refine ⟨_, rfl, pgv, q.1, rfl, hpv, okp, fun y H1 s1 hy => ?_⟩
    refine ⟨_, rfl, _, rfl, (by show 3 ≤ sizeLine; decide), fun kb nkb => ?_⟩
    have s2 := same_upd (o := .tup [y, .int q.2.1, .int q.2.2]) nkb
    refine ⟨Nat.zero_le _, fun D nD => ?_⟩
    have s3 := same_upd (o := .lst []) nD
    have s03 := (s1.trans s2).trans s3
    have hkb : Tp (upd (upd H1 kb (.tup [y, .int q.2.1, .int q.2.2])) D (.lst [])) (.ref kb) (dQ q) := .tup (s3 _ _ upd_same) (.cons ((hy.nl (NL.of s2)).nl (NL.of s3)) (.cons (.int _) (.cons (.int _) .nil)))
    obtain ⟨dn3, g⟩ := get _ (NL.of s03)
    refine ⟨kvs, kb, dQ q, rfl, dn3, hkb.dp, noL_Q q, dQ_depth q, ?_⟩
    have val : ∃ l us2, (atN kvs (nkD (dQ q))).getD (.ref D) = .ref l ∧ SqL K (upd (upd H1 kb (.tup [y, .int q.2.1, .int q.2.2])) D (.lst [])) l us2 ∧ TpAll (upd (upd H1 kb (.tup [y, .int q.2.1, .int q.2.2])) D (.lst [])) us2 ((turnsOf cs q).map dT2) := by
      rcases g q with ⟨l, us2, e1, e2, e3⟩ | ⟨e1, e2⟩
      · exact ⟨l, us2, by rw [e1]; rfl, e2, e3⟩
      · exact ⟨D, [], by rw [e1]; rfl, .inl (.inl upd_same), by rw [turns_none e2]; exact .nil⟩
    obtain ⟨l, us2, ev, hl, tl⟩ := val
    rw [ev]
    refine ⟨_, rfl, _, rfl, some z, l, us2, turnsOf cs q, rfl, hl, tl, Nat.le_trans (turns_len cs q) l60, fun p ws H3 s4 np hp tw => ?_⟩
    have kk := k H3 (s03.trans s4)
    rw [chain_turns, ← steps_last] at kk
    generalize stepsO (turnsOf cs q) (some z) = st at tw kk
    refine ⟨_, rfl, _, tru_lst (.inl (.inl hp)), ?_⟩
    rcases List.eq_nil_or_concat st with rfl | ⟨r, tt, rfl⟩
    · have : ws = [] := by cases tw; rfl
      subst this
      refine iteF ?_
      exact ⟨_, rfl, kk⟩
    · rw [List.concat_eq_append] at tw kk
      rw [List.map_append] at tw
      obtain ⟨w0, y9, rfl, ty⟩ := tp_last tw
      obtain ⟨b, rfl, hb⟩ := t2_inv ty
      rw [if_pos (by simp)]
      rw [List.getLast?_concat] at kk
      exact ⟨_, rfl, _, rfl, p, _, _, _, rfl, rfl, .inl (.inl hp), atI_last _ _, b, _, _, _, rfl, rfl, .inl (.inl hb), rfl, kk⟩
theorem ok_kept_correction (T : Tab K mg) : FnOk P w K mg base CX0 5 T.f_kept_correction T.d_kept_correction ["thing"] (sp_kept_correction K) := by
  refine T.F_kept_correction.ok sc_kept_correction (fun vs H Q E h => ?_) (fun cdv A outer s H vs Q E hr h => ?_)
  · obtain ⟨v, c, rfl, _⟩ := h
    rfl
  · obtain ⟨v, c, rfl, hv, ok, q⟩ := h
    refine ⟨_, (pss_cons (ps_if (pt_not (pt_val (pe_call (ok_is_sized T) (hr.mono (by decide)) (by rfl) T.g_is_sized T.F_is_sized.kp T.b_is_sized .nil pass0 (pa_cons (pv 0) (pa_cons pe_int (pa_cons pe_int pa_nil))))))
      (pss_one (ps_ret pe_non))
      pss_nil)
      (pss_cons (ps_asg (pv 0) (pg_or (pg_tup (by rfl) (pgs_cons (pg_name (i := 1) sc_kept_correction.nd rfl (.inl rfl)) (pgs_cons (pg_name (i := 2) sc_kept_correction.nd rfl (.inl rfl)) (pgs_cons (pg_name (i := 3) sc_kept_correction.nd rfl (.inl rfl)) (pgs_cons (pg_name (i := 4) sc_kept_correction.nd rfl (.inl rfl)) (pgs_cons (pg_name (i := 5) sc_kept_correction.nd rfl (.inl rfl)) pgs_nil)))))) (pg_unl (by rfl) (pgs_cons (pg_name (i := 1) sc_kept_correction.nd rfl (.inl rfl)) (pgs_cons (pg_name (i := 2) sc_kept_correction.nd rfl (.inl rfl)) (pgs_cons (pg_name (i := 3) sc_kept_correction.nd rfl (.inl rfl)) (pgs_cons (pg_name (i := 4) sc_kept_correction.nd rfl (.inl rfl)) (pgs_cons (pg_name (i := 5) sc_kept_correction.nd rfl (.inl rfl)) pgs_nil))))))))
      (pss_cons (ps_if (PW.pt (pw_or (pt_cmpR op_isN (pe_call (ok_kept_page T) (hr.mono (by decide)) (by rfl) T.g_kept_page T.F_kept_page.kp T.b_kept_page .nil pass0 (pa_cons (pv 1) pa_nil)) pe_non (nomark _)) (pw_or (pt_not (pt_val (pe_call (ok_is_within T) (hr.mono (by decide)) (by rfl) T.g_is_within T.F_is_within.kp T.b_is_within .nil pass0 (pa_cons (pv 2) (pa_cons pe_int (pa_cons (pe_op op_sub (pe_glob (v := .int 12) (by rfl) T.c_MOST_ROWS ⟨_, rfl⟩) pe_int) pa_nil)))))) (pw_or1 (pt_not (pt_val (pe_call (ok_is_within T) (hr.mono (by decide)) (by rfl) T.g_is_within T.F_is_within.kp T.b_is_within .nil pass0 (pa_cons (pv 3) (pa_cons pe_int (pa_cons (pe_op op_sub (pe_glob (v := .int 30) (by rfl) T.c_MOST_TOKENS ⟨_, rfl⟩) pe_int) pa_nil))))))))))
      (pss_one (ps_ret pe_non))
      pss_nil)
      (pss_cons (ps_if (PW.pt (pw_or (pt_not (pt_val (pe_call (ok_is_token T) (hr.mono (by decide)) (by rfl) T.g_is_token T.F_is_token.kp T.b_is_token .nil pass0 (pa_cons (pv 4) pa_nil)))) (pw_or (pt_not (pt_val (pe_call (ok_is_token T) (hr.mono (by decide)) (by rfl) T.g_is_token T.F_is_token.kp T.b_is_token .nil pass0 (pa_cons (pv 5) pa_nil)))) (pw_or1 (pt_cmpR op_eq (pv 4) (pv 5) (nomark _))))))
      (pss_one (ps_ret pe_non))
      pss_nil)
      (pss_one (ps_ret (pe_tup (pa_cons (pe_call (ok_kept_page T) (hr.mono (by decide)) (by rfl) T.g_kept_page T.F_kept_page.kp T.b_kept_page .nil pass0 (pa_cons (pv 1) pa_nil)) (pa_cons (pv 2) (pa_cons (pv 3) (pa_cons (pv 4) (pa_cons (pv 5) pa_nil)))))))))))), ?_⟩
    obtain ⟨okp, hr0, hw0, ho, hn, hne⟩ := id ok
    obtain ⟨a, pv, rfl, ha, hp⟩ := tpC_inv hv
    have hsz : sz 5 5 (dC c) = true := rfl
    refine ⟨_, rfl, .ref a, dC c, 5, 5, rfl, hv.dp, fun H1 s1 => ⟨_, rfl, ?_⟩⟩
    rw [hsz]
    refine iteF ?_
    refine ⟨_, rfl, .inl ⟨a, _, rfl, .inl (.inl (s1 _ _ ha)), rfl, _, _, rfl, _, _, rfl, _, _, rfl, _, _, rfl, _, _, rfl, rfl, ?_⟩⟩
    have hp1 := hp.nl (NL.of s1)
    refine ⟨_, rfl, pv, c.p, rfl, ip_tp hp1, okp, fun y H2 s2 hy => ?_⟩
    obtain ⟨pa, pl, rfl, _, _⟩ := tpP_inv hy
    refine ⟨rfl, _, rfl, ite2 (fun e => absurd (of_decide_eq_true e) (by intro z; cases z)) (fun _ => ?_)⟩
    refine ⟨_, rfl, _, _, rfl, rfl, .int c.r, .int c.r, 0, 11, rfl, .int _, _, rfl, ?_⟩
    rw [show wI 0 11 (.int c.r) = true from decide_eq_true hr0]
    refine iteF ?_
    refine ⟨_, rfl, _, _, rfl, rfl, .int c.w, .int c.w, 0, 29, rfl, .int _, _, rfl, ?_⟩
    rw [show wI 0 29 (.int c.w) = true from decide_eq_true hw0]
    refine iteF ?_
    refine ⟨_, rfl, c.o, rfl, by have := ho.len.2; omega, _, rfl, ?_⟩
    rw [ho.1]
    refine iteF ?_
    refine ⟨_, rfl, c.n, rfl, by have := hn.len.2; omega, _, rfl, ?_⟩
    rw [hn.1]
    refine iteF ?_
    refine ⟨_, rfl, _, rfl, rfl, _, rfl, ite2 (fun e => absurd (of_decide_eq_true e) (by intro z; injection z with z; exact hne z)) (fun _ => ?_)⟩
    refine ⟨_, rfl, pv, c.p, rfl, ip_tp (hp1.nl (NL.of s2)), okp, fun y3 H3 s3 hy3 => ?_⟩
    refine ⟨_, rfl, _, rfl, _, rfl, _, rfl, (by show 5 ≤ sizeLine; decide), fun r nr => ?_⟩
    have sr := same_upd (o := .tup [y3, .int c.r, .int c.w, .str c.o, .str c.n]) nr
    exact q (.ref r) _ (((s1.trans s2).trans s3).trans sr) (.tup upd_same (.cons (hy3.nl (NL.of sr)) (.cons (.int _) (.cons (.int _) (.cons (.str _) (.cons (.str _) .nil))))))
theorem ok_Leaf_init (T : Tab K mg) : FnOk P w K mg base CX0 6 T.f_Leaf_init T.d_Leaf_init ["self", "label", "front", "back", "pen"] (sp_Leaf_init K T.C_Leaf) := by
  refine T.F_Leaf_init.ok sc_Leaf_init (fun vs H Q E h => ?_) (fun cdv A outer s H vs Q E hr h => ?_)
  · obtain ⟨x, dx, l, f, b, p, lf, rfl, _⟩ := h
    rfl
  · obtain ⟨x, dx, l, f, b, p, lf, rfl, hx, hl, ⟨hf, hb, r1, r2⟩, ⟨us, hS, tu, l5⟩, ⟨k1, k2, k3, k4, k5⟩, q⟩ := h
    refine ⟨_, (pss_cons (ps_fld (pv 0) (pe_call (ok_judged_label T) (hr.mono (by decide)) (by rfl) T.g_judged_label T.F_judged_label.kp T.b_judged_label .nil pass0 (pa_cons (pv 1) pa_nil)) rfl)
      (pss_cons (ps_fld (pv 0) (pe_call (ok_judged_rows T) (hr.mono (by decide)) (by rfl) T.g_judged_rows T.F_judged_rows.kp T.b_judged_rows .nil pass0 (pa_cons (pv 2) (pa_cons pe_int (pa_cons pe_str pa_nil)))) rfl)
      (pss_cons (ps_fld (pv 0) (pe_call (ok_judged_rows T) (hr.mono (by decide)) (by rfl) T.g_judged_rows T.F_judged_rows.kp T.b_judged_rows .nil pass0 (pa_cons (pv 3) (pa_cons pe_int (pa_cons pe_str pa_nil)))) rfl)
      (pss_cons (ps_fld (pv 0) (pe_call (ok_judged_pen T) (hr.mono (by decide)) (by rfl) T.g_judged_pen T.F_judged_pen.kp T.b_judged_pen .nil pass0 (pa_cons (pe_fld (pv 0) rfl) (pa_cons (pe_fld (pv 0) rfl) (pa_cons (pv 4) pa_nil)))) rfl)
      (pss_one (ps_fld (pv 0) (pe_frz (pe_dcT (own := [("stroke", 5)]) (g := gName 5) (by have z := un2 hr; exact Nat.lt_of_le_of_lt (Nat.add_le_add_left (by decide) _) z) (by rfl) sc_Leaf_init.nd (pi_tup (pe_fld (pv 0) rfl)) (blkOk_by (own := [("stroke", 5)]) (N := N_Leaf_init) (sc := defScope s_Leaf_init) (by decide +kernel)) (fun _ _ _ _ _ => pg_name (i := 5) sc_Leaf_init.nd rfl (.inl rfl)) (fun _ _ _ _ _ => (pe_slice (sl_tupAK (K := K) rfl) (pv 5) po_none (po_some pe_int))) (fun _ _ _ _ _ => (pe_ix (ix_tupK (K := K) rfl) (pv 5) pe_int (fun _ _ => rfl))))) rfl)))))), ?_⟩
    have fx : f ≠ x := fun z => by rw [z, hx] at hf; cases hf
    have bx : b ≠ x := fun z => by rw [z, hx] at hb; cases hb
    refine ⟨_, rfl, .ref l, lf.L, rfl, ⟨l, rfl, .inl hl⟩, k1, fun y H1 s1 kl => ?_⟩
    obtain ⟨l1, rfl, hl1⟩ := kl
    have lx : l1 ≠ x := fun z => by rw [z, s1 _ _ hx] at hl1; cases hl1
    refine ⟨_, rfl, x, _, dx, _, rfl, s1 _ _ hx, T.cl_Leaf, T.na_Leaf_label, (show 0 < 1000 by decide), ?_⟩
    refine ⟨_, rfl, f, lf.fr, 1, "front", rfl, by rw [upd_ne fx]; exact s1 _ _ hf, k2, fun H2 s2 => ?_⟩
    have b2 : But x H H2 := ((But.of s1).trans (But.upd _)).trans (But.of s2)
    refine ⟨_, rfl, x, _, dx, _, rfl, s2 _ _ upd_same, T.cl_Leaf, T.na_Leaf_front, (show 1 < 1000 by decide), ?_⟩
    refine ⟨_, rfl, b, lf.bk, 0, "back", rfl, by rw [upd_ne bx]; exact b2 _ _ bx hb, k3, fun H3 s3 => ?_⟩
    have b3 : But x H H3 := (b2.trans (But.upd _)).trans (But.of s3)
    refine ⟨_, rfl, x, _, dx, _, rfl, s3 _ _ upd_same, T.cl_Leaf, T.na_Leaf_back, (show 2 < 1000 by decide), ?_⟩
    refine ⟨_, rfl, x, _, dx, _, _, rfl, upd_same, T.cl_Leaf, T.na_Leaf_front, rfl, _, rfl, x, _, dx, _, _, rfl, upd_same, T.cl_Leaf, T.na_Leaf_back, rfl, _, rfl, f, b, p, lf, lf.pen, rfl, ⟨by rw [upd_ne fx]; exact b3 _ _ fx hf, by rw [upd_ne bx]; exact b3 _ _ bx hb, r1, r2⟩, ⟨us, seq_but hx (b3.trans (But.upd _)) hS, tu.butI hx (b3.trans (But.upd _)), l5⟩, k4, k5, fun pn us' H4 s4 hpn tpn => ?_⟩
    have b4 : But x H H4 := (b3.trans (But.upd _)).trans (But.of s4)
    have pnx : pn ≠ x := fun z => by rw [z, s4 _ _ upd_same] at hpn; cases hpn
    refine ⟨_, rfl, x, _, dx, _, rfl, s4 _ _ upd_same, T.cl_Leaf, T.na_Leaf_pen, (show 3 < 1000 by decide), ?_⟩
    have tpn5 := tpn.butI (s4 _ _ upd_same) (But.upd (.ins T.C_Leaf dx (putF "pen" (.ref pn) (putF "back" (.ref b) (putF "front" (.ref f) (putF "label" (.ref l1) []))))))
    have hpn5 : upd H4 x (.ins T.C_Leaf dx (putF "pen" (.ref pn) (putF "back" (.ref b) (putF "front" (.ref f) (putF "label" (.ref l1) []))))) pn = some (.tup us') := by rw [upd_ne pnx]; exact hpn
    have lu' : us'.length = lf.pen.length := by have := tpn.len; rwa [List.length_map] at this
    refine ⟨_, rfl, x, _, dx, _, _, rfl, upd_same, T.cl_Leaf, T.na_Leaf_pen, rfl, pn, rfl, ⟨us', .inl (.inl hpn5)⟩, fun D nD => ?_⟩
    have nk := pw_nodup k5
    refine dc_it (walkT (xs := us') lu') (fun i H' => Same (upd H4 x (.ins T.C_Leaf dx (putF "pen" (.ref pn) (putF "back" (.ref b) (putF "front" (.ref f) (putF "label" (.ref l1) [])))))) H' ∧ H' D = some (.dT (entT (lf.pen.take i)))) ⟨same_upd nD, upd_same⟩ (fun _ H' _ hh => same_seqT hh.1 (.inl (.inl hpn5))) (fun i x0 H6 H7 hi ⟨sm, eD⟩ hY => ?_) fun H5 ⟨s5, eD⟩ => ?_
    · obtain ⟨rfl, hx0⟩ := hY
      obtain ⟨d, ed, tx⟩ := tpn5.get hx0
      rw [List.getElem?_map] at ed
      obtain ⟨sk, es, rfl⟩ := Option.map_eq_some_iff.mp ed
      obtain ⟨b9, rfl, hb9⟩ := sk_inv (tx.nl (NL.of sm))
      refine ⟨rfl, _, rfl, ?_⟩
      dsimp only [tNoPart]
      refine ⟨3, rfl, ?_⟩
      refine sl_goT hb9 fun c H8 s8 hc => ?_
      have eD8 := s8 _ _ eD
      have et : lf.pen.take (i + 1) = lf.pen.take i ++ [sk] := by rw [List.take_add_one, es]; rfl
      have nw : sk.1 ∉ (lf.pen.take i).map Prod.fst := by
        have n2 : ((lf.pen.take (i + 1)).map Prod.fst).Nodup := ((List.take_sublist (i + 1) lf.pen).map Prod.fst).nodup nk
        rw [et, List.map_append, List.nodup_append] at n2
        exact fun hm => n2.2.2 _ hm _ (List.mem_singleton.mpr rfl) rfl
      refine ⟨_, rfl, b9, _, _, _, rfl, rfl, .inl (.inl (s8 _ _ hb9)), rfl, c, _, kSk sk, rfl, eD8, hc, ?_, same_put (sm.trans s8) nD _, ?_⟩
      · unfold entT
        rw [List.length_map, List.length_take]
        exact Nat.lt_of_le_of_lt (Nat.le_trans (Nat.min_le_right ..) l5) (by show 100000 < sizeLine; decide +kernel)
      · rw [upd_same, entT_put, putS_new nw, ← et]
    · refine frz_one eD True.intro fun o => ?_
      have b5 : But x H H5 := (b4.trans (But.upd _)).trans (But.of s5)
      have Dx : D ≠ x := fun z => by rw [z, s5 _ _ upd_same] at eD; cases eD
      have D0 : H D = none := by
        refine b4.none ?_ Dx
        rw [← nD, upd_ne Dx]
      have hx6 := (upd_ne (o := .frz o (.dT (entT (lf.pen.take lf.pen.length)))) Dx.symm).trans (s5 _ _ upd_same)
      refine ⟨_, rfl, x, _, dx, _, rfl, hx6, T.cl_Leaf, T.na_Leaf__strokes, (show 4 < 1000 by decide), ?_⟩
      rw [List.take_length]
      have k : ∀ {H7 : Hp} {q : Addr} {u o2 : HO}, upd H4 x (.ins T.C_Leaf dx (putF "pen" (.ref pn) (putF "back" (.ref b) (putF "front" (.ref f) (putF "label" (.ref l1) []))))) q = some u → q ≠ x → upd (upd H5 D o2) x (.ins T.C_Leaf dx (putF "_strokes" (.ref D) (putF "pen" (.ref pn) (putF "back" (.ref b) (putF "front" (.ref f) (putF "label" (.ref l1) [])))))) q = some u := fun {H7 q u o2} e n => by
        rw [upd_ne n, upd_ne (fun z => by rw [z, nD] at e; cases e)]
        exact s5 _ _ e
      have k4' : ∀ {q : Addr} {u : HO}, H4 q = some u → q ≠ x → upd H4 x (.ins T.C_Leaf dx (putF "pen" (.ref pn) (putF "back" (.ref b) (putF "front" (.ref f) (putF "label" (.ref l1) []))))) q = some u := fun {q u} e n => by rw [upd_ne n]; exact e
      refine q _ ?_ fun c u nc e => by
        rw [upd_ne nc, upd_ne (fun z => by rw [z, D0] at e; cases e)]
        exact b5 _ _ nc e
      refine ⟨x, dx, l1, f, b, pn, D, rfl, upd_same, ?_, ?_, ?_, ?_, o, ?_⟩
      · refine k (H7 := H) (k4' ?_ lx) lx
        exact s4 _ _ (by rw [upd_ne lx]; exact s3 _ _ (by rw [upd_ne lx]; exact s2 _ _ (by rw [upd_ne lx]; exact hl1)))
      · exact k (H7 := H) (k4' (b4 _ _ fx hf) fx) fx
      · exact k (H7 := H) (k4' (b4 _ _ bx hb) bx) bx
      · refine .tup (k (H7 := H) hpn5 pnx) (tpn5.tups fun c ys e => ?_)
        exact k (H7 := H) e (fun z => by rw [z, upd_same] at e; cases e)
      · rw [upd_ne Dx]
        exact upd_same
theorem ok_Errata_leaf_turns (T : Tab K mg) : FnOk P w K mg base CX0 6 T.f_Errata_leaf_turns T.d_Errata_leaf_turns ["self", "leaf"] (sp_Errata_leaf_turns K w T.C_Leaf T.C_Errata) := by
  refine T.F_Errata_leaf_turns.ok sc_Errata_leaf_turns (fun vs H Q E h => ?_) (fun cdv A outer s H vs Q E hr h => ?_)
  · obtain ⟨v, u, cs, lf, rfl, _⟩ := h
    rfl
  · obtain ⟨v, u, cs, lf, rfl, her, hlf, okl, k⟩ := h
    refine ⟨_, (pss_cons (ps_set (i := 2) sc_Errata_leaf_turns.nd rfl (.inl rfl) (pe_lst pa_nil))
      (pss_cons (ps_for PassesOwn.never rfl (pi_keysN (pe_fld (pv 0) rfl)) (pg_name (i := 3) sc_Errata_leaf_turns.nd rfl (.inl rfl))
      (pss_cons (ps_asg (pv 3) (pg_tup (by rfl) (pgs_cons (pg_tup (by rfl) (pgs_cons (pg_name (i := 4) sc_Errata_leaf_turns.nd rfl (.inl rfl)) (pgs_cons (pg_name (i := 5) sc_Errata_leaf_turns.nd rfl (.inl rfl)) pgs_nil))) (pgs_cons (pg_name (i := 6) sc_Errata_leaf_turns.nd rfl (.inl rfl)) (pgs_cons (pg_name (i := 7) sc_Errata_leaf_turns.nd rfl (.inl rfl)) pgs_nil)))))
        (C8.pss_cut (ps_set (i := 8) sc_Errata_leaf_turns.nd rfl (.inl rfl) (pe_ifExp (pt_cmpR (op_eqD hr.units) (pv 4) (pe_fld (pv 1) rfl) (nomark _)) (pe_meth (pv 1) T.cl_Leaf ⟨T.g_Leaf_says, T.fn_Leaf_says, T.F_Leaf_says.kp⟩ (ok_Leaf_says T) (hr.mono (by decide)) T.b_Leaf_says .nil pass0 (pa_cons (pv 5) (pa_cons (pv 6) (pa_cons (pv 7) pa_nil)))) pe_non))
        (pss_one (ps_if (pt_truth (pe_call (ok_steps T) (hr.mono (by decide)) (by rfl) T.g_steps T.F_steps.kp T.b_steps .nil pass0 (pa_cons (pv 8) (pa_cons (pe_ngetF (by have z := hr.units; exact z) (pe_fld (pv 0) rfl) (pv 3) (fun _ _ => rfl)) pa_nil))) (fun _ => rfl))
        (pss_one (ps_expr (pe_bm PySem.F.plainAttrs_list PySem.F.slot_list_append PySem.F.type_list_append mt_append (pv 2) (pa_cons (pe_tup (pa_cons (pv 3) (pa_cons (pe_methSA (pv 0) T.cl_Errata ⟨⟨T.g_Errata_turned, T.fn_Errata_turned, T.F_Errata_turned.kp⟩, T.gf_Errata_turned, T.tk_Errata_turned, by decide +kernel, T.fi_Errata_turned⟩ ((ok_Errata_turned T).raw T.b_Errata_turned .nil) (hr.mono (by decide)) pass0 (pv 3) (pv 8)) pa_nil))) pa_nil))))
        pss_nil)))))
      (pss_one (ps_ret (pv 2))))), ?_⟩
    obtain ⟨ok1, l60⟩ := her.ok
    have her0 := her
    obtain ⟨x, dx, a, t, us, rfl, hx, ha, hcs, hta⟩ := her
    obtain ⟨kv2, dn2, get⟩ := hta.get (K := K)
    obtain ⟨es, ⟨⟨o, ht⟩, hks⟩, e2, e3⟩ := hta
    have cw : (cxOf CX0 P w K mg base N_Errata_leaf_turns (Str.ofString "Errata._leaf_turns") (defScope s_Errata_leaf_turns) T.f_Errata_leaf_turns cdv A outer s H E).nox.w = w := rfl
    rw [cw]
    refine ⟨Nat.zero_le _, fun D nD => ?_⟩
    have s0 := same_upd (o := .lst []) nD
    have lk : (kvE es).length = es.length := List.length_map ..
    have le : es.length ≤ 60 := by rw [← List.length_map (f := En.q), e2]; exact Nat.le_trans (places_len cs) l60
    refine ⟨_, rfl, x, _, dx, _, _, rfl, s0 _ _ hx, T.cl_Errata, T.na_Errata__turns, rfl, t, o, kvE es, rfl, s0 _ _ ht, for_it walk_keysN (fun i σ' H' => ∃ (y3 y4 y5 y6 y7 y8 : Option V) (ws : List V), σ' = [some (.ref x), some u, some (.ref D), y3, y4, y5, y6, y7, y8] ∧ Same H H' ∧ H' D = some (.lst ws) ∧ TpAll H' ws ((((placesOf cs).take i).filterMap (turnL cs lf)).map dLT)) ⟨none, none, none, none, none, none, [], rfl, s0, upd_same, .nil⟩ (fun i σ' H' _ hh => by obtain ⟨_, _, _, _, _, _, _, _, s, _⟩ := hh; exact s _ _ ht) ?_ ?_⟩
    · rintro i y σ' H1 H1' hi ⟨y3, y4, y5, y6, y7, y8, ws, rfl, s1, eD, tw⟩ ⟨rfl, p, ep, rfl⟩
      rw [lk] at hi
      obtain ⟨e, ee⟩ : ∃ e, es[i]? = some e := ⟨_, List.getElem?_eq_getElem hi⟩
      have ep2 : p = (nkD (dQ e.q), e.b, V.ref e.l) := by
        unfold kvE at ep
        rw [List.getElem?_map, ee] at ep
        exact (Option.some.inj ep).symm
      subst ep2
      have he := List.mem_of_getElem? ee
      obtain ⟨⟨te, tu⟩, oe, fe⟩ := e3 e he
      have eq : (placesOf cs)[i]? = some e.q := by rw [← e2, List.getElem?_map, ee]; rfl
      obtain ⟨kb, pgv, ek, hkb, hpg⟩ := q_inv (te.nl (NL.of s1))
      obtain ⟨pa, la, rfl, hpa, hla⟩ := pg_inv hpg
      have ek' : e.b = kb := by injection ek
      rw [ek'] at te ⊢
      refine ⟨_, rfl, kb, _, rfl, .inl (.inl hkb), rfl, _, _, rfl, pa, _, rfl, .inl (.inl hpa), rfl, _, _, rfl, _, _, rfl, rfl, _, _, rfl, _, _, rfl, rfl, ?_⟩
      refine ⟨fun σ' H' => Same H1' H' ∧ ∃ zo : Option Str, σ' = [some (.ref x), some u, some (.ref D), some (.ref kb), some (.ref la), some (.int e.q.1.2), some (.int e.q.2.1), some (.int e.q.2.2), some (optS zo)] ∧ zo = (if e.q.1.1 = lf.L then saysL lf (p3 e.q) else none), ?_, ?_⟩
      · have hlf1 := hlf.nl (NL.of s1)
        obtain ⟨u0, du, l, f, b, pn, st, rfl, hu, hl, hr⟩ := id hlf1
        refine ⟨_, rfl, _, rfl, u0, _, du, _, _, rfl, hu, T.cl_Leaf, T.na_Leaf_label, fLf_label, ?_⟩
        refine ⟨dL e.q.1.1, dL lf.L, (tpL hla).dp, (tpL hl).dp, shaped_L _, shaped_L _, _, rfl, ?_⟩
        rw [eqv_L]
        refine ite2 (fun e1 => ?_) (fun e1 => ?_)
        · refine ⟨_, rfl, u0, du, _, rfl, hu, fLf_no (by decide +kernel), _, rfl, _, rfl, _, rfl, .ref u0, e.q.1.2, e.q.2.1, e.q.2.2, lf, rfl, hlf1, okl, fun H' s' => ?_⟩
          exact ⟨s', _, rfl, by rw [if_pos (of_decide_eq_true e1)]; rfl⟩
        · exact ⟨Same.refl _, none, rfl, by rw [if_neg (fun z => e1 (decide_eq_true z))]⟩
      rintro σ' H2 ⟨s2, zo, rfl, ez⟩
      have s12 := s1.trans s2
      obtain ⟨dnH, g⟩ := get H2 (NL.of s12)
      have hmem : e.q ∈ placesOf cs := by rw [← e2]; exact List.mem_map_of_mem he
      obtain ⟨l9, us9, e91, e92, e93⟩ : ∃ l us, atN kv2 (nkD (dQ e.q)) = some (.ref l) ∧ SqL K H2 l us ∧ TpAll H2 us ((turnsOf cs e.q).map dT2) := by
        rcases g e.q with h | ⟨_, h⟩
        · exact h
        · exact absurd hmem h
      have te2 := te.nl (NL.of s12)
      refine ⟨_, rfl, _, rfl, x, _, dx, _, _, rfl, s12 _ _ hx, T.cl_Errata, T.na_Errata__turns, rfl, _, rfl, t, kv2, kb, dQ e.q, .ref l9, rfl, dnH, rfl, te2.dp, noL_Q _, dQ_depth _, e91, ?_⟩
      refine ⟨zo, l9, us9, turnsOf cs e.q, rfl, e92, e93, Nat.le_trans (turns_len cs _) l60, fun p9 ws9 H3 s3 np9 hp9 tw9 => ⟨_, tru_lst (.inl (.inl hp9)), ?_⟩⟩
      have s13 := s12.trans s3
      have eD3 := s3 _ _ (s2 _ _ eD)
      have tw3 := (tw.nl (NL.of s2)).nl (NL.of s3)
      have tq := turnL_eq (cs := cs) ez
      by_cases hst : stepsO (turnsOf cs e.q) zo = []
      · rw [hst] at tw9
        cases tw9
        refine iteF ?_
        refine ⟨_, _, _, _, _, _, ws, rfl, s13, eD3, ?_⟩
        have : turnL cs lf e.q = none := by
          rw [tq]
          cases zo with
          | none => rfl
          | some z => exact if_pos hst
        rw [fm_snoc eq, this]
        simpa using tw3
      · obtain ⟨z, rfl⟩ : ∃ z, zo = some z := by
          cases zo with
          | none => exact absurd (stepsO_none _) hst
          | some z => exact ⟨z, rfl⟩
        have tl9 := tw9.len
        rw [List.length_map] at tl9
        have ne9 : (!ws9.isEmpty) = true := by
          cases ws9 with
          | nil => exact absurd (List.length_eq_zero_iff.mp tl9.symm) hst
          | cons _ _ => rfl
        rw [ne9]
        refine iteT ?_
        have tsome : turnL cs lf e.q = some (e.q, chain cs e.q z) := by rw [tq]; exact if_neg hst
        have okp : okP e.q.1 := by
          obtain ⟨c, hc, ec⟩ := places_mem.mp hmem
          rw [← ec]
          exact (ok1 c hc).1
        have te3 := te2.nl (NL.of s3)
        refine ⟨_, rfl, .inl ⟨rfl, _, .inl (.inl eD3)⟩, _, rfl, _, rfl, x, dx, _, rfl, s13 _ _ hx, rfl, fun q1 nq1 => ?_⟩
        have s4 := same_upd (o := .met T.f_Errata_turned x) nq1
        have s14 := s13.trans s4
        obtain ⟨kb', pgv', ek9, hkb4, hpg4⟩ := q_inv (te3.nl (NL.of s4))
        cases ek9
        refine ⟨_, rfl, kb, _, rfl, .inl (.inl (.inl hkb4)), _, rfl, upd_same, .ref x, pgv', cs, e.q, z, rfl, her0.nl (NL.of s14), ip_tp hpg4, okp, fun H5 s5 => ?_⟩
        refine ⟨(by show 2 ≤ sizeLine; decide), fun e9 nn9 => ?_⟩
        have s6 := same_upd (o := .tup [.ref kb, .str (chain cs e.q z)]) nn9
        have s46 := (s4.trans s5).trans s6
        have eD6 := s46 _ _ eD3
        have lw := tw3.len
        have lw2 : (((placesOf cs).take i).filterMap (turnL cs lf)).length ≤ 60 := Nat.le_trans (List.length_filterMap_le ..) (by rw [List.length_take]; have := places_len cs; omega)
        rw [List.length_map] at lw
        refine ⟨D, ws, _, rfl, rfl, eD6, small1000 (by omega), _, _, _, _, _, _, _, rfl, same_put (s13.trans s46) nD _, upd_same, ?_⟩
        have m := (NL.refl _).put eD6 (.lst (ws ++ [.ref e9]))
        rw [fm_snoc eq, tsome, List.map_append]
        refine ((tw3.nl (NL.of s46)).nl m).snoc (Tp.nl m ?_)
        exact .tup upd_same (.cons (te3.nl (NL.of s46)) (.cons (.str _) .nil))
    · rintro σ' H1 ⟨y3, y4, y5, y6, y7, y8, ws, rfl, s1, eD, tw⟩
      rw [lk, ← List.length_map (f := En.q), e2, List.take_length] at tw
      exact ⟨_, rfl, k D ws H1 s1 nD eD tw⟩
theorem ok_judged_corrections (T : Tab K mg) : FnOk P w K mg base CX0 6 T.f_judged_corrections T.d_judged_corrections ["corrections"] (sp_judged_corrections K) := by
  refine T.F_judged_corrections.ok sc_judged_corrections (fun vs H Q E h => ?_) (fun cdv A outer s H vs Q E hr h => ?_)
  · obtain ⟨a, us, cs, rfl, _⟩ := h
    rfl
  · obtain ⟨a, us, cs, rfl, ha, ⟨tu, ok, l60⟩, q⟩ := h
    refine ⟨_, (pss_cons (ps_if (pt_not (pt_val (pe_call (ok_is_tuple T) (hr.mono (by decide)) (by rfl) T.g_is_tuple T.F_is_tuple.kp T.b_is_tuple .nil pass0 (pa_cons (pv 0) pa_nil))))
      (pss_one ps_never)
      pss_nil)
      (pss_cons (ps_if (pt_cmpR op_gt (pe_callB call_len_seq (by rfl) T.m_len PySem.boot_len (pa_cons (pv 0) pa_nil)) (pe_glob (v := .int 60) (by rfl) T.c_MOST_CORRECTIONS ⟨_, rfl⟩) (nomark _))
      (pss_one ps_never)
      pss_nil)
      (pss_cons (ps_setLc (i := 1) (own := [("thing", 2)]) (g := gName 2) (by rfl) sc_judged_corrections.nd rfl rfl (sw_true rfl rfl rfl (by decide +kernel)) (pi_or (pi_list (pv 0)) (pi_tup (pv 0))) (blkOk_by (own := [("thing", 2)]) (N := N_judged_corrections) (sc := defScope s_judged_corrections) (by decide +kernel)) (fun _ _ _ _ _ => pg_name (i := 2) sc_judged_corrections.nd rfl (.inl rfl)) (fun _ _ _ _ _ => pts_nil) (fun _ _ _ _ _ => (pe_call (ok_kept_correction T) (hr.mono (by decide)) (by rfl) T.g_kept_correction T.F_kept_correction.kp T.b_kept_correction .nil pass0 (pa_cons (pv 2) pa_nil))))
      (pss_cons (ps_if (pt_cmpR (op_inDD (un2 hr)) pe_non (pv 1) (by rfl))
      (pss_one ps_never)
      pss_nil)
      (pss_one (ps_ret (pe_callTy call_tuple_of (by rfl) T.m_tuple (by decide +kernel) (pa_cons (pv 1) pa_nil)))))))), ?_⟩
    have lu := tu.len
    rw [List.length_map] at lu
    refine ⟨_, rfl, .ref a, .list (cs.map dC), rfl, .inl ⟨.lst (.inl (.inl ha)) tu.dp, fun H1 s1 => ⟨_, rfl, iteF ?_⟩⟩⟩
    have ha1 := s1 _ _ ha
    have tu1 := tu.nl (NL.of s1)
    refine ⟨_, rfl, a, us, rfl, .inl (.inl (.inl ha1)), _, _, rfl, rfl, _, rfl, ite2 (fun e => absurd (of_decide_eq_true e) (by show ¬ (60 : Int) < us.length; omega)) (fun _ => ?_)⟩
    refine .inl ⟨_, rfl, a, rfl, ⟨_, .inl (.inl ha1)⟩, fun D nD => ?_⟩
    refine lc_tp cs (fun c => some (dC c)) (walkL (xs := us) lu) nD (fun H h => .inl (.inl (h _ _ ha1))) (by omega) ?_ ?_
    · rintro i c y H4x H4 er sm ⟨rfl, hy⟩ R N hR hN
      obtain ⟨d, ed, ty⟩ := tu1.get hy
      rw [List.getElem?_map, er] at ed
      cases ed
      exact ⟨rfl, _, rfl, y, c, rfl, ty.nl (NL.of sm), ok c (List.mem_of_getElem? er), fun z H5 s5 hz => hR _ _ rfl _ s5 hz⟩
    rintro H2 ws s2 eD tw
    rw [map_fm] at tw
    refine ⟨_, rfl, .none, cs.map dC, .non, .inl (.lst (.inl (.inl eD)) tw.dp), rfl, shaped_pdl (pd_Cs ok) (by decide), false, ?_, iteF ?_⟩
    · rw [no_none]; rfl
    refine ⟨_, rfl, D, ws, rfl, .inl ⟨.inl (.inl eD), fun t nt => ?_⟩⟩
    have st := same_upd (o := .tup ws) nt
    exact q t ws _ ((s1.trans s2).trans st) upd_same (tw.nl (NL.of st))
theorem ok_Errata_init (T : Tab K mg) : FnOk P w K mg base CX0 7 T.f_Errata_init T.d_Errata_init ["self", "corrections"] (sp_Errata_init K w T.C_Errata) := by
  refine T.F_Errata_init.ok sc_Errata_init (fun vs H Q E h => ?_) (fun cdv A outer s H vs Q E hr h => ?_)
  · obtain ⟨x, dx, a, us, cs, rfl, _⟩ := h
    rfl
  · obtain ⟨x, dx, a, us, cs, rfl, hx, ha, hcs, q⟩ := h
    refine ⟨_, (pss_cons (ps_fld (pv 0) (pe_call (ok_judged_corrections T) (hr.mono (by decide)) (by rfl) T.g_judged_corrections T.F_judged_corrections.kp T.b_judged_corrections .nil pass0 (pa_cons (pv 1) pa_nil)) rfl)
      (pss_one (ps_fld (pv 0) (pe_call (ok_turns_at_places T) (hr.mono (by decide)) (by rfl) T.g_turns_at_places T.F_turns_at_places.kp T.b_turns_at_places .nil pass0 (pa_cons (pe_fld (pv 0) rfl) pa_nil)) rfl))), ?_⟩
    refine ⟨_, rfl, a, us, cs, rfl, ha, hcs, fun p us' H1 s1 hp tp => ?_⟩
    have px : p ≠ x := fun z => by rw [z, s1 _ _ hx] at hp; cases hp
    refine ⟨_, rfl, x, _, dx, _, rfl, s1 _ _ hx, T.cl_Errata, T.na_Errata_corrections, (show 0 < 1000 by decide), ?_⟩
    refine ⟨_, rfl, x, _, dx, _, _, rfl, upd_same, T.cl_Errata, T.na_Errata_corrections, rfl, ?_⟩
    have b1 : But x H1 (upd H1 x (.ins T.C_Errata dx (putF "corrections" (.ref p) []))) := But.upd _
    have hp2 : upd H1 x (.ins T.C_Errata dx (putF "corrections" (.ref p) [])) p = some (.tup us') := by rw [upd_ne px]; exact hp
    have hx2 : upd H1 x (.ins T.C_Errata dx (putF "corrections" (.ref p) [])) x = some (.ins T.C_Errata dx (putF "corrections" (.ref p) [])) := upd_same
    have tp2 := tp.butI (s1 _ _ hx) b1
    generalize upd H1 x (.ins T.C_Errata dx (putF "corrections" (.ref p) [])) = H2 at b1 hp2 hx2 tp2
    refine ⟨p, us', cs, rfl, hp2, ⟨tp2, hcs.2⟩, fun t H3 s3 ht => ?_⟩
    refine ⟨_, rfl, x, _, dx, _, rfl, s3 _ _ hx2, T.cl_Errata, T.na_Errata__turns, (show 1 < 1000 by decide), ?_⟩
    have b3 : But x H3 (upd H3 x (.ins T.C_Errata dx (putF "_turns" (.ref t) (putF "corrections" (.ref p) [])))) := But.upd _
    refine q _ ⟨x, dx, p, t, us', rfl, upd_same, by rw [upd_ne px]; exact s3 _ _ hp2, ⟨(tp2.nl (NL.of s3)).butI (s3 _ _ hx2) b3, hcs.2⟩, ht.butI (s3 _ _ hx2) b3⟩ (((But.of s1).trans b1).trans ((But.of s3).trans b3))
theorem ok_deep_tuple (T : Tab K mg) : ∀ n, FnOk P w K mg base CX0 (n + 2) T.f_deep_tuple T.d_deep_tuple ["_law_thing"] (sp_deep_tuple K n)
  | 0 => ⟨fun vs H Q E h => by
      obtain ⟨x, d, rfl, _⟩ := h
      rfl, fun A outer s H args us vs Q E hr h0 hb hv h => by
      obtain ⟨x, d, _, _, hp, _⟩ := h
      exact hp.elim⟩
  | n + 1 => by
    have IH := ok_deep_tuple T n
    refine T.F_deep_tuple.ok sc_deep_tuple (fun vs H Q E h => ?_) (fun cdv A outer s H vs Q E hr h => ?_)
    · obtain ⟨x, d, rfl, _⟩ := h
      rfl
    · obtain ⟨x, d, rfl, hx, hp, q⟩ := h
      refine ⟨_, (pss_cons (ps_if (pt_val (pe_callB call_isi (by rfl) T.m_isinstance (by decide +kernel) (pa_cons (pv 0) (pa_cons (pe_bltn (v := .ty "tuple") (u := .type "tuple") (by rfl) T.m_tuple (by decide +kernel) rfl) pa_nil))))
      (pss_one (ps_ret (pe_cmpR op_eq (pe_callB call_len_seq (by rfl) T.m_len PySem.boot_len (pa_cons (pe_lc (own := [("_law_part", 1)]) (g := gName 1) (by rfl) sc_deep_tuple.nd (pi_tup (pv 0)) (blkOk_by (own := [("_law_part", 1)]) (N := N_deep_tuple) (sc := defScope s_deep_tuple) (by decide +kernel)) (fun _ _ _ _ _ => pg_name (i := 1) sc_deep_tuple.nd rfl (.inl rfl)) (fun _ _ _ _ _ => (pts_one (pt_not (pt_val (pe_call IH (hr.mono (by omega)) (by rfl) T.g_deep_tuple T.F_deep_tuple.kp T.b_deep_tuple .nil pass0 (pa_cons (pv 1) pa_nil)))))) (fun _ _ _ _ _ => (pv 1))) pa_nil)) pe_int (nomark _))))
      pss_nil)
      (pss_one (ps_ret (pe_or (pe_callB call_isi (by rfl) T.m_isinstance (by decide +kernel) (pa_cons (pv 0) (pa_cons (pe_bltn (v := .ty "str") (u := .type "str") (by rfl) T.m_str (by decide +kernel) rfl) pa_nil))) (pe_or (pe_call (ok_law_is_integer T) (hr.mono (by omega)) (by rfl) T.g_law_is_integer T.F_law_is_integer.kp T.b_law_is_integer .nil pass0 (pa_cons (pv 0) pa_nil)) (pe_one (pe_cmpR op_isN (pv 0) pe_non (nomark _)))))))), ?_⟩
      cases hx with
      | bl b => exact hp.elim
      | lst _ _ => exact hp.elim
      | non => exact hp.elim
      | str z =>
        refine ⟨_, rfl, _, _, _, _, _, rfl, .ty "tuple", .base (.str z), kit_ty (r := false) (by decide +kernel), false, rfl, iteF ?_⟩
        refine ⟨_, rfl, _, _, _, _, _, rfl, .ty "str", .base (.str z), kit_ty (r := true) (by decide +kernel), ?_⟩
        exact ⟨_, rfl, iteT (q H (Same.refl H))⟩
      | int i =>
        refine ⟨_, rfl, _, _, _, _, _, rfl, .ty "tuple", .base (.int i), kit_ty (r := false) (by decide +kernel), false, rfl, iteF ?_⟩
        refine ⟨_, rfl, _, _, _, _, _, rfl, .ty "str", .base (.int i), kit_ty (r := false) (by decide +kernel), ?_⟩
        refine ⟨_, rfl, iteF ?_⟩
        exact ⟨_, rfl, i, rfl, _, rfl, iteT (q H (Same.refl H))⟩
      | tup ha da =>
        rename_i a xs ds
        have ll := dpAll_len da
        refine ⟨_, rfl, _, _, _, _, _, rfl, .ty "tuple", ty_T ha, kit_ty (by decide +kernel), true, rfl, iteT ?_⟩
        refine ⟨_, rfl, a, rfl, ⟨_, ha⟩, fun D nD => ?_⟩
        have h1 := hp.1
        refine lc_fm ds (fun _ => none) (walkT (xs := xs) ll) nD (fun H h => same_seqT h ha) (by omega) ?_ ?_
        · rintro i e y H4x H4 er sm ⟨rfl, hy⟩ R N hR hN
          obtain ⟨e', ee, de⟩ := dpAll_get da hy
          rw [er] at ee
          cases ee
          refine ⟨rfl, _, rfl, y, e, rfl, dp_same sm de, hp.2 e (List.mem_of_getElem? er), fun H' s' => ?_⟩
          exact ⟨_, rfl, iteF (hN rfl _ s')⟩
        rintro H1 s1 eD
        have eD : H1 D = some (.lst []) := by rw [eD]; congr 2; exact List.filterMap_eq_nil_iff.mpr fun _ _ => rfl
        refine ⟨D, _, rfl, .inl (.inl (.inl eD)), rfl, ?_⟩
        have := q H1 s1
        exact this
theorem ok_Leaf_penned (T : Tab K mg) : FnOk P w K mg base CX0 8 T.f_Leaf_penned T.d_Leaf_penned ["self", "strokes"] (sp_Leaf_penned K T.C_Leaf) := by
  refine T.F_Leaf_penned.ok sc_Leaf_penned (fun vs H Q E h => ?_) (fun cdv A outer s H vs Q E hr h => ?_)
  · obtain ⟨v, a, us, lf, ss, rfl, _⟩ := h
    rfl
  · obtain ⟨v, a, us, lf, ss, rfl, hlf, okl, lpen, ha, tu, nd, okp, l60, q⟩ := h
    refine ⟨_, (pss_cons (ps_set (i := 2) sc_Leaf_penned.nd rfl (.inl rfl) (pe_call (ok_kept_strokes T) (hr.mono (by decide)) (by rfl) T.g_kept_strokes T.F_kept_strokes.kp T.b_kept_strokes .nil pass0 (pa_cons (pv 1) pa_nil)))
      (pss_cons (ps_if (PW.pt (pw_or (pt_cmpR op_isN (pv 2) pe_non (nomark _)) (pw_or1 (pt_cmpR op_lt (pe_callB call_lenTO (by rfl) T.m_len PySem.boot_len (pa_cons (pe_callTy (cr_setOfT rfl (by have z := hr.units; exact z)) (by rfl) T.m_set (by decide +kernel) (pa_cons (pe_lc (own := [("stroke", 4)]) (g := gName 4) (by rfl) sc_Leaf_penned.nd (pi_tup (pv 2)) (blkOk_by (own := [("stroke", 4)]) (N := N_Leaf_penned) (sc := defScope s_Leaf_penned) (by decide +kernel)) (fun _ _ _ _ _ => pg_name (i := 4) sc_Leaf_penned.nd rfl (.inl rfl)) (fun _ _ _ _ _ => pts_nil) (fun _ _ _ _ _ => (pe_slice (sl_tupAK (K := K) rfl) (pv 4) po_none (po_some pe_int)))) pa_nil)) pa_nil)) (pe_callB call_len_seq (by rfl) T.m_len PySem.boot_len (pa_cons (pv 2) pa_nil)) (nomark _)))))
      (pss_one ps_never)
      pss_nil)
      (pss_cons (ps_set (i := 3) sc_Leaf_penned.nd rfl (.inr rfl) (pe_dcT (own := [("place", 5)]) (g := gName 5) (by have z := un2 hr; exact Nat.lt_of_le_of_lt (Nat.add_le_add_left (by decide) _) z) (by rfl) sc_Leaf_penned.nd (pi_keys (pe_fld (pv 0) rfl)) (blkOk_by (own := [("place", 5)]) (N := N_Leaf_penned) (sc := defScope s_Leaf_penned) (by decide +kernel)) (fun _ _ _ _ _ => pg_name (i := 5) sc_Leaf_penned.nd rfl (.inl rfl)) (fun _ _ _ _ _ => (pv 5)) (fun _ _ _ _ _ => (pe_dget (Nat.lt_of_le_of_lt (Nat.add_le_add_left (by decide) _) (un2 hr)) (pe_fldK (K := K) rfl (pv 0) rfl) (pv 5) (fun _ _ => rfl)))))
      (pss_cons (ps_for PassesOwn.never rfl (pi_tup (pv 2)) (pg_name (i := 4) sc_Leaf_penned.nd rfl (.inl rfl))
      (pss_one (ps_dput (Nat.lt_of_le_of_lt (Nat.add_le_add_left (by decide) _) (un2 hr)) (pv 3) (pe_slice sl_tupA (pv 4) po_none (po_some pe_int)) (pe_ix ix_tup (pv 4) pe_int (fun _ _ => rfl)) rfl)))
      (pss_one (ps_ret (pe_make ⟨T.ms_Leaf, T.g_Leaf_init, T.fn_Leaf_init, T.kc_Leaf⟩ (ok_Leaf_init T) (hr.mono (by decide)) (by rfl) T.cg_Leaf T.b_Leaf_init .nil pass0 (pa_cons (pe_fld (pv 0) rfl) (pa_cons (pe_fld (pv 0) rfl) (pa_cons (pe_fld (pv 0) rfl) (pa_cons (pe_callB (cr_sortedD (un2 hr)) (by rfl) T.m_sorted (by decide +kernel) (pa_cons (pe_lc (own := [("place", 5)]) (g := gName 5) (by rfl) sc_Leaf_penned.nd (pi_keys (pe_frz (pv 3))) (blkOk_by (own := [("place", 5)]) (N := N_Leaf_penned) (sc := defScope s_Leaf_penned) (by decide +kernel)) (fun _ _ _ _ _ => pg_name (i := 5) sc_Leaf_penned.nd rfl (.inl rfl)) (fun _ _ _ _ _ => pts_nil) (fun _ _ _ _ _ => (pe_tup (pa_starK (K := K) rfl (pv 5) (pa_cons (pe_dget (Nat.lt_of_le_of_lt (Nat.add_le_add_left (by decide) _) (un2 hr)) (pv 3) (pv 5) (fun _ _ => rfl)) pa_nil))))) pa_nil)) pa_nil))))))))))), ?_⟩
    obtain ⟨k1, k2, k3, k4, k5⟩ := id okl
    have lu : us.length = ss.length := by have := tu.len; rwa [List.length_map] at this
    refine ⟨_, rfl, a, ss, rfl, ⟨us, .inl (.inl (.inl ha)), tu, by omega⟩, fun s hs => ?_, fun p us1 H1 s1 hp tp => ?_⟩
    · obtain ⟨o1, o2⟩ := okp s hs
      obtain ⟨p1, p2, p3⟩ := plB_small k2 k3 o1
      exact ⟨p1, p2, p3, o2⟩
    have lu1 : us1.length = ss.length := by have := tp.len; rwa [List.length_map] at this
    refine ⟨_, rfl, rfl, _, rfl, ite2 (fun e => absurd (of_decide_eq_true e) (by intro z; cases z)) (fun _ => ?_)⟩
    have hp1 : SqT K H1 p us1 := .inl (.inl hp)
    refine ⟨_, rfl, p, rfl, ⟨_, hp1⟩, fun D nD => ?_⟩
    refine lc_tp ss (fun s => some (dL (plL s.1))) (walkT (xs := us1) lu1) nD (fun H h => same_seqT h hp1) (by omega) ?_ ?_
    · rintro i d x H2 H3 ed sm ⟨rfl, hx⟩ R N hR hN
      obtain ⟨e, ee, tx⟩ := tp.get hx
      rw [List.getElem?_map, ed] at ee
      cases ee
      obtain ⟨b2, rfl, hb2⟩ := sk_inv (tx.nl (NL.of sm))
      refine ⟨rfl, _, rfl, ?_⟩
      dsimp only [tNoPart]
      refine ⟨3, rfl, ?_⟩
      refine sl_goT hb2 fun c H4 s4 hc => ?_
      exact hR _ _ rfl _ s4 (tpL (L := plL d.1) hc)
    rintro H2 ws s2 eD tw
    rw [map_fm, show (fun d : Sk => dL (plL d.1)) = dL ∘ (fun d => plL d.1) from rfl, ← List.map_map] at tw
    obtain ⟨ks, e1, e2, e3⟩ := tups_of tw
    have lks : ks.length = ss.length := by rw [← List.length_map (f := Prod.snd), e2, List.length_map]
    refine ⟨D, ks, rfl, by rw [e1]; exact .inl (.inl eD), fun p hp => .inl (.inl (e3 p hp)), by omega, fun b L nb sub all => ?_⟩
    have s3 := same_upd (o := SetTO P w b L) nb
    refine ⟨b, L, rfl, upd_same, fun p hp => .inl (.inl (s3 _ _ (e3 p (sub p hp)))), ?_⟩
    have s13 := (s1.trans s2).trans s3
    have hp3 := s3 _ _ (s2 _ _ hp)
    refine ⟨_, rfl, p, us1, rfl, .inr (.inl (.inl hp3)), _, _, rfl, rfl, _, rfl, ite2 (fun e => ?_) (fun _ => ?_)⟩
    · exfalso
      have lt := of_decide_eq_true e
      have nk : (ks.map Prod.snd).Nodup := by
        rw [e2]
        have : ss.map (fun d => plL d.1) = (ss.map Prod.fst).map plL := by rw [List.map_map]; rfl
        rw [this, List.Nodup, List.pairwise_map]
        exact nd.imp fun {x y} h z => h (plL_inj z)
      have := nodup_subP (m := L.map Prod.snd) nk fun x hx => by
        obtain ⟨p2, hp2, rfl⟩ := List.mem_map.mp hx
        exact all p2 hp2
      rw [List.length_map, List.length_map] at this
      omega
    have tp3 := (tp.nl (NL.of s2)).nl (NL.of s3)
    obtain ⟨x0, dx, l, f, bb, pn, st, ev, hx, hl, hf, hb, hpn, o, hs⟩ := hlf.nl (NL.of s13)
    subst ev
    refine ⟨_, rfl, x0, _, dx, _, _, rfl, hx, T.cl_Leaf, T.na_Leaf__strokes, fLf_strokes, st, o, rfl, .inr ⟨_, hs, fun D3 nD3 => ?_⟩⟩
    have nk5 := pw_nodup k5
    refine dc_it (walk_keysT (kvs := entT lf.pen)) (fun i H' => Same (upd H2 b (SetTO P w b L)) H' ∧ H' D3 = some (.dT (entT (lf.pen.take i)))) ⟨same_upd nD3, upd_same⟩ (fun _ H' _ hh => hh.1 _ _ hs) (fun i x1 H6 H7 hi ⟨sm, eD3⟩ hY => ?_) fun H5 ⟨s5, eD3⟩ => ?_
    · obtain ⟨rfl, k, v, qa, ek, rfl, hqa⟩ := hY
      have ek' : (lf.pen.map fun s => (kSk s, V.str s.2))[i]? = some (k, v) := ek
      rw [List.getElem?_map] at ek'
      obtain ⟨sk, es, ekv⟩ := Option.map_eq_some_iff.mp ek'
      cases ekv
      have et : lf.pen.take (i + 1) = lf.pen.take i ++ [sk] := by rw [List.take_add_one, es]; rfl
      have nw : sk.1 ∉ (lf.pen.take i).map Prod.fst := by
        have n2 : ((lf.pen.take (i + 1)).map Prod.fst).Nodup := ((List.take_sublist (i + 1) lf.pen).map Prod.fst).nodup nk5
        rw [et, List.map_append, List.nodup_append] at n2
        exact fun hm => n2.2.2 _ hm _ (List.mem_singleton.mpr rfl) rfl
      have vt : valV (entT lf.pen) (kSk sk) = some (.str sk.2) := by rw [valT, penAt_of nk5 (List.mem_of_getElem? es)]; rfl
      refine ⟨rfl, _, rfl, _, rfl, x0, _, dx, _, _, rfl, sm _ _ hx, T.cl_Leaf, T.na_Leaf__strokes, fLf_strokes, _, rfl, st, _, rfl, .inr ⟨_, _, qa, .inr ⟨o, sm _ _ hs⟩, rfl, hqa, vt.symm⟩, qa, _, _, rfl, eD3, hqa, ?_, same_put sm nD3 _, ?_⟩
      · unfold entT
        rw [List.length_map, List.length_take]
        exact Nat.lt_of_le_of_lt (Nat.le_trans (Nat.min_le_right ..) lpen) (by show 90000 < sizeLine; decide +kernel)
      · rw [upd_same, entT_put, putS_new nw, ← et]
    rw [show (entT lf.pen).length = lf.pen.length from List.length_map .., List.take_length] at eD3
    have fD3 : H D3 = none := none_of s13 nD3
    have hx5 := s5 _ _ hx
    have hp5 := s5 _ _ hp3
    have tp5 := tp3.nl (NL.of s5)
    have lay : ∀ i, (layS lf.pen (ss.take i)).length ≤ 100000 := fun i => by
      have := layS_len (ss := lf.pen) (ts := ss.take i)
      rw [List.length_take] at this
      omega
    have s05 := s13.trans s5
    refine ⟨_, rfl, p, rfl, ⟨_, .inl (.inl hp5)⟩, for_tup (xs := us1) (fun i σ' H' => ∃ y4, σ' = [some (.ref x0), some (.ref a), some (.ref p), some (.ref D3), y4, none] ∧ But D3 H5 H' ∧ H' D3 = some (.dT (entT (layS lf.pen (ss.take i))))) ⟨none, rfl, But.refl _ _, eD3⟩ (fun i σ' H' _ hh => by obtain ⟨y4, _, b, e⟩ := hh; exact .inl (.inl (b _ _ (fun z => by rw [z, eD3] at hp5; cases hp5) hp5))) ?_ ?_⟩
    · rintro i x σ' H6 hxi ⟨y4, rfl, b6, e6⟩
      obtain ⟨d, ed, tx⟩ := tp5.get hxi
      rw [List.getElem?_map] at ed
      obtain ⟨sk, es, rfl⟩ := Option.map_eq_some_iff.mp ed
      obtain ⟨b9, rfl, hb9⟩ := sk_inv tx
      have hb96 := b6 _ _ (fun z => by rw [z, eD3] at hb9; cases hb9) hb9
      refine ⟨_, rfl, b9, _, _, _, rfl, rfl, .inl (.inl hb96), rfl, _, rfl, _, rfl, ?_⟩
      dsimp only [tNoPart]
      refine ⟨3, rfl, ?_⟩
      refine sl_goT hb96 fun c H8 s8 hc => ?_
      refine ⟨D3, _, rfl, DPut.t (k := kSk sk) (s8 _ _ e6) hc (by unfold entT; rw [List.length_map]; exact small99 (lay i)), _, rfl, (b6.trans (But.of s8)).trans (But.upd _), ?_⟩
      rw [upd_same, entT_put, List.take_add_one, es]
      show _ = some (HO.dT (entT (layS lf.pen (ss.take i ++ [sk]))))
      rw [layS_snoc]
    rintro σ' H6 ⟨y4, rfl, b6, e6⟩
    rw [lu1, List.take_length] at e6
    have keep : ∀ {c : Addr} {u : HO}, H5 c = some u → u ≠ .dT (entT lf.pen) → H6 c = some u := fun {c u} e n => b6 _ _ (fun z => by rw [z, eD3] at e; exact n (Option.some.inj e).symm) e
    have hx6 := keep hx5 (by intro z; cases z)
    have hl6 := keep (s5 _ _ hl) (by intro z; cases z)
    have hf6 := keep (s5 _ _ hf) (by intro z; cases z)
    have hb6 := keep (s5 _ _ hb) (by intro z; cases z)
    have s06 : Same H H6 := fun c u e => b6 _ _ (fun z => by rw [z, fD3] at e; cases e) (s05 _ _ e)
    have ltb := lay ss.length
    rw [List.take_length] at ltb
    have ntb := layS_nodup (ts := ss) nk5
    have ltb2 := layS_len (ss := lf.pen) (ts := ss)
    obtain ⟨tb, etb⟩ : ∃ tb, layS lf.pen ss = tb := ⟨_, rfl⟩
    have mtb : ∀ t ∈ tb, plB lf t.1 = true ∧ tokB t.2 = true := fun t ht => by
      rw [← etb] at ht
      rcases layS_mem ht with h | h
      · exact k4 t h
      · exact okp t h
    have atb : ∀ p, penAt tb p = match penAt ss p with | some z => some z | none => penAt lf.pen p := fun p => by rw [← etb]; exact layS_at nd
    rw [etb] at e6 ltb ntb ltb2
    refine ⟨_, rfl, x0, _, dx, _, _, rfl, hx6, T.cl_Leaf, T.na_Leaf_label, fLf_label, _, rfl, x0, _, dx, _, _, rfl, hx6, T.cl_Leaf, T.na_Leaf_front, fLf_front, _, rfl, x0, _, dx, _, _, rfl, hx6, T.cl_Leaf, T.na_Leaf_back, fLf_back, ?_⟩
    refine ⟨_, rfl, frz_one e6 True.intro fun o2 => ?_⟩
    have hD7 : upd H6 D3 (.frz o2 (.dT (entT tb))) D3 = some (.frz o2 (.dT (entT tb))) := upd_same
    refine ⟨D3, o2, rfl, .inr ⟨_, hD7, fun D4 nD4 => ?_⟩⟩
    refine lc_tp tb (fun s => some (dSk s)) (walkE (ss := tb)) nD4 (fun H h => h _ _ hD7) ltb ?_ ?_
    · rintro i d x H8 H9 ed sm ⟨rfl, k, v, qa, ek, rfl, hqa⟩ R N hR hN
      obtain ⟨sk, es, rfl, rfl⟩ := entT_get ek
      rw [ed] at es
      cases es
      have vt : valV (entT tb) (kSk d) = some (.str d.2) := by rw [valT, penAt_of ntb (List.mem_of_getElem? ed)]; rfl
      refine ⟨rfl, _, rfl, qa, _, rfl, .inl (.inl (.inl hqa)), _, rfl, _, rfl, D3, _, rfl, .inr ⟨_, _, qa, .inr ⟨o2, sm _ _ hD7⟩, rfl, hqa, vt.symm⟩, (by show 4 ≤ sizeLine; decide), fun t nt => ?_⟩
      exact hR _ _ rfl _ (same_upd nt) (.tup upd_same (.cons (.int _) (.cons (.int _) (.cons (.int _) (.cons (.str _) .nil)))))
    rintro H8 ws s8 eD4 tw
    rw [map_fm] at tw
    refine ⟨D4, ws, _, rfl, .inl (.inl eD4), tw.dp, alike_Sks tb, sortable_Sks tb, (fun d hd => by obtain ⟨s, _, rfl⟩ := List.mem_map.mp hd; exact depth_Sk s), fun p9 np9 => ?_⟩
    obtain ⟨qs, pq, tq, pwq⟩ := srt_Sk tw ntb
    intro x9 dx9 nx ndx ne
    have s9 := same_upd (o := .lst ((srtV ws (tb.map dSk)).map Prod.fst)) np9
    have sA := s9.trans (mk_same (C := T.C_Leaf) nx ndx)
    have k7 : ∀ {c : Addr} {u : HO}, H6 c = some u → u ≠ .dT (entT tb) → upd H6 D3 (.frz o2 (.dT (entT tb))) c = some u := fun {c u} e n => by rw [upd_ne (fun z => by rw [z, e6] at e; exact n (Option.some.inj e).symm)]; exact e
    have s0B : Same H (upd H8 p9 (.lst ((srtV ws (tb.map dSk)).map Prod.fst))) := fun c u e => s9 _ _ (s8 _ _ (by rw [upd_ne (fun z => by rw [z, fD3] at e; cases e)]; exact s06 _ _ e))
    have s0A := s0B.trans (mk_same (C := T.C_Leaf) nx ndx)
    have okl' : okLw ⟨lf.L, lf.fr, lf.bk, qs⟩ := ⟨k1, k2, k3, fun s hs => mtb s (pq.mem_iff.mp hs), pwq⟩
    refine ⟨x9, dx9, l, f, bb, p9, ⟨lf.L, lf.fr, lf.bk, qs⟩, rfl, upd_same, sA _ _ (s8 _ _ (k7 hl6 (by intro z; cases z))), ⟨sA _ _ (s8 _ _ (k7 hf6 (by intro z; cases z))), sA _ _ (s8 _ _ (k7 hb6 (by intro z; cases z))), k2, k3⟩, ⟨_, .inl (.inl (.inl (mk_same nx ndx _ _ upd_same))), tq.nl (NL.of sA), by rw [pq.length_eq]; exact ltb⟩, okl', fun H' hLf bt => ⟨rfl, ?_⟩⟩
    refine q (.ref x9) _ H' (mk_after (none_back s0B nx) s0A bt) hLf rfl rfl rfl okl' (by show qs.length ≤ _; rw [pq.length_eq]; exact ltb2) fun p => ?_
    exact (penAt_perm pq.symm ntb p).symm.trans (atb p)
theorem ok_is_book (T : Tab K mg) : GnOk P w K mg base CX0 8 T.f_is_book T.d_is_book ["_law_actual", "_law_leaves"] (sp_is_book K T.C_Leaf T.C_Book) := by
  refine gn_ok T.F_is_book sc_is_book (fun vs H Q E h => ?_) (fun cdv A outer s H vs Q E hr hg h => ?_)
  · obtain ⟨v, l, us, bk, n, rfl, _⟩ := h
    rfl
  · obtain ⟨v, l, us, bk, n, rfl, hbk, hlu, tu, gb, hn, q⟩ := h
    refine ⟨_, (pss_cons (ps_if (pt_not (pt_val (pe_callB call_isi (by rfl) T.m_isinstance (by decide +kernel) (pa_cons (pe_fld (pv 0) rfl) (pa_cons (pe_bltn (v := .ty "tuple") (u := .type "tuple") (by rfl) T.m_tuple (by decide +kernel) rfl) pa_nil)))))
      (pss_one (ps_ret pe_bl))
      pss_nil)
      (pss_cons (ps_set (i := 2) sc_is_book.nd rfl (.inl rfl) (pe_call (ok_leaves_in T) (hr.mono (by decide)) (by rfl) T.g_leaves_in T.F_leaves_in.kp T.b_leaves_in .nil pass0 (pa_cons (pv 0) pa_nil)))
      (pss_one (ps_ret (pe_and (pe_cmpR (op_eqD hr.units) (pv 2) (pe_lc (own := [("_law_sheet", 3)]) (g := gName 3) (by rfl) sc_is_book.nd (pi_list (pv 1)) (blkOk_by (own := [("_law_sheet", 3)]) (N := N_is_book) (sc := defScope s_is_book) (by decide +kernel)) (fun _ _ _ _ _ => pg_name (i := 3) sc_is_book.nd rfl (.inl rfl)) (fun _ _ _ _ _ => pts_nil) (fun _ _ _ _ _ => (pe_callTy (call_tuple_ofK (K := K) rfl) (by rfl) T.m_tuple (by decide +kernel) (pa_cons (pv 3) pa_nil)))) (nomark _)) (pe_one (pe_call (ok_deep_tuple T 5) (hr.mono (by decide)) (by rfl) T.g_deep_tuple T.F_deep_tuple.kp T.b_deep_tuple .nil pass0 (pa_cons (pe_callTy call_tuple_of (by rfl) T.m_tuple (by decide +kernel) (pa_cons (pv 2) pa_nil)) pa_nil)))))))), ?_⟩
    have hbk0 := hbk
    obtain ⟨x, dx, la, s, vs, rfl, hx, hl, hf, hs, h60⟩ := hbk
    have ulen := tu.len
    rw [List.length_map] at ulen
    refine ⟨_, rfl, x, _, dx, _, _, rfl, hx, T.cl_Book, T.na_Book_leaves, fBk_leaves, ?_⟩
    refine ⟨_, _, _, _, _, rfl, .ty "tuple", ty_T (.inl (.inl hl)), kit_ty (r := true) (by decide +kernel), _, rfl, iteF ?_⟩
    refine ⟨_, rfl, .ref x, bk, rfl, hbk0, fun p ts H1 s1 hp tp => ?_⟩
    have hlu1 := s1 _ _ hlu
    have tu1 := tu.nl (NL.of s1)
    refine ⟨_, rfl, _, rfl, l, rfl, ⟨_, .inl (.inl hlu1)⟩, fun D nD => ?_⟩
    refine lc_tp bk (fun y => some (dLp y)) (walkL (xs := us) ulen) nD (fun H h => .inl (.inl (h _ _ hlu1))) (by omega) ?_ ?_
    · rintro i y z H4x H4 er sm ⟨rfl, hy⟩ R N hR hN
      obtain ⟨d, el, td⟩ := tu1.get hy
      rw [List.getElem?_map, er] at el
      cases el
      have td4 := td.nl (NL.of sm)
      refine ⟨rfl, _, rfl, ?_⟩
      have td5 := td4
      cases td4 with
      | tup hz tz => exact ⟨_, _, rfl, .inr ⟨.inl (.inl hz), hR _ _ rfl _ (Same.refl _) td5⟩⟩
    · intro H2 zs s2 eD tz
      have e : bk.filterMap (fun l => some (dLp l)) = bk.map dLp := by rw [← List.filterMap_eq_map]; rfl
      rw [e] at tz
      have hp2 := s2 _ _ hp
      have tp2 := tp.nl (NL.of s2)
      have pd := pd_Lps gb (by omega)
      refine ⟨_, _, .lst (.inl (.inl hp2)) tp2.dp, .lst (.inl (.inl eD)) tz.dp, shaped_pdl pd (by decide), shaped_pdl pd (by decide), _, rfl, ?_⟩
      rw [eqv_pdl pd]
      refine iteT ⟨_, rfl, p, _, rfl, .inl ⟨.inl (.inl hp2), fun t nt => ?_⟩⟩
      have s3 := same_upd (o := .tup ts) nt
      refine ⟨_, _, rfl, .tup (.inl (.inl upd_same)) (tp2.nl (NL.of s3)).dp, pd_book gb (by omega), fun H' s' => ?_⟩
      exact q H' (((s1.trans s2).trans s3).trans s')
theorem ok_book (T : Tab K mg) : FnOk P w K mg base CX0 8 T.f_book T.d_book ["_law_leaves"] (sp_book K T.C_Leaf T.C_Book) := by
  refine T.F_book.ok sc_book (fun vs H Q E h => ?_) (fun cdv A outer s H vs Q E hr h => ?_)
  · obtain ⟨a, us, bk, n, rfl, _⟩ := h
    rfl
  · obtain ⟨a, us, bk, n, rfl, ha, tu, gb, hn, q⟩ := h
    refine ⟨_, (pss_one (ps_ret (pe_make ⟨T.ms_Book, T.g_Book_init, T.fn_Book_init, T.kc_Book⟩ (ok_Book_init T) (hr.mono (by decide)) (by rfl) T.cg_Book T.b_Book_init .nil pass0 (pa_cons (pe_lc (own := [("_law_one", 1)]) (g := gName 1) (by rfl) sc_book.nd (pi_list (pv 0)) (blkOk_by (own := [("_law_one", 1)]) (N := N_book) (sc := defScope s_book) (by decide +kernel)) (fun _ _ _ _ _ => pg_name (i := 1) sc_book.nd rfl (.inl rfl)) (fun _ _ _ _ _ => pts_nil) (fun _ _ _ _ _ => (pe_make ⟨T.ms_Leaf, T.g_Leaf_init, T.fn_Leaf_init, T.kc_Leaf⟩ (ok_Leaf_init T) (hr.mono (by decide)) (by rfl) T.cg_Leaf T.b_Leaf_init .nil pass0 (pa_cons (pe_ix (ix_tupK (K := K) rfl) (pv 1) pe_int (fun _ _ => rfl)) (pa_cons (pe_ix (ix_tupK (K := K) rfl) (pv 1) pe_int (fun _ _ => rfl)) (pa_cons (pe_ix (ix_tupK (K := K) rfl) (pv 1) pe_int (fun _ _ => rfl)) (pa_cons (pe_ix (ix_tupK (K := K) rfl) (pv 1) pe_int (fun _ _ => rfl)) pa_nil))))))) pa_nil)))), ?_⟩
    have lu : us.length = bk.length := by have := tu.len; rwa [List.length_map] at this
    have h60 := gb.1
    refine ⟨_, rfl, a, rfl, ⟨_, .inl (.inl ha)⟩, fun D nD => ?_⟩
    refine lc_list (xs := us) (fun i H' => Same H H' ∧ ∃ ws, H' D = some (.lst ws) ∧ LfAll T.C_Leaf H' ws (bk.take i)) ⟨same_upd nD, [], upd_same, .nil⟩ (fun _ H' _ h => .inl (.inl (h.1 _ _ ha))) ?_ ?_
    · rintro i y H1 hy ⟨sm, ws, eD, hA⟩
      obtain ⟨d, ed, td⟩ := tu.get hy
      obtain ⟨lf, el, rfl⟩ : ∃ lf, bk[i]? = some lf ∧ d = dLp lf := by
        rw [List.getElem?_map] at ed
        cases e : bk[i]? with
        | none => rw [e] at ed; cases ed
        | some l => rw [e] at ed; exact ⟨l, rfl, (Option.some.inj ed).symm⟩
      have hm := List.mem_of_getElem? el
      have okl := (gb.2.2 lf hm).1.1
      have lp := (gb.2.2 lf hm).2
      obtain ⟨t, g, f, b, c, ps, rfl, ht, hg, hf, hb, hc, tp⟩ := dLp_inv (td.nl (NL.of sm))
      have il := (List.getElem?_eq_some_iff.mp el).1
      have ul : ws.length ≤ 60 := by
        rw [hA.len, List.length_take]
        omega
      refine ⟨rfl, _, rfl, t, _, 0, _, rfl, rfl, .inl (.inl ht), rfl, _, rfl, t, _, 1, _, rfl, rfl, .inl (.inl ht), rfl, _, rfl, t, _, 2, _, rfl, rfl, .inl (.inl ht), rfl, _, rfl, t, _, 3, _, rfl, rfl, .inl (.inl ht), rfl, fun x dx nx ndx dxx => ?_⟩
      have s1 := mk_same (C := T.C_Leaf) nx ndx
      refine ⟨x, dx, g, f, b, c, lf, rfl, upd_same, s1 _ _ hg, ⟨s1 _ _ hf, s1 _ _ hb, okl.2.1, okl.2.2.1⟩, ⟨ps, .inr (.inl (.inl (s1 _ _ hc))), tp.nl (NL.of s1), by omega⟩, okl, fun H2 hx bt => ⟨rfl, ?_⟩⟩
      have s2 := mk_after nx s1 bt
      have eD2 := s2 _ _ eD
      have m := (NL.of s2).put eD2 (.lst (ws ++ [.ref x]))
      have m2 := (NL.refl H2).put eD2 (.lst (ws ++ [.ref x]))
      refine ⟨ws, eD2, small1000 (by omega), same_put (sm.trans s2) nD _, ws ++ [.ref x], upd_same, ?_⟩
      rw [List.take_add_one, el]
      exact (hA.nl m).snoc (LfAt.nl m2 hx)
    · rintro H1 ⟨sm, ws, eD, hA⟩
      rw [lu, List.take_length] at hA
      refine fun x9 dx9 nx ndx ne => ?_
      have sA := mk_same (C := T.C_Book) nx ndx
      refine ⟨x9, dx9, D, ws, bk, rfl, upd_same, sA _ _ eD, hA.nl (NL.of sA), gb.ok, fun H' hB bt => ⟨rfl, ?_⟩⟩
      exact q (.ref x9) H' (mk_after (none_back sm nx) (sm.trans sA) bt) hB
theorem ok_Errata_call (T : Tab K mg) : FnOk P w K mg base CX0 9 T.f_Errata_call T.d_Errata_call ["self", "book"] (sp_Errata_call K w T.C_Leaf T.C_Book T.C_Errata) := by
  refine T.F_Errata_call.ok sc_Errata_call (fun vs H Q E h => ?_) (fun cdv A outer s H vs Q E hr h => ?_)
  · obtain ⟨v, u, cs, bk, rfl, _⟩ := h
    rfl
  · obtain ⟨v, u, cs, bk, rfl, her, hbk, okb, lpen, q⟩ := h
    refine ⟨_, (pss_cons (ps_set (i := 2) sc_Errata_call.nd rfl (.inl rfl) (pe_lst pa_nil))
      (pss_cons (ps_for PassesOwn.never rfl (pi_ownI (ok_Book_iter T) T.g_Book_iter T.fn_Book_iter T.b_Book_iter (hr.mono (by decide)) (pv 1)) (pg_name (i := 3) sc_Errata_call.nd rfl (.inl rfl))
      (pss_cons (ps_setLc (i := 4) (own := [("page", 6), ("row", 7), ("word", 8), ("token", 5)]) (g := gTup K 2 (gCons (gTup K 3 (gCons (gName 6) (gCons (gName 7) (gCons (gName 8) gNil)))) (gCons (gName 5) gNil))) (by rfl) sc_Errata_call.nd rfl rfl (sw_true rfl rfl rfl (by decide +kernel)) (pi_list (pe_meth (pv 0) T.cl_Errata ⟨T.g_Errata_leaf_turns, T.fn_Errata_leaf_turns, T.F_Errata_leaf_turns.kp⟩ (ok_Errata_leaf_turns T) (hr.mono (by decide)) T.b_Errata_leaf_turns .nil pass0 (pa_cons (pv 3) pa_nil))) (blkOk_by (own := [("page", 6), ("row", 7), ("word", 8), ("token", 5)]) (N := N_Errata_call) (sc := defScope s_Errata_call) (by decide +kernel)) (fun _ _ _ _ _ => pg_tup (by rfl) (pgs_cons (pg_tup (by rfl) (pgs_cons (pg_name (i := 6) sc_Errata_call.nd rfl (.inl rfl)) (pgs_cons (pg_name (i := 7) sc_Errata_call.nd rfl (.inl rfl)) (pgs_cons (pg_name (i := 8) sc_Errata_call.nd rfl (.inl rfl)) pgs_nil)))) (pgs_cons (pg_name (i := 5) sc_Errata_call.nd rfl (.inl rfl)) pgs_nil))) (fun _ _ _ _ _ => pts_nil) (fun _ _ _ _ _ => (pe_tup (pa_cons (pe_ix (ix_tupK (K := K) rfl) (pv 6) pe_int (fun _ _ => rfl)) (pa_cons (pv 7) (pa_cons (pv 8) (pa_cons (pv 5) pa_nil)))))))
        (pss_one (ps_expr (pe_bm PySem.F.plainAttrs_list PySem.F.slot_list_append PySem.F.type_list_append mt_append (pv 2) (pa_cons (pe_ifExp (pt_truth (pv 4) (fun _ => rfl)) (pe_meth (pv 3) T.cl_Leaf ⟨T.g_Leaf_penned, T.fn_Leaf_penned, T.F_Leaf_penned.kp⟩ (ok_Leaf_penned T) (hr.mono (by decide)) T.b_Leaf_penned .nil pass0 (pa_cons (pv 4) pa_nil)) (pv 3)) pa_nil))))))
      (pss_one (ps_ret (pe_make ⟨T.ms_Book, T.g_Book_init, T.fn_Book_init, T.kc_Book⟩ (ok_Book_init T) (hr.mono (by decide)) (by rfl) T.cg_Book T.b_Book_init .nil pass0 (pa_cons (pv 2) pa_nil)))))), ?_⟩
    obtain ⟨ok1, l60⟩ := her.ok
    obtain ⟨b, db, l, s, us, rfl, hb, hl, hus, hs, h60⟩ := id hbk
    obtain ⟨x, dx, a, t, us0, rfl, hx, ha, hcs, hta⟩ := id her
    have lus := hus.len
    refine ⟨Nat.zero_le _, fun D nD => ?_⟩
    have s0 := same_upd (o := .lst []) nD
    refine ⟨_, rfl, b, db, l, _, us, rfl, s0 _ _ hb, fBk_leaves, .inl (.inl (s0 _ _ hl)), for_tup (xs := us) (fun i σ' H' => ∃ (y3 y4 : Option V) (ws : List V) (bk' : List Lf), σ' = [some (.ref x), some (.ref b), some (.ref D), y3, y4, none, none, none, none] ∧ Same H H' ∧ H' D = some (.lst ws) ∧ LfAll T.C_Leaf H' ws bk' ∧ CarAllX cs (bk.take i) bk') ⟨none, none, [], [], rfl, s0, upd_same, .nil, .nil⟩ (fun i σ' H' _ hh => by obtain ⟨_, _, _, _, _, s9, _⟩ := hh; exact .inl (.inl (s9 _ _ hl))) ?_ ?_⟩
    · rintro i y σ' H1 hy ⟨y3, y4, ws, bk', rfl, s1, eD, hws, car⟩
      obtain ⟨lf, el, hlf⟩ := hus.get hy
      have hlf1 := hlf.nl (NL.of s1)
      have okl := okb.2.1 lf (List.mem_of_getElem? el)
      have lpl := lpen lf (List.mem_of_getElem? el)
      have tk : bk.take (i + 1) = bk.take i ++ [lf] := by rw [List.take_add_one, el]; rfl
      have li : i < us.length := (List.getElem?_eq_some_iff.mp hy).1
      have lws : ws.length < 1000 := by
        have := hws.len
        have := car.all.len
        rw [List.length_take] at this
        omega
      obtain ⟨z0, dz, la, f, bb, pn, st, rfl, hz, hzr⟩ := id hlf1
      refine ⟨_, rfl, x, dx, _, rfl, s1 _ _ hx, rfl, _, rfl, .ref x, .ref z0, cs, lf, rfl, her.nl (NL.of s1), hlf1, okl, fun p9 us9 H2 s2 np9 hp9 tp9 => ?_⟩
      have lu9 : us9.length = (lturns cs lf).length := by have := tp9.len; rwa [List.length_map] at this
      have l9 := lturns_len cs lf
      refine ⟨p9, rfl, ⟨_, .inl (.inl hp9)⟩, fun D2 nD2 => ?_⟩
      refine lc_tp (lturns cs lf) (fun t => some (dSk (skT t))) (walkL (xs := us9) lu9) nD2 (fun H h => .inl (.inl (h _ _ hp9))) (by omega) ?_ ?_
      · rintro i2 d x2 H3 H4 ed sm ⟨rfl, hx2⟩ R N hR hN
        obtain ⟨e, ee, tx⟩ := tp9.get hx2
        rw [List.getElem?_map, ed] at ee
        cases ee
        obtain ⟨a2, k, pa, la2, rfl, ha2, hk, hpa⟩ := lt_inv (tx.nl (NL.of sm))
        refine ⟨a2, _, rfl, .inl (.inl ha2), rfl, _, _, rfl, ⟨k, _, rfl, .inl (.inl hk), rfl, _, _, rfl, _, _, rfl, _, _, rfl, rfl, _, _, rfl, rfl, rfl, ?_⟩⟩
        refine ⟨_, rfl, pa, _, _, _, rfl, rfl, .inl (.inl hpa), rfl, _, rfl, _, rfl, _, rfl, (by show 4 ≤ sizeLine; decide), fun t nt => ?_⟩
        exact hR _ _ rfl _ (same_upd nt) (.tup upd_same (.cons (.int _) (.cons (.int _) (.cons (.int _) (.cons (.str _) .nil)))))
      rintro H3 ws9 s3 eD2 tw9
      rw [map_fm, show (fun t => dSk (skT t)) = dSk ∘ skT from rfl, ← List.map_map] at tw9
      have s13 := s1.trans (s2.trans s3)
      have eD3 := s3 _ _ (s2 _ _ eD)
      have hws3 := (hws.nl (NL.of s2)).nl (NL.of s3)
      have hlf3 := (hlf1.nl (NL.of s2)).nl (NL.of s3)
      have lw9 := tw9.len
      rw [List.length_map, List.length_map] at lw9
      refine ⟨_, rfl, .inl ⟨rfl, _, .inl (.inl eD3)⟩, _, rfl, _, tru_lst (.inl (.inl eD2)), ?_⟩
      by_cases h0 : lturns cs lf = []
      · rw [h0] at lw9
        have : ws9 = [] := List.length_eq_zero_iff.mp lw9
        subst this
        refine iteF ?_
        refine ⟨_, rfl, D, ws, _, rfl, rfl, eD3, Nat.lt_trans lws (by decide +kernel), ?_⟩
        have m := (NL.refl H3).put eD3 (.lst (ws ++ [.ref z0]))
        refine ⟨_, _, _, bk' ++ [lf], rfl, same_put s13 nD _, upd_same, (hws3.nl m).snoc (hlf3.nl m), ?_⟩
        rw [tk]
        exact car.snoc (CarX.none okl h0)
      · have ne9 : (!ws9.isEmpty) = true := by
          cases ws9 with
          | nil => exact absurd (List.length_eq_zero_iff.mp lw9.symm) h0
          | cons _ _ => rfl
        rw [ne9]
        refine iteT ?_
        have hz3 := s3 _ _ (s2 _ _ hz)
        refine ⟨_, rfl, z0, dz, _, rfl, hz3, fLf_no (by decide +kernel), _, rfl, .ref z0, D2, ws9, lf, (lturns cs lf).map skT, rfl, hlf3, okl, lpl, eD2, tw9, lturns_nodup cs lf, lturns_ok ok1, by rw [List.length_map]; omega, fun v' lf' H5 s5 hl' e1 e2 e3 ok' len' at' => ?_⟩
        have eD5 := s5 _ _ eD3
        refine ⟨D, ws, _, rfl, rfl, eD5, Nat.lt_trans lws (by decide +kernel), ?_⟩
        have m := (NL.refl H5).put eD5 (.lst (ws ++ [v']))
        refine ⟨_, _, _, bk' ++ [lf'], rfl, same_put (s13.trans s5) nD _, upd_same, ((hws3.nl (NL.of s5)).nl m).snoc (hl'.nl m), ?_⟩
        rw [tk]
        exact car.snoc ⟨Car.of ok1 e1 e2 e3 ok' len' at', at'⟩
    · rintro σ' H1 ⟨y3, y4, ws, bk', rfl, s1, eD, hws, car⟩
      rw [lus, List.take_length] at car
      refine ⟨_, rfl, fun x9 dx9 nx ndx ne => ?_⟩
      have sA := mk_same (C := T.C_Book) nx ndx
      refine ⟨x9, dx9, D, ws, bk', rfl, upd_same, sA _ _ eD, hws.nl (NL.of sA), car.all.ok okb, fun H' hB bt => ⟨rfl, ?_⟩⟩
      exact q (.ref x9) bk' H' (mk_after (none_back s1 nx) (s1.trans sA) bt) hB (car.all.ok okb) car
theorem ok_same (T : Tab K mg) : GnOk P w K mg base CX0 9 T.f_same T.d_same ["_law_told", "_law_leaves"] (sp_same K T.C_Leaf T.C_Book) := by
  refine gn_ok T.F_same sc_same (fun vs H Q E h => ?_) (fun cdv A outer s H vs Q E hr hg h => ?_)
  · obtain ⟨v, l, us, bk, n, rfl, _⟩ := h
    rfl
  · obtain ⟨v, l, us, bk, n, rfl, hbk, hl, tu, gb, hn, q⟩ := h
    refine ⟨_, (pss_one (ps_ret (pe_and (pe_callB call_isi (by rfl) T.m_isinstance (by decide +kernel) (pa_cons (pv 0) (pa_cons (pe_glob (v := .ref T.C_Book) (by rfl) T.cg_Book rfl) pa_nil))) (pe_one (pe_callG (ok_is_book T) (hr.mono (by decide)) hg (by rfl) T.g_is_book T.F_is_book.kp T.b_is_book pass0 (pa_cons (pv 0) (pa_cons (pv 1) pa_nil))))))), ?_⟩
    obtain ⟨x, dx, la, s, vs, rfl, hx, _⟩ := id hbk
    refine ⟨_, rfl, _, _, _, _, _, rfl, .own T.C_Book, .base (.ins hx T.cl_Book T.ca_Book T.cn_Book T.ct_Book T.cm_Book), kit_self, true, rfl, iteT ?_⟩
    exact ⟨_, rfl, _, rfl, .ref x, l, us, bk, n, rfl, hbk, hl, tu, gb, hn, q⟩
theorem ok_filed_on (T : Tab K mg) : GnOk P w K mg base CX0 10 T.f_filed_on T.d_filed_on ["_law_listed", "_law_rows", "_law_leaves"] (sp_filed_on K w T.C_Leaf T.C_Book T.C_Errata) := by
  refine gn_ok T.F_filed_on sc_filed_on (fun vs H Q E h => ?_) (fun cdv A outer s H vs Q E hr hg h => ?_)
  · obtain ⟨v, a, l, us, cs, ls, bk, rfl, _⟩ := h
    rfl
  · obtain ⟨v, a, l, us, cs, ls, bk, rfl, her, ha, hcs, hl, tl, gb, q⟩ := h
    refine ⟨_, (pss_cons (ps_set (i := 3) sc_filed_on.nd rfl (.inl rfl) (pe_call (ok_book T) (hr.mono (by decide)) (by rfl) T.g_book T.F_book.kp T.b_book .nil pass0 (pa_cons (pv 2) pa_nil)))
      (pss_cons (ps_set (i := 4) sc_filed_on.nd rfl (.inl rfl) (pe_call (ok_spots T) (hr.mono (by decide)) (by rfl) T.g_spots T.F_spots.kp T.b_spots .nil pass0 (pa_cons (pv 2) pa_nil)))
      (pss_cons (ps_set (i := 5) sc_filed_on.nd rfl (.inl rfl) (pe_call (ok_pens T) (hr.mono (by decide)) (by rfl) T.g_pens T.F_pens.kp T.b_pens .nil pass0 (pa_cons (pv 2) pa_nil)))
      (pss_cons (ps_for PassesOwn.never rfl (pi_list (pv 1)) (pg_name (i := 6) sc_filed_on.nd rfl (.inl rfl))
      (pss_one (ps_expr (pe_call (ok_carry T) (hr.mono (by decide)) (by rfl) T.g_carry T.F_carry.kp T.b_carry .nil pass0 (pa_cons (pv 4) (pa_cons (pv 5) (pa_cons (pv 6) pa_nil)))))))
      (pss_cons (ps_set (i := 7) sc_filed_on.nd rfl (.inl rfl) (StX.pe_callO (pv 0) ⟨T.g_Errata_call, T.fn_Errata_call, T.fi_Errata_call⟩ ((ok_Errata_call T).raw T.b_Errata_call .nil) (hr.mono (by decide)) pass0 (pa_cons (pv 3) pa_nil)))
      (pss_cons (ps_set (i := 8) sc_filed_on.nd rfl (.inl rfl) (pe_call (ok_after T) (hr.mono (by decide)) (by rfl) T.g_after T.F_after.kp T.b_after .nil pass0 (pa_cons (pv 2) (pa_cons (pv 5) pa_nil))))
      (pss_cons (ps_if (PW.pt (pw_or (pt_not (pt_val (pe_callG (ok_same T) (hr.mono (by decide)) hg (by rfl) T.g_same T.F_same.kp T.b_same pass0 (pa_cons (pv 7) (pa_cons (pv 8) pa_nil))))) (pw_or1 (pt_not (pt_val (pe_callG (ok_same T) (hr.mono (by decide)) hg (by rfl) T.g_same T.F_same.kp T.b_same pass0 (pa_cons (pv 3) (pa_cons (pv 2) pa_nil))))))))
      (pss_one (ps_ret pe_bl))
      pss_nil)
      (pss_cons (ps_for PassesOwn.never rfl (pi_list (pv 1)) (pg_name (i := 6) sc_filed_on.nd rfl (.inl rfl))
      (pss_one (ps_expr (pe_call (ok_carry T) (hr.mono (by decide)) (by rfl) T.g_carry T.F_carry.kp T.b_carry .nil pass0 (pa_cons (pv 4) (pa_cons (pv 5) (pa_cons (pv 6) pa_nil)))))))
      (pss_cons (ps_set (i := 9) sc_filed_on.nd rfl (.inl rfl) (StX.pe_callO (pv 0) ⟨T.g_Errata_call, T.fn_Errata_call, T.fi_Errata_call⟩ ((ok_Errata_call T).raw T.b_Errata_call .nil) (hr.mono (by decide)) pass0 (pa_cons (pv 7) pa_nil)))
      (pss_cons (ps_if (pt_not (pt_val (pe_callG (ok_same T) (hr.mono (by decide)) hg (by rfl) T.g_same T.F_same.kp T.b_same pass0 (pa_cons (pv 9) (pa_cons (pe_call (ok_after T) (hr.mono (by decide)) (by rfl) T.g_after T.F_after.kp T.b_after .nil pass0 (pa_cons (pv 2) (pa_cons (pv 5) pa_nil))) pa_nil)))))
      (pss_one (ps_ret pe_bl))
      pss_nil)
      (pss_one (ps_ret (pe_and (pe_callG (ok_same T) (hr.mono (by decide)) hg (by rfl) T.g_same T.F_same.kp T.b_same pass0 (pa_cons (pv 7) (pa_cons (pv 8) pa_nil))) (pe_one (pe_callG (ok_same T) (hr.mono (by decide)) hg (by rfl) T.g_same T.F_same.kp T.b_same pass0 (pa_cons (pv 3) (pa_cons (pv 2) pa_nil))))))))))))))))), ?_⟩
    obtain ⟨x0, dx0, ea, et, eus, rfl, hx0, _⟩ := id her
    refine ⟨_, rfl, l, ls, bk, 3, rfl, hl, tl, gb, by decide, fun B H1 s1 hB => ?_⟩
    refine ⟨_, rfl, l, ls, bk, 3, rfl, s1 _ _ hl, tl.nl (NL.of s1), gb, fun F H2 s2 nF mF => ?_⟩
    have s12 := s1.trans s2
    refine ⟨_, rfl, l, ls, bk, rfl, s12 _ _ hl, tl.nl (NL.of s12), gb, fun G H3 s3 nG mG => ?_⟩
    have s13 := s12.trans s3
    have FG : F ≠ G := fun e => by
      obtain ⟨_, dn, _⟩ := mF
      have := dn.1
      rw [e, nG] at this
      cases this
    have lcs : us.length = cs.length := by have := hcs.1.len; rwa [List.length_map] at this
    have c60 := hcs.2.2
    refine ⟨_, rfl, a, rfl, ⟨_, .inl (.inl (s13 _ _ ha))⟩, for_list (xs := us) (fun i σ' H' => ∃ (y6 : Option V), σ' = [some (.ref x0), some (.ref a), some (.ref l), some B, some (.ref F), some (.ref G), y6, none, none, none] ∧ But G H3 H' ∧ MpAt w H' G ((cs.take i).foldl (carF (prF bk)) (peF bk)) (9 + i)) ⟨none, rfl, But.refl _ _, mG⟩ (fun i σ' H' _ hh => by obtain ⟨_, _, bt, _⟩ := hh; exact .inl (.inl ((s12.trans (But.same nG s3 bt)) _ _ ha))) ?_ ?_⟩
    · rintro i x σ' H4 hx ⟨y6, rfl, bt4, m4⟩
      obtain ⟨d, ed, tx⟩ := hcs.1.get hx
      rw [List.getElem?_map] at ed
      obtain ⟨c, ec, rfl⟩ := Option.map_eq_some_iff.mp ed
      have ic := (List.getElem?_eq_some_iff.mp ec).1
      have s24 := But.same nG s3 bt4
      refine ⟨_, rfl, _, rfl, _, rfl, F, G, x, c, prF bk, _, _, _, rfl, FG, mF.nl (NL.of s24), m4, by omega, tx.nl (NL.of (s12.trans s24)), fun H5 b5 m5 => ?_⟩
      refine ⟨_, rfl, bt4.trans b5, ?_⟩
      rw [List.take_add_one, ec, List.foldl_append]
      exact m5
    rintro σ' H4 ⟨y6, rfl, bt4, m4⟩
    rw [lcs, List.take_length] at m4
    have s24 := But.same nG s3 bt4
    have s14 := s2.trans s24
    have s04 := s12.trans s24
    have okb := gb.ok
    have hrP : PrRel (prF bk) bk := fun lf hlf p => prF_at gb.2.1 hlf p
    have hgP : PenRel (peF bk) bk := peF_rel gb.2.1
    have wd0 : ∀ q z, peF bk q = some z → Wd z := fun q z h => peF_wd gb h
    have wd1 := fold_wd (f := prF bk) hcs.2.1 wd0
    generalize hg1 : cs.foldl (carF (prF bk)) (peF bk) = g1 at m4 wd1
    refine ⟨_, rfl, x0, rfl, _, rfl, .inr ⟨dx0, _, s04 _ _ hx0⟩, .ref x0, B, cs, bk, rfl, her.nl (NL.of s04), hB.nl (NL.of s14), okb, fun lf hlf => Nat.le_trans (gb.2.2 lf hlf).2 (by decide), fun u1 bk1 H5 s5 hb1 ok1 car1 => ?_⟩
    have s05 := s04.trans s5
    have m5 := m4.nl (NL.of s5)
    refine ⟨_, rfl, _, rfl, l, G, ls, bk, g1, 3, _, rfl, s05 _ _ hl, tl.nl (NL.of s05), gb, m5, by omega, fun P us1 bk2 H6 s6 nP eP t1 af1 lb1 => ?_⟩
    have rel1 := carX_rel hrP hgP car1
    rw [hg1] at rel1
    have e12 : bk1 = bk2 := aft_car (f := prF bk) car1 af1 rel1.1
    subst e12
    have gb1 : GBk 69 bk1 := gbk_car gb car1 ok1 rel1.1 wd1 fun lf hlf => Nat.le_trans (lb1 lf hlf) (by omega)
    have s06 := s05.trans s6
    have s16 := (s14.trans s5).trans s6
    refine ⟨_, rfl, _, rfl, u1, P, us1, bk1, 69, rfl, hb1.nl (NL.of s6), eP, t1, gb1, by decide, fun H7 s7 => ⟨true, rfl, iteF ?_⟩⟩
    have s07 := s06.trans s7
    refine ⟨_, rfl, _, rfl, B, l, ls, bk, 3, rfl, hB.nl (NL.of (s16.trans s7)), s07 _ _ hl, tl.nl (NL.of s07), gb, by decide, fun H8 s8 => ⟨true, rfl, iteF ?_⟩⟩
    have s08 := s07.trans s8
    have s68 := s7.trans s8
    have m8 := m5.nl (NL.of (s6.trans s68))
    have s28 : Same H2 H8 := ((s24.trans s5).trans s6).trans s68
    have hb8 := hb1.nl (NL.of (s6.trans s68))
    have eP8 := s68 _ _ eP
    have t8 := t1.nl (NL.of s68)
    have PG : P ≠ G := fun e => by
      obtain ⟨_, dn, _⟩ := m5
      have := dn.1
      rw [← e, nP] at this
      cases this
    have rk : ∀ {H' : Hp}, But G H8 H' → RawK w G H8 H' := fun bt => by
      obtain ⟨_, dn, _⟩ := m8
      exact RawK.of dn.1 bt
    refine ⟨_, rfl, a, rfl, ⟨_, .inl (.inl (s08 _ _ ha))⟩, for_list (xs := us) (fun i σ' H' => ∃ (y6 : Option V), σ' = [some (.ref x0), some (.ref a), some (.ref l), some B, some (.ref F), some (.ref G), y6, some u1, some (.ref P), none] ∧ But G H8 H' ∧ MpAt w H' G ((cs.take i).foldl (carF (prF bk)) g1) (9 + cs.length + i)) ⟨_, rfl, But.refl _ _, m8⟩ (fun i σ' H' _ hh => by obtain ⟨_, _, bt, _⟩ := hh; exact .inl (.inl ((s12.trans (But.same nG s28 bt)) _ _ ha))) ?_ ?_⟩
    · rintro i x σ' H9 hx ⟨y6, rfl, bt9, m9⟩
      obtain ⟨d, ed, tx⟩ := hcs.1.get hx
      rw [List.getElem?_map] at ed
      obtain ⟨c, ec, rfl⟩ := Option.map_eq_some_iff.mp ed
      have ic := (List.getElem?_eq_some_iff.mp ec).1
      have s29 := But.same nG s28 bt9
      refine ⟨_, rfl, _, rfl, _, rfl, F, G, x, c, prF bk, _, _, _, rfl, FG, mF.nl (NL.of s29), m9, by omega, tx.nl (NL.of (s12.trans s29)), fun H5 b5 m5 => ?_⟩
      refine ⟨_, rfl, bt9.trans b5, ?_⟩
      rw [List.take_add_one, ec, List.foldl_append]
      exact m5
    rintro σ' H9 ⟨y6, rfl, bt9, m9⟩
    rw [lcs, List.take_length] at m9
    have s29 := But.same nG s28 bt9
    have s09 := s12.trans s29
    have wd2 := fold_wd (f := prF bk) hcs.2.1 wd1
    generalize hg2 : cs.foldl (carF (prF bk)) g1 = g2 at m9 wd2
    have hb9 := hb8.raw (rk bt9)
    have eP9 := bt9 _ _ PG eP8
    have t9 := TpAll.tups9 (fun c ys e => (rk bt9).tup e) t8
    refine ⟨_, rfl, x0, rfl, _, rfl, .inr ⟨dx0, _, s09 _ _ hx0⟩, .ref x0, u1, cs, bk1, rfl, her.nl (NL.of s09), hb9, ok1, fun lf hlf => Nat.le_trans (gb1.2.2 lf hlf).2 (by decide), fun u2 bk3 H10 s10 hb3 ok3 car3 => ?_⟩
    have s010 := s09.trans s10
    refine ⟨_, rfl, _, rfl, _, rfl, l, G, ls, bk, g2, 3, _, rfl, s010 _ _ hl, tl.nl (NL.of s010), gb, m9.nl (NL.of s10), by omega, fun P2 us2 bk4 H11 s11 nP2 eP2 t2 af2 lb2 => ?_⟩
    have rel2 := carX_rel rel1.2 rel1.1 car3
    rw [hg2] at rel2
    have e34 : bk3 = bk4 := aft_car (f := prF bk) car3 (aft_shift car1 af2) rel2.1
    subst e34
    have gb3 : GBk 129 bk3 := gbk_car gb1 car3 ok3 rel2.1 wd2 fun lf hlf => Nat.le_trans (lb2 lf hlf) (by omega)
    refine ⟨u2, P2, us2, bk3, 129, rfl, hb3.nl (NL.of s11), eP2, t2, gb3, by decide, fun H12 s12' => ⟨true, rfl, iteF ?_⟩⟩
    have s912 := (s10.trans s11).trans s12'
    refine ⟨_, rfl, _, rfl, u1, P, us1, bk1, 69, rfl, hb9.nl (NL.of s912), s912 _ _ eP9, t9.nl (NL.of s912), gb1, by decide, fun H13 s13' => ⟨true, rfl, iteT ?_⟩⟩
    have s913 := s912.trans s13'
    have s013 := s09.trans s913
    have s113 := (s2.trans s29).trans s913
    exact ⟨_, rfl, _, rfl, B, l, ls, bk, 3, rfl, hB.nl (NL.of s113), s013 _ _ hl, tl.nl (NL.of s013), gb, by decide, fun H14 s14' => q H14 (s013.trans s14')⟩
theorem ok_law (T : Tab K mg) : GnOk P w K mg base CX0 11 T.f_law T.d_law ["_law_script"] (sp_law K) := by
  refine gn_ok T.F_law sc_law (fun vs H Q E h => ?_) (fun cdv A outer s H vs Q E hr hg h => ?_)
  · obtain ⟨a, ns, rfl, _⟩ := h
    rfl
  · obtain ⟨a, ns, rfl, hS, hlen, q9⟩ := h
    refine ⟨_, (pss_cons (ps_set (i := 1) sc_law.nd rfl (.inl rfl) (pe_call (ok_source T) (hr.mono (by decide)) (by rfl) T.g_source T.F_source.kp T.b_source .nil pass0 (pa_cons (pv 0) (pa_cons pe_int pa_nil))))
      (pss_cons (ps_set (i := 2) sc_law.nd rfl (.inl rfl) (pe_call (ok_tokens_pool T) (hr.mono (by decide)) (by rfl) T.g_tokens_pool T.F_tokens_pool.kp T.b_tokens_pool .nil pass0 (pa_cons (pv 1) (pa_cons (pe_op op_add pe_int (pe_call (ok_pick T) (hr.mono (by decide)) (by rfl) T.g_pick T.F_pick.kp T.b_pick .nil pass0 (pa_cons (pv 1) (pa_cons pe_int pa_nil)))) pa_nil))))
      (pss_cons (ps_set (i := 3) sc_law.nd rfl (.inl rfl) (pe_call (ok_paper T) (hr.mono (by decide)) (by rfl) T.g_paper T.F_paper.kp T.b_paper .nil pass0 (pa_cons (pv 1) (pa_cons (pe_call (ok_pick T) (hr.mono (by decide)) (by rfl) T.g_pick T.F_pick.kp T.b_pick .nil pass0 (pa_cons (pv 1) (pa_cons pe_int pa_nil))) (pa_cons (pv 2) pa_nil)))))
      (pss_cons (ps_set (i := 4) sc_law.nd rfl (.inl rfl) (pe_call (ok_spots T) (hr.mono (by decide)) (by rfl) T.g_spots T.F_spots.kp T.b_spots .nil pass0 (pa_cons (pv 3) pa_nil)))
      (pss_cons (ps_set (i := 5) sc_law.nd rfl (.inl rfl) (pe_callB (cr_sortedD (un2 hr)) (by rfl) T.m_sorted (by decide +kernel) (pa_cons (pe_callTy (call_listN rfl) (by rfl) T.m_list (by decide +kernel) (pa_cons (pv 4) pa_nil)) pa_nil)))
      (pss_cons (ps_set (i := 6) sc_law.nd rfl (.inl rfl) (pe_call (ok_pens T) (hr.mono (by decide)) (by rfl) T.g_pens T.F_pens.kp T.b_pens .nil pass0 (pa_cons (pv 3) pa_nil)))
      (pss_cons (ps_set (i := 7) sc_law.nd rfl (.inl rfl) (pe_call (ok_pick T) (hr.mono (by decide)) (by rfl) T.g_pick T.F_pick.kp T.b_pick .nil pass0 (pa_cons (pv 1) (pa_cons pe_int pa_nil))))
      (C8.pss_cut (ps_if (pt_cmpR op_eq (pe_call (ok_pick T) (hr.mono (by decide)) (by rfl) T.g_pick T.F_pick.kp T.b_pick .nil pass0 (pa_cons (pv 1) (pa_cons pe_int pa_nil))) pe_int (nomark _))
      (pss_one (ps_set (i := 7) sc_law.nd rfl (.inl rfl) (pe_op op_add pe_int (pe_call (ok_pick T) (hr.mono (by decide)) (by rfl) T.g_pick T.F_pick.kp T.b_pick .nil pass0 (pa_cons (pv 1) (pa_cons pe_int pa_nil))))))
      pss_nil)
      (pss_cons (ps_set (i := 8) sc_law.nd rfl (.inl rfl) (pe_lst pa_nil))
      (pss_cons (ps_for PassesOwn.never rfl (pi_range1 (by rfl) T.m_range (pa_cons (pe_callB (call_max2 rfl) (by rfl) T.m_max (by decide +kernel) (pa_cons (pv 7) (pa_cons (pe_callB (call_min2 rfl) (by rfl) T.m_min (by decide +kernel) (pa_cons pe_int (pa_cons (pe_op op_sub (pe_callB call_len_seq (by rfl) T.m_len PySem.boot_len (pa_cons (pv 0) pa_nil)) pe_int) pa_nil))) pa_nil))) pa_nil)) (pg_name (i := 9) sc_law.nd rfl (.inl rfl))
      (pss_cons (ps_set (i := 10) sc_law.nd rfl (.inl rfl) (pe_call (ok_correction T) (hr.mono (by decide)) (by rfl) T.g_correction T.F_correction.kp T.b_correction .nil pass0 (pa_cons (pe_call (ok_source T) (hr.mono (by decide)) (by rfl) T.g_source T.F_source.kp T.b_source .nil pass0 (pa_cons (pv 0) (pa_cons (pe_op op_add (pv 9) pe_int) pa_nil))) (pa_cons (pv 5) (pa_cons (pv 4) (pa_cons (pv 6) (pa_cons (pv 2) pa_nil)))))))
        (pss_cons (ps_expr (pe_call (ok_carry T) (hr.mono (by decide)) (by rfl) T.g_carry T.F_carry.kp T.b_carry .nil pass0 (pa_cons (pv 4) (pa_cons (pv 6) (pa_cons (pv 10) pa_nil)))))
        (pss_one (ps_expr (pe_bm PySem.F.plainAttrs_list PySem.F.slot_list_append PySem.F.type_list_append mt_append (pv 8) (pa_cons (pv 10) pa_nil)))))))
      (pss_cons (ps_set (i := 11) sc_law.nd rfl (.inl rfl) (pe_make ⟨T.ms_Errata, T.g_Errata_init, T.fn_Errata_init, T.kc_Errata⟩ (ok_Errata_init (w := w) T) (hr.mono (by decide)) (by rfl) T.cg_Errata T.b_Errata_init .nil pass0 (pa_cons (pe_callTy call_list_of (by rfl) T.m_list (by decide +kernel) (pa_cons (pv 8) pa_nil)) pa_nil)))
      (pss_cons (ps_set (i := 12) sc_law.nd rfl (.inl rfl) (pe_call (ok_second T) (hr.mono (by decide)) (by rfl) T.g_second T.F_second.kp T.b_second .nil pass0 (pa_cons (pe_call (ok_source T) (hr.mono (by decide)) (by rfl) T.g_source T.F_source.kp T.b_source .nil pass0 (pa_cons (pv 0) (pa_cons pe_int pa_nil))) (pa_cons (pv 3) (pa_cons (pv 2) pa_nil)))))
      (pss_cons (ps_if (PW.pt (pw_or (pt_not (pt_val (pe_callG (ok_filed_on T) (hr.mono (by decide)) hg (by rfl) T.g_filed_on T.F_filed_on.kp T.b_filed_on pass0 (pa_cons (pv 11) (pa_cons (pv 8) (pa_cons (pv 3) pa_nil)))))) (pw_or1 (pt_not (pt_val (pe_callG (ok_filed_on T) (hr.mono (by decide)) hg (by rfl) T.g_filed_on T.F_filed_on.kp T.b_filed_on pass0 (pa_cons (pv 11) (pa_cons (pv 8) (pa_cons (pv 12) pa_nil)))))))))
      (pss_one (ps_ret pe_bl))
      pss_nil)
      (pss_cons (ps_if (pt_not (pt_val (pe_callG (ok_filed_on T) (hr.mono (by decide)) hg (by rfl) T.g_filed_on T.F_filed_on.kp T.b_filed_on pass0 (pa_cons (pv 11) (pa_cons (pv 8) (pa_cons (pv 3) pa_nil))))))
      (pss_one (ps_ret pe_bl))
      pss_nil)
      (pss_one (ps_ret (pe_cmpR op_eq (pe_callB (call_reprD (by exact hg) (by exact un20 hr)) (by rfl) T.m_repr (by decide +kernel) (pa_cons (pe_fld (pv 11) rfl) pa_nil)) (pe_callB (call_reprD (by exact hg) (by exact un20 hr)) (by rfl) T.m_repr (by decide +kernel) (pa_cons (pe_callTy call_tuple_of (by rfl) T.m_tuple (by decide +kernel) (pa_cons (pv 8) pa_nil)) pa_nil)) (nomark _)))))))))))))))))), ?_⟩
    refine ⟨_, rfl, a, ns, 0, rfl, hS, fun p0 H1 s1 n0 src1 => ?_⟩
    refine ⟨_, rfl, _, rfl, p0, 5, rfl, src1, by decide, by decide, fun m H2 src2 b2 m0 m5 => ⟨_, _, rfl, rfl, p0, 2 + m, rfl, src2, by omega, by omega, fun pl zs H3 src3 b3 npl epl pok => ?_⟩⟩
    have npl0 : pl ≠ p0 := (src2.ne npl).symm
    refine ⟨_, rfl, _, rfl, p0, 4, rfl, src3, by decide, by decide, fun m3 H4 src4 b4 m30 m34 => ⟨_, rfl, p0, pl, zs, m3, rfl, src4, npl0, b4 _ _ npl0 epl, pok, by omega, by omega, fun l ls bk H5 src5 b5 nl el tl gb => ?_⟩⟩
    have nl0 : l ≠ p0 := (src4.ne nl).symm
    refine ⟨_, rfl, l, ls, bk, 3, rfl, el, tl, gb, fun F H6 s6 nF mF => ?_⟩
    obtain ⟨ms, dn, tms, fms, ndm, lms⟩ := id mF
    refine ⟨_, rfl, F, _, rfl, dn, fun P1 n1 => ?_⟩
    have sP1 := same_upd (o := .lst ((kvM ms).map fun e => V.ref e.2.1)) n1
    have eP1 : upd H6 P1 (.lst ((kvM ms).map fun e => V.ref e.2.1)) P1 = some (.lst ((kvM ms).map fun e => V.ref e.2.1)) := upd_same
    generalize upd H6 P1 (.lst ((kvM ms).map fun e => V.ref e.2.1)) = H7 at sP1 eP1
    have tk := tpKeys fun e he => (tms e he).nl (NL.of sP1)
    refine ⟨P1, _, _, rfl, .inl (.inl eP1), tk.dp, allAlike_Q _, sortable_Q _, depth_Q _, fun P nP => ?_⟩
    have sP := same_upd (o := .lst ((srtV ((kvM ms).map fun e => V.ref e.2.1) ((ms.map ME.q).map dQ)).map Prod.fst)) nP
    have eP : upd H7 P (.lst ((srtV ((kvM ms).map fun e => V.ref e.2.1) ((ms.map ME.q).map dQ)).map Prod.fst)) P = some (.lst ((srtV ((kvM ms).map fun e => V.ref e.2.1) ((ms.map ME.q).map dQ)).map Prod.fst)) := upd_same
    have tS := (srt_T tk).nl (NL.of sP)
    generalize upd H7 P (.lst ((srtV ((kvM ms).map fun e => V.ref e.2.1) ((ms.map ME.q).map dQ)).map Prod.fst)) = H8 at sP eP tS
    generalize (srtV ((kvM ms).map fun e => V.ref e.2.1) ((ms.map ME.q).map dQ)).map Prod.fst = pv9 at eP tS
    have pS := sortBy_perm dQ (ms.map ME.q)
    generalize sortBy dQ (ms.map ME.q) = S at tS pS
    have lS : S.length ≤ 3000 := by rw [pS.length_eq, List.length_map]; exact lms
    have okS : ∀ q ∈ S, okQ q := fun q hq => by
      rw [pS.mem_iff, ← atM_some, fms] at hq
      obtain ⟨z, ez⟩ := Option.isSome_iff_exists.mp hq
      exact prF_q gb ez
    have s68 := sP1.trans sP
    have s58 := s6.trans s68
    refine ⟨_, rfl, l, ls, bk, rfl, s58 _ _ el, tl.nl (NL.of s58), gb, fun G H9 s9 nG mG => ?_⟩
    have s59 := s58.trans s9
    have src9 := srcS s59 src5
    have mF9 := mF.nl (NL.of (s68.trans s9))
    have FG : F ≠ G := fun e => by
      have := s68 _ _ dn.1
      rw [e, nG] at this
      cases this
    have PG : P ≠ G := ne_of_none eP nG
    have plG : pl ≠ G := ne_of_none (s58 _ _ (b5 _ _ npl0 (b4 _ _ npl0 epl))) nG
    have lG : l ≠ G := ne_of_none (s58 _ _ el) nG
    have epl9 := s59 _ _ (b5 _ _ npl0 (b4 _ _ npl0 epl))
    have el9 := s59 _ _ el
    have eP9 := s9 _ _ eP
    have tS9 := tS.nl (NL.of s9)
    have tl9 := tl.nl (NL.of s59)
    have nP0 : P ≠ p0 := fun e => by
      have := (srcS (s6.trans sP1) src5).ne nP
      exact this e.symm
    have F0 : F ≠ p0 := (src5.ne nF).symm
    have G0 : G ≠ p0 := ((srcS s58 src5).ne nG).symm
    refine ⟨_, rfl, p0, 9, rfl, src9, by decide, by decide, fun mn H10 src10 b10 mn0 mn9 => ?_⟩
    refine ⟨fun σ' H' => ∃ k : Int, σ' = [some (.ref a), some (.ref p0), some (.ref pl), some (.ref l), some (.ref F), some (.ref P), some (.ref G), some (.int k), none, none, none, none, none] ∧ Src H' p0 ∧ But p0 H9 H' ∧ 0 ≤ k ∧ k ≤ 60, ?_, ?_⟩
    · refine ⟨_, rfl, p0, 8, rfl, src10, by decide, by decide, fun r7 H11 src11 b11 r70 r71 => ⟨rfl, _, rfl, ite2 (fun e => ?_) (fun e => ?_)⟩⟩
      · refine ⟨_, rfl, p0, 21, rfl, src11, by decide, by decide, fun u H12 src12 b12 u0 u1 => ⟨_, _, rfl, rfl, ?_⟩⟩
        exact ⟨_, rfl, src12, (b10.trans b11).trans b12, by omega, by omega⟩
      · exact ⟨mn, rfl, src11, b10.trans b11, by omega, by omega⟩
    rintro σ' HB ⟨k, rfl, srcB, bB, k0, k60⟩
    have n9B : NL H9 HB := src9.nl bB
    have s1B : Same H HB := ((((b2.trans b3).trans b4).trans b5).trans ((But.of s59).trans bB)).same n0 s1
    have mFB := mF9.nl n9B
    have mGB := mG.nl n9B
    have eplB := bB _ _ npl0 epl9
    have elB := bB _ _ nl0 el9
    have ePB := bB _ _ nP0 eP9
    have tSB := tS9.nl n9B
    have tlB := tl9.nl n9B
    refine ⟨Nat.zero_le _, fun R nR => ?_⟩
    have eR0 : upd HB R (.lst []) R = some (.lst []) := upd_same
    have mGC := mGB.nl (NL.of (same_upd (o := .lst []) nR))
    have bt0 : But G HB (upd HB R (.lst [])) := But.of (same_upd nR)
    generalize upd HB R (.lst []) = HC at eR0 mGC bt0
    obtain ⟨msG, dnG, _⟩ := id mGB
    obtain ⟨msF, dnF, _⟩ := id mFB
    have RG : R ≠ G := fun e => by
      have := dnG.1
      rw [← e, nR] at this
      cases this
    have s18 : Same H H8 := ((((b2.trans b3).trans b4).trans b5).trans (But.of s58)).same n0 s1
    have nGH : H G = none := none_of s18 nG
    have wd0 : ∀ q z, peF bk q = some z → Wd z := fun q z h => peF_wd gb h
    have wdF : ∀ q z, prF bk q = some z → Wd z := fun q z h => prF_wd gb h
    have sC : Same H HC := But.same nGH s1B bt0
    refine ⟨_, rfl, _, rfl, _, _, rfl, .inl (sC.seq hS), _, _, rfl, rfl, _, _, rfl, _, _, rfl, ?_⟩
    have ex : ∃ k2 : Int, (if k < (if ((ns.map V.int).length : Int) - 2 < 60 then ((ns.map V.int).length : Int) - 2 else 60) then (if ((ns.map V.int).length : Int) - 2 < 60 then ((ns.map V.int).length : Int) - 2 else 60) else k) = k2 ∧ 0 ≤ k2 ∧ k2 ≤ 60 := ⟨_, rfl, by split <;> split <;> omega, by split <;> split <;> omega⟩
    obtain ⟨k2, e2, k20, k260⟩ := ex
    rw [e2]
    clear e2
    refine ⟨_, rfl, by omega, by omega, for_range (lo := 0) (n := k2.toNat) (fun j σ' H' => ∃ (y9 y10 : Option V) (us : List V) (cs : List Co) (h : MF), σ' = [some (.ref a), some (.ref p0), some (.ref pl), some (.ref l), some (.ref F), some (.ref P), some (.ref G), some (.int k), some (.ref R), y9, y10, none, none] ∧ But G HB H' ∧ H' R = some (.lst us) ∧ TpAll H' us (cs.map dC) ∧ (∀ c ∈ cs, okC c) ∧ cs.length = j ∧ MpAt w H' G h (9 + j) ∧ ∀ q z, h q = some z → Wd z) ⟨none, none, [], [], peF bk, rfl, bt0, eR0, .nil, (fun _ h => nomatch h), rfl, mGC, wd0⟩ ?_ ?_⟩
    · rintro j σ' Hx hj ⟨y9, y10, us, cs, h, rfl, bt, eR, tu, okc, lc, mp, wh⟩
      have rk := RawK.of dnG.1 bt
      have mF' := mFB.raw FG bt (fun c ys e => rk.tup e)
      have eP' := bt _ _ PG ePB
      have epl' := bt _ _ plG eplB
      have tS' := TpAll.tups9 (fun c ys e => rk.tup e) tSB
      have sX : Same H Hx := But.same nGH s1B bt
      refine ⟨_, rfl, _, rfl, _, _, rfl, rfl, a, ns, j + 2, by rw [Int.zero_add]; rfl, sX.seq hS, fun pk H10 s10 n10 src10 => ?_⟩
      have kF : F ≠ pk := fun e => by
        obtain ⟨_, d9, _⟩ := mF'
        have := d9.1
        rw [e, n10] at this
        cases this
      have kG : G ≠ pk := fun e => by
        obtain ⟨_, d9, _⟩ := mp
        have := d9.1
        rw [e, n10] at this
        cases this
      refine ⟨_, rfl, _, rfl, _, rfl, _, rfl, pk, P, F, G, pl, pv9, S, zs, prF bk, h, _, _, rfl, src10, ne_of_none eP' n10, kF, kG, ne_of_none epl' n10, s10 _ _ eP', tS'.nl (NL.of s10), okS, lS, mF'.nl (NL.of s10), mp.nl (NL.of s10), wdF, wh, s10 _ _ epl', pok, fun v x H11 src11 b11 tx okx => ?_⟩
      have s911 : Same Hx H11 := b11.same n10 s10
      have mp11 := mp.nl (NL.of s911)
      refine ⟨_, rfl, _, rfl, _, rfl, F, G, v, x, prF bk, h, _, _, rfl, FG, mF'.nl (NL.of s911), mp11, by omega, tx, fun H12 b12 m12 => ?_⟩
      have eR12 := b12 _ _ RG (s911 _ _ eR)
      obtain ⟨_, d11, _⟩ := mp11
      have rk2 := RawK.of d11.1 b12
      have lu : us.length = cs.length := by have := tu.len; rwa [List.length_map] at this
      have mm := (NL.refl H12).put eR12 (.lst (us ++ [v]))
      refine ⟨_, rfl, .inl ⟨rfl, _, .inl (.inl eR12)⟩, _, rfl, R, _, _, rfl, rfl, eR12, small1000 (by omega), _, _, us ++ [v], cs ++ [x], carF (prF bk) h x, rfl, ?_, upd_same, ?_, ?_, ?_, m12.nl mm, ?_⟩
      · intro b o ne e
        refine (upd_ne (fun z => ?_)).trans (b12 _ _ ne (s911 _ _ (bt _ _ ne e)))
        rw [z, nR] at e
        cases e
      · rw [List.map_append]
        exact ((TpAll.tups9 (fun c ys e => rk2.tup e) (tu.nl (NL.of s911))).nl mm).snoc ((tx.tups fun c ys e => rk2.tup e).nl mm)
      · intro c hc
        rcases List.mem_append.mp hc with h | h
        · exact okc c h
        · rw [List.mem_singleton.mp h]; exact okx
      · rw [List.length_append, lc]; rfl
      · exact fold_wd (f := prF bk) (cs := [x]) (fun c hc => by rw [List.mem_singleton.mp hc]; exact okx) wh
    rintro σ' H9 ⟨y9, y10, us, cs, h, rfl, bt, eR, tu, okc, lc, mp, wh⟩
    have l60 : cs.length ≤ 60 := by omega
    have rk := RawK.of dnG.1 bt
    have epl' := bt _ _ plG eplB
    have el' := bt _ _ lG elB
    have tl' := TpAll.tups9 (fun c ys e => rk.tup e) tlB
    have sX : Same H H9 := But.same nGH s1B bt
    have hcs9 : CsAt H9 us cs := ⟨tu, okc, l60⟩
    refine ⟨_, rfl, R, _, rfl, .inl (.inl (.inl eR)), fun L2 nL2 => ?_⟩
    have s14 := same_upd (o := .lst us) nL2
    have eL2 : upd H9 L2 (.lst us) L2 = some (.lst us) := upd_same
    generalize upd H9 L2 (.lst us) = H14 at s14 eL2
    refine fun x9 dx9 nx ndx ne => ?_
    have sA := mk_same (C := T.C_Errata) nx ndx
    refine ⟨x9, dx9, L2, us, cs, rfl, upd_same, sA _ _ eL2, (hcs9.nl (NL.of s14)).nl (NL.of sA), fun H15 her bte => ⟨rfl, ?_⟩⟩
    have s15 := mk_after nx sA bte
    have s915 := s14.trans s15
    refine ⟨_, rfl, a, ns, 1, rfl, (sX.trans s915).seq hS, fun p1 H16 s16 n1' src16 => ?_⟩
    have s916 := s915.trans s16
    refine ⟨_, rfl, _, rfl, p1, l, pl, ls, bk, zs, 3, rfl, src16, ne_of_none (s915 _ _ epl') n1', ne_of_none (s915 _ _ el') n1', s916 _ _ el', tl'.nl (NL.of s916), gb, s916 _ _ epl', pok, fun l2 ls2 bk2 H17 src17 b17 n2 el2 tl2 gb2 => ?_⟩
    have s1517 : Same H15 H17 := b17.same n1' s16
    have s917 := s915.trans s1517
    have her17 := her.nl (NL.of s1517)
    refine ⟨_, rfl, _, rfl, _, rfl, .ref x9, R, l, us, cs, ls, bk, rfl, her17, s917 _ _ eR, hcs9.nl (NL.of s917), s917 _ _ el', tl'.nl (NL.of s917), gb, fun H18 s18' => ⟨true, rfl, iteF ?_⟩⟩
    have s918 := s917.trans s18'
    refine ⟨_, rfl, _, rfl, _, rfl, .ref x9, R, l2, us, cs, ls2, bk2, rfl, her17.nl (NL.of s18'), s918 _ _ eR, hcs9.nl (NL.of s918), s18' _ _ el2, tl2.nl (NL.of s18'), gb2, fun H19 s19 => ⟨true, rfl, iteF ?_⟩⟩
    have s919 := s918.trans s19
    refine ⟨_, rfl, _, rfl, _, rfl, .ref x9, R, l, us, cs, ls, bk, rfl, her17.nl (NL.of (s18'.trans s19)), s919 _ _ eR, hcs9.nl (NL.of s919), s919 _ _ el', tl'.nl (NL.of s919), gb, fun H20 s20 => ⟨true, rfl, iteF ?_⟩⟩
    have s920 := s919.trans s20
    have her20 := her17.nl (NL.of ((s18'.trans s19).trans s20))
    obtain ⟨xe, dxe, ae, te, ue, exe, hxe, hae, hce, hte⟩ := id her20
    cases exe
    have shT := shown_Cs okc l60
    have sh' := hce.1
    refine ⟨_, rfl, x9, _, dxe, _, _, rfl, hxe, T.cl_Errata, T.na_Errata_corrections, rfl, ?_⟩
    refine ⟨.ref ae, .tuple (cs.map dC), rfl, (Tp.tup hae hce.1).dp, shT.1, shT.2.1, shT.2.2.1, shT.2.2.2, ?_⟩
    refine ⟨_, rfl, R, _, rfl, .inl ⟨.inl (.inl (s920 _ _ eR)), fun T9 nT => ?_⟩⟩
    have s21 := same_upd (o := .tup us) nT
    refine ⟨.ref T9, .tuple (cs.map dC), rfl, (Tp.tup upd_same ((hcs9.nl (NL.of s920)).1.nl (NL.of s21))).dp, shT.1, shT.2.1, shT.2.2.1, shT.2.2.2, rfl, ?_⟩
    rw [decide_eq_true rfl]
    exact q9 _
end
theorem all_mk {l : PySem.W.OpenLaw} {w : World} {K : PySem.W.Frag} {h : Heap} {mg : Str → Option Value} {fa f0 f1 f2 f3 f4 f5 f6 f7 f8 f9 f10 f11 f12 f13 f14 f15 f16 f17 f18 f19 f20 f21 f22 f23 f24 f25 f26 f27 f28 f29 f30 f31 f32 f33 f34 f35 f36 f37 f38 f39 f40 f41 f42 f43 f44 f45 f46 f47 f48 f49 f50 f51 f52 f53 f54 C_Leaf C_Book C_Errata : Addr} (X : K.In h) (G : h.Ns mainGlobals mg) (hfa : mg "law" = some (.ref fa))
    {od0 an0 od1 an1 od2 an2 od3 an3 od4 an4 od5 an5 od6 an6 od7 an7 od8 an8 od9 an9 od10 an10 od11 an11 od12 an12 od13 an13 od14 an14 od15 an15 od16 an16 od17 an17 od18 an18 od19 an19 od20 an20 od21 an21 od22 an22 od23 an23 od24 an24 od25 an25 od26 an26 od27 an27 od28 an28 od29 an29 od30 an30 od31 an31 od32 an32 od33 an33 od34 an34 od35 an35 od36 an36 od37 an37 od38 an38 od39 an39 od40 an40 od41 an41 od42 an42 od43 an43 od44 an44 od45 an45 od46 an46 od47 an47 od48 an48 od49 an49 od50 an50 od51 an51 od52 an52 od53 an53 od54 an54 : Option Addr} {sl0 sl1 sl2 sl3 sl4 sl5 sl6 sl7 sl8 sl9 sl10 sl11 sl12 sl13 sl14 sl15 sl16 sl17 sl18 sl19 sl20 sl21 sl22 sl23 sl24 sl25 sl26 sl27 sl28 sl29 sl30 sl31 sl32 sl33 sl34 sl35 sl36 sl37 sl38 sl39 sl40 sl41 sl42 sl43 sl44 sl45 sl46 sl47 sl48 sl49 sl50 sl51 sl52 sl53 sl54 : Array (Option Value)} {oc0 kV0 dc0 pm0 cd0 ct0 oc1 kV1 dc1 pm1 cd1 ct1 oc2 kV2 dc2 pm2 cd2 ct2 oc3 kV3 dc3 pm3 cd3 ct3 oc4 kV4 dc4 pm4 cd4 ct4 oc5 kV5 dc5 pm5 cd5 ct5 oc6 kV6 dc6 pm6 cd6 ct6 oc7 kV7 dc7 pm7 cd7 ct7 oc8 kV8 dc8 pm8 cd8 ct8 oc9 kV9 dc9 pm9 cd9 ct9 oc10 kV10 dc10 pm10 cd10 ct10 oc11 kV11 dc11 pm11 cd11 ct11 oc12 kV12 dc12 pm12 cd12 ct12 oc13 kV13 dc13 pm13 cd13 ct13 oc14 kV14 dc14 pm14 cd14 ct14 oc15 kV15 dc15 pm15 cd15 ct15 oc16 kV16 dc16 pm16 cd16 ct16 oc17 kV17 dc17 pm17 cd17 ct17 oc18 kV18 dc18 pm18 cd18 ct18 oc19 kV19 dc19 pm19 cd19 ct19 oc20 kV20 dc20 pm20 cd20 ct20 oc21 kV21 dc21 pm21 cd21 ct21 oc22 kV22 dc22 pm22 cd22 ct22 oc23 kV23 dc23 pm23 cd23 ct23 oc24 kV24 dc24 pm24 cd24 ct24 oc25 kV25 dc25 pm25 cd25 ct25 oc26 kV26 dc26 pm26 cd26 ct26 oc27 kV27 dc27 pm27 cd27 ct27 oc28 kV28 dc28 pm28 cd28 ct28 oc29 kV29 dc29 pm29 cd29 ct29 oc30 kV30 dc30 pm30 cd30 ct30 oc31 kV31 dc31 pm31 cd31 ct31 oc32 kV32 dc32 pm32 cd32 ct32 oc33 kV33 dc33 pm33 cd33 ct33 oc34 kV34 dc34 pm34 cd34 ct34 oc35 kV35 dc35 pm35 cd35 ct35 oc36 kV36 dc36 pm36 cd36 ct36 oc37 kV37 dc37 pm37 cd37 ct37 oc38 kV38 dc38 pm38 cd38 ct38 oc39 kV39 dc39 pm39 cd39 ct39 oc40 kV40 dc40 pm40 cd40 ct40 oc41 kV41 dc41 pm41 cd41 ct41 oc42 kV42 dc42 pm42 cd42 ct42 oc43 kV43 dc43 pm43 cd43 ct43 oc44 kV44 dc44 pm44 cd44 ct44 oc45 kV45 dc45 pm45 cd45 ct45 oc46 kV46 dc46 pm46 cd46 ct46 oc47 kV47 dc47 pm47 cd47 ct47 oc48 kV48 dc48 pm48 cd48 ct48 oc49 kV49 dc49 pm49 cd49 ct49 oc50 kV50 dc50 pm50 cd50 ct50 oc51 kV51 dc51 pm51 cd51 ct51 oc52 kV52 dc52 pm52 cd52 ct52 oc53 kV53 dc53 pm53 cd53 ct53 oc54 kV54 dc54 pm54 cd54 ct54 : Value}
    (a0 : PySem.W.nsIn K mainGlobals "is_integer" = some (some (.ref f0))) (l0 : K.lookup f0 = some ⟨oc0, od0, .func (PySem.W.fnOf "is_integer" "is_integer" (defArgs s_is_integer) (defBody s_is_integer) (defScope s_is_integer) .none kV0 dc0 pm0 an0 cd0 ct0), sl0⟩) (c0 : PySem.W.codeIn K cd0 "is_integer" = true) (k0 : PySem.W.keepIn K (.ref f0) = true)
    (a1 : PySem.W.nsIn K mainGlobals "is_within" = some (some (.ref f1))) (l1 : K.lookup f1 = some ⟨oc1, od1, .func (PySem.W.fnOf "is_within" "is_within" (defArgs s_is_within) (defBody s_is_within) (defScope s_is_within) .none kV1 dc1 pm1 an1 cd1 ct1), sl1⟩) (c1 : PySem.W.codeIn K cd1 "is_within" = true) (k1 : PySem.W.keepIn K (.ref f1) = true)
    (a2 : PySem.W.nsIn K mainGlobals "is_tuple" = some (some (.ref f2))) (l2 : K.lookup f2 = some ⟨oc2, od2, .func (PySem.W.fnOf "is_tuple" "is_tuple" (defArgs s_is_tuple) (defBody s_is_tuple) (defScope s_is_tuple) .none kV2 dc2 pm2 an2 cd2 ct2), sl2⟩) (c2 : PySem.W.codeIn K cd2 "is_tuple" = true) (k2 : PySem.W.keepIn K (.ref f2) = true)
    (a3 : PySem.W.nsIn K mainGlobals "is_sized" = some (some (.ref f3))) (l3 : K.lookup f3 = some ⟨oc3, od3, .func (PySem.W.fnOf "is_sized" "is_sized" (defArgs s_is_sized) (defBody s_is_sized) (defScope s_is_sized) .none kV3 dc3 pm3 an3 cd3 ct3), sl3⟩) (c3 : PySem.W.codeIn K cd3 "is_sized" = true) (k3 : PySem.W.keepIn K (.ref f3) = true)
    (a4 : PySem.W.nsIn K mainGlobals "kept_label" = some (some (.ref f4))) (l4 : K.lookup f4 = some ⟨oc4, od4, .func (PySem.W.fnOf "kept_label" "kept_label" (defArgs s_kept_label) (defBody s_kept_label) (defScope s_kept_label) .none kV4 dc4 pm4 an4 cd4 ct4), sl4⟩) (c4 : PySem.W.codeIn K cd4 "kept_label" = true) (k4 : PySem.W.keepIn K (.ref f4) = true)
    (a5 : PySem.W.nsIn K mainGlobals "judged_label" = some (some (.ref f5))) (l5 : K.lookup f5 = some ⟨oc5, od5, .func (PySem.W.fnOf "judged_label" "judged_label" (defArgs s_judged_label) (defBody s_judged_label) (defScope s_judged_label) .none kV5 dc5 pm5 an5 cd5 ct5), sl5⟩) (c5 : PySem.W.codeIn K cd5 "judged_label" = true) (k5 : PySem.W.keepIn K (.ref f5) = true)
    (a6 : PySem.W.nsIn K mainGlobals "kept_page" = some (some (.ref f6))) (l6 : K.lookup f6 = some ⟨oc6, od6, .func (PySem.W.fnOf "kept_page" "kept_page" (defArgs s_kept_page) (defBody s_kept_page) (defScope s_kept_page) .none kV6 dc6 pm6 an6 cd6 ct6), sl6⟩) (c6 : PySem.W.codeIn K cd6 "kept_page" = true) (k6 : PySem.W.keepIn K (.ref f6) = true)
    {eP0 : Addr} {ed0 : Option Addr} {en0 : Nat} {es0 : Array (Option Value)}    {tT7 : Addr} {tc7 : Value} {td7 : Option Addr} {tn7 : Nat} {ts7 : Array (Option Value)}    (a7 : PySem.W.findIn K (.ref C_Leaf) "__init__" = some (some (.ref f7))) (l7 : K.lookup f7 = some ⟨oc7, od7, .func (PySem.W.fnOf "__init__" "Leaf.__init__" (defArgs s_Leaf_init) (defBody s_Leaf_init) (defScope s_Leaf_init) (.ref tT7) kV7 dc7 pm7 an7 cd7 ct7), sl7⟩) (c7 : PySem.W.codeIn K cd7 "Leaf.__init__" = true) (k7 : PySem.W.keepIn K (.ref f7) = true) (lt7 : K.lookup tT7 = some ⟨tc7, td7, .seq ([Value.ref eP0] : List Value).toArray tn7, ts7⟩) (le0 : K.lookup eP0 = some ⟨.type "tuple", ed0, .seq #[] en0, es0⟩)
    (a8 : PySem.W.findIn K (.ref C_Leaf) "side_rows" = some (some (.ref f8))) (l8 : K.lookup f8 = some ⟨oc8, od8, .func (PySem.W.fnOf "side_rows" "Leaf.side_rows" (defArgs s_Leaf_side_rows) (defBody s_Leaf_side_rows) (defScope s_Leaf_side_rows) .none kV8 dc8 pm8 an8 cd8 ct8), sl8⟩) (c8 : PySem.W.codeIn K cd8 "Leaf.side_rows" = true) (k8 : PySem.W.keepIn K (.ref f8) = true)
    (a9 : PySem.W.findIn K (.ref C_Leaf) "says" = some (some (.ref f9))) (l9 : K.lookup f9 = some ⟨oc9, od9, .func (PySem.W.fnOf "says" "Leaf.says" (defArgs s_Leaf_says) (defBody s_Leaf_says) (defScope s_Leaf_says) .none kV9 dc9 pm9 an9 cd9 ct9), sl9⟩) (c9 : PySem.W.codeIn K cd9 "Leaf.says" = true) (k9 : PySem.W.keepIn K (.ref f9) = true)
    (a10 : PySem.W.findIn K (.ref C_Leaf) "penned" = some (some (.ref f10))) (l10 : K.lookup f10 = some ⟨oc10, od10, .func (PySem.W.fnOf "penned" "Leaf.penned" (defArgs s_Leaf_penned) (defBody s_Leaf_penned) (defScope s_Leaf_penned) .none kV10 dc10 pm10 an10 cd10 ct10), sl10⟩) (c10 : PySem.W.codeIn K cd10 "Leaf.penned" = true) (k10 : PySem.W.keepIn K (.ref f10) = true)
    (a11 : PySem.W.nsIn K mainGlobals "is_token" = some (some (.ref f11))) (l11 : K.lookup f11 = some ⟨oc11, od11, .func (PySem.W.fnOf "is_token" "is_token" (defArgs s_is_token) (defBody s_is_token) (defScope s_is_token) .none kV11 dc11 pm11 an11 cd11 ct11), sl11⟩) (c11 : PySem.W.codeIn K cd11 "is_token" = true) (k11 : PySem.W.keepIn K (.ref f11) = true)
    (a12 : PySem.W.nsIn K mainGlobals "_is_row" = some (some (.ref f12))) (l12 : K.lookup f12 = some ⟨oc12, od12, .func (PySem.W.fnOf "_is_row" "_is_row" (defArgs s_is_row) (defBody s_is_row) (defScope s_is_row) .none kV12 dc12 pm12 an12 cd12 ct12), sl12⟩) (c12 : PySem.W.codeIn K cd12 "_is_row" = true) (k12 : PySem.W.keepIn K (.ref f12) = true)
    (a13 : PySem.W.nsIn K mainGlobals "_judged_rows" = some (some (.ref f13))) (l13 : K.lookup f13 = some ⟨oc13, od13, .func (PySem.W.fnOf "_judged_rows" "_judged_rows" (defArgs s_judged_rows) (defBody s_judged_rows) (defScope s_judged_rows) .none kV13 dc13 pm13 an13 cd13 ct13), sl13⟩) (c13 : PySem.W.codeIn K cd13 "_judged_rows" = true) (k13 : PySem.W.keepIn K (.ref f13) = true)
    (a14 : PySem.W.nsIn K mainGlobals "_judged_pen" = some (some (.ref f14))) (l14 : K.lookup f14 = some ⟨oc14, od14, .func (PySem.W.fnOf "_judged_pen" "_judged_pen" (defArgs s_judged_pen) (defBody s_judged_pen) (defScope s_judged_pen) .none kV14 dc14 pm14 an14 cd14 ct14), sl14⟩) (c14 : PySem.W.codeIn K cd14 "_judged_pen" = true) (k14 : PySem.W.keepIn K (.ref f14) = true)
    (a15 : PySem.W.nsIn K mainGlobals "_kept_strokes" = some (some (.ref f15))) (l15 : K.lookup f15 = some ⟨oc15, od15, .func (PySem.W.fnOf "_kept_strokes" "_kept_strokes" (defArgs s_kept_strokes) (defBody s_kept_strokes) (defScope s_kept_strokes) .none kV15 dc15 pm15 an15 cd15 ct15), sl15⟩) (c15 : PySem.W.codeIn K cd15 "_kept_strokes" = true) (k15 : PySem.W.keepIn K (.ref f15) = true)
    (a16 : PySem.W.nsIn K mainGlobals "_is_stroke" = some (some (.ref f16))) (l16 : K.lookup f16 = some ⟨oc16, od16, .func (PySem.W.fnOf "_is_stroke" "_is_stroke" (defArgs s_is_stroke) (defBody s_is_stroke) (defScope s_is_stroke) .none kV16 dc16 pm16 an16 cd16 ct16), sl16⟩) (c16 : PySem.W.codeIn K cd16 "_is_stroke" = true) (k16 : PySem.W.keepIn K (.ref f16) = true)
    (a17 : PySem.W.nsIn K mainGlobals "_is_place" = some (some (.ref f17))) (l17 : K.lookup f17 = some ⟨oc17, od17, .func (PySem.W.fnOf "_is_place" "_is_place" (defArgs s_is_place) (defBody s_is_place) (defScope s_is_place) .none kV17 dc17 pm17 an17 cd17 ct17), sl17⟩) (c17 : PySem.W.codeIn K cd17 "_is_place" = true) (k17 : PySem.W.keepIn K (.ref f17) = true)
    (a18 : PySem.W.findIn K (.ref C_Book) "__init__" = some (some (.ref f18))) (l18 : K.lookup f18 = some ⟨oc18, od18, .func (PySem.W.fnOf "__init__" "Book.__init__" (defArgs s_Book_init) (defBody s_Book_init) (defScope s_Book_init) .none kV18 dc18 pm18 an18 cd18 ct18), sl18⟩) (c18 : PySem.W.codeIn K cd18 "Book.__init__" = true) (k18 : PySem.W.keepIn K (.ref f18) = true)
    (a19 : PySem.W.findIn K (.ref C_Book) "__iter__" = some (some (.ref f19))) (l19 : K.lookup f19 = some ⟨oc19, od19, .func (PySem.W.fnOf "__iter__" "Book.__iter__" (defArgs s_Book_iter) (defBody s_Book_iter) (defScope s_Book_iter) .none kV19 dc19 pm19 an19 cd19 ct19), sl19⟩) (c19 : PySem.W.codeIn K cd19 "Book.__iter__" = true) (k19 : PySem.W.keepIn K (.ref f19) = true)
    (a20 : PySem.W.nsIn K mainGlobals "_judged_leaves" = some (some (.ref f20))) (l20 : K.lookup f20 = some ⟨oc20, od20, .func (PySem.W.fnOf "_judged_leaves" "_judged_leaves" (defArgs s_judged_leaves) (defBody s_judged_leaves) (defScope s_judged_leaves) .none kV20 dc20 pm20 an20 cd20 ct20), sl20⟩) (c20 : PySem.W.codeIn K cd20 "_judged_leaves" = true) (k20 : PySem.W.keepIn K (.ref f20) = true)
    (a21 : PySem.W.findIn K (.ref C_Errata) "__init__" = some (some (.ref f21))) (l21 : K.lookup f21 = some ⟨oc21, od21, .func (PySem.W.fnOf "__init__" "Errata.__init__" (defArgs s_Errata_init) (defBody s_Errata_init) (defScope s_Errata_init) .none kV21 dc21 pm21 an21 cd21 ct21), sl21⟩) (c21 : PySem.W.codeIn K cd21 "Errata.__init__" = true) (k21 : PySem.W.keepIn K (.ref f21) = true)
    (a22 : PySem.W.findIn K (.ref C_Errata) "__call__" = some (some (.ref f22))) (l22 : K.lookup f22 = some ⟨oc22, od22, .func (PySem.W.fnOf "__call__" "Errata.__call__" (defArgs s_Errata_call) (defBody s_Errata_call) (defScope s_Errata_call) .none kV22 dc22 pm22 an22 cd22 ct22), sl22⟩) (c22 : PySem.W.codeIn K cd22 "Errata.__call__" = true) (k22 : PySem.W.keepIn K (.ref f22) = true)
    (a23 : PySem.W.findIn K (.ref C_Errata) "_leaf_turns" = some (some (.ref f23))) (l23 : K.lookup f23 = some ⟨oc23, od23, .func (PySem.W.fnOf "_leaf_turns" "Errata._leaf_turns" (defArgs s_Errata_leaf_turns) (defBody s_Errata_leaf_turns) (defScope s_Errata_leaf_turns) .none kV23 dc23 pm23 an23 cd23 ct23), sl23⟩) (c23 : PySem.W.codeIn K cd23 "Errata._leaf_turns" = true) (k23 : PySem.W.keepIn K (.ref f23) = true)
    (a24 : PySem.W.findIn K (.ref C_Errata) "turned" = some (some (.ref f24))) (l24 : K.lookup f24 = some ⟨oc24, od24, .func (PySem.W.fnOf "turned" "Errata.turned" (defArgs s_Errata_turned) (defBody s_Errata_turned) (defScope s_Errata_turned) .none kV24 dc24 pm24 an24 cd24 ct24), sl24⟩) (c24 : PySem.W.codeIn K cd24 "Errata.turned" = true) (k24 : PySem.W.keepIn K (.ref f24) = true)
    (a25 : PySem.W.nsIn K mainGlobals "_steps" = some (some (.ref f25))) (l25 : K.lookup f25 = some ⟨oc25, od25, .func (PySem.W.fnOf "_steps" "_steps" (defArgs s_steps) (defBody s_steps) (defScope s_steps) .none kV25 dc25 pm25 an25 cd25 ct25), sl25⟩) (c25 : PySem.W.codeIn K cd25 "_steps" = true) (k25 : PySem.W.keepIn K (.ref f25) = true)
    (a26 : PySem.W.nsIn K mainGlobals "_turns_at_places" = some (some (.ref f26))) (l26 : K.lookup f26 = some ⟨oc26, od26, .func (PySem.W.fnOf "_turns_at_places" "_turns_at_places" (defArgs s_turns_at_places) (defBody s_turns_at_places) (defScope s_turns_at_places) .none kV26 dc26 pm26 an26 cd26 ct26), sl26⟩) (c26 : PySem.W.codeIn K cd26 "_turns_at_places" = true) (k26 : PySem.W.keepIn K (.ref f26) = true)
    (a27 : PySem.W.nsIn K mainGlobals "_judged_corrections" = some (some (.ref f27))) (l27 : K.lookup f27 = some ⟨oc27, od27, .func (PySem.W.fnOf "_judged_corrections" "_judged_corrections" (defArgs s_judged_corrections) (defBody s_judged_corrections) (defScope s_judged_corrections) .none kV27 dc27 pm27 an27 cd27 ct27), sl27⟩) (c27 : PySem.W.codeIn K cd27 "_judged_corrections" = true) (k27 : PySem.W.keepIn K (.ref f27) = true)
    (a28 : PySem.W.nsIn K mainGlobals "_kept_correction" = some (some (.ref f28))) (l28 : K.lookup f28 = some ⟨oc28, od28, .func (PySem.W.fnOf "_kept_correction" "_kept_correction" (defArgs s_kept_correction) (defBody s_kept_correction) (defScope s_kept_correction) .none kV28 dc28 pm28 an28 cd28 ct28), sl28⟩) (c28 : PySem.W.codeIn K cd28 "_kept_correction" = true) (k28 : PySem.W.keepIn K (.ref f28) = true)
    (a29 : PySem.W.nsIn K mainGlobals "_law_source" = some (some (.ref f29))) (l29 : K.lookup f29 = some ⟨oc29, od29, .func (PySem.W.fnOf "_law_source" "_law_source" (defArgs s_source) (defBody s_source) (defScope s_source) .none kV29 dc29 pm29 an29 cd29 ct29), sl29⟩) (c29 : PySem.W.codeIn K cd29 "_law_source" = true) (k29 : PySem.W.keepIn K (.ref f29) = true)
    (a30 : PySem.W.nsIn K mainGlobals "_law_pick" = some (some (.ref f30))) (l30 : K.lookup f30 = some ⟨oc30, od30, .func (PySem.W.fnOf "_law_pick" "_law_pick" (defArgs s_pick) (defBody s_pick) (defScope s_pick) .none kV30 dc30 pm30 an30 cd30 ct30), sl30⟩) (c30 : PySem.W.codeIn K cd30 "_law_pick" = true) (k30 : PySem.W.keepIn K (.ref f30) = true)
    (a31 : PySem.W.nsIn K mainGlobals "_law_is_integer" = some (some (.ref f31))) (l31 : K.lookup f31 = some ⟨oc31, od31, .func (PySem.W.fnOf "_law_is_integer" "_law_is_integer" (defArgs s_law_is_integer) (defBody s_law_is_integer) (defScope s_law_is_integer) .none kV31 dc31 pm31 an31 cd31 ct31), sl31⟩) (c31 : PySem.W.codeIn K cd31 "_law_is_integer" = true) (k31 : PySem.W.keepIn K (.ref f31) = true)
    (a32 : PySem.W.nsIn K mainGlobals "_law_is_book" = some (some (.ref f32))) (l32 : K.lookup f32 = some ⟨oc32, od32, .func (PySem.W.fnOf "_law_is_book" "_law_is_book" (defArgs s_is_book) (defBody s_is_book) (defScope s_is_book) .none kV32 dc32 pm32 an32 cd32 ct32), sl32⟩) (c32 : PySem.W.codeIn K cd32 "_law_is_book" = true) (k32 : PySem.W.keepIn K (.ref f32) = true)
    (a33 : PySem.W.nsIn K mainGlobals "_law_deep_tuple" = some (some (.ref f33))) (l33 : K.lookup f33 = some ⟨oc33, od33, .func (PySem.W.fnOf "_law_deep_tuple" "_law_deep_tuple" (defArgs s_deep_tuple) (defBody s_deep_tuple) (defScope s_deep_tuple) .none kV33 dc33 pm33 an33 cd33 ct33), sl33⟩) (c33 : PySem.W.codeIn K cd33 "_law_deep_tuple" = true) (k33 : PySem.W.keepIn K (.ref f33) = true)
    (a34 : PySem.W.nsIn K mainGlobals "_law_leaves_in" = some (some (.ref f34))) (l34 : K.lookup f34 = some ⟨oc34, od34, .func (PySem.W.fnOf "_law_leaves_in" "_law_leaves_in" (defArgs s_leaves_in) (defBody s_leaves_in) (defScope s_leaves_in) .none kV34 dc34 pm34 an34 cd34 ct34), sl34⟩) (c34 : PySem.W.codeIn K cd34 "_law_leaves_in" = true) (k34 : PySem.W.keepIn K (.ref f34) = true)
    (a35 : PySem.W.nsIn K mainGlobals "_law_token" = some (some (.ref f35))) (l35 : K.lookup f35 = some ⟨oc35, od35, .func (PySem.W.fnOf "_law_token" "_law_token" (defArgs s_token) (defBody s_token) (defScope s_token) .none kV35 dc35 pm35 an35 cd35 ct35), sl35⟩) (c35 : PySem.W.codeIn K cd35 "_law_token" = true) (k35 : PySem.W.keepIn K (.ref f35) = true)
    (a36 : PySem.W.nsIn K mainGlobals "_law_other" = some (some (.ref f36))) (l36 : K.lookup f36 = some ⟨oc36, od36, .func (PySem.W.fnOf "_law_other" "_law_other" (defArgs s_other) (defBody s_other) (defScope s_other) .none kV36 dc36 pm36 an36 cd36 ct36), sl36⟩) (c36 : PySem.W.codeIn K cd36 "_law_other" = true) (k36 : PySem.W.keepIn K (.ref f36) = true)
    (a37 : PySem.W.nsIn K mainGlobals "_law_tokens_pool" = some (some (.ref f37))) (l37 : K.lookup f37 = some ⟨oc37, od37, .func (PySem.W.fnOf "_law_tokens_pool" "_law_tokens_pool" (defArgs s_tokens_pool) (defBody s_tokens_pool) (defScope s_tokens_pool) .none kV37 dc37 pm37 an37 cd37 ct37), sl37⟩) (c37 : PySem.W.codeIn K cd37 "_law_tokens_pool" = true) (k37 : PySem.W.keepIn K (.ref f37) = true)
    (a38 : PySem.W.nsIn K mainGlobals "_law_label" = some (some (.ref f38))) (l38 : K.lookup f38 = some ⟨oc38, od38, .func (PySem.W.fnOf "_law_label" "_law_label" (defArgs s_label) (defBody s_label) (defScope s_label) .none kV38 dc38 pm38 an38 cd38 ct38), sl38⟩) (c38 : PySem.W.codeIn K cd38 "_law_label" = true) (k38 : PySem.W.keepIn K (.ref f38) = true)
    (a39 : PySem.W.nsIn K mainGlobals "_law_paper_row" = some (some (.ref f39))) (l39 : K.lookup f39 = some ⟨oc39, od39, .func (PySem.W.fnOf "_law_paper_row" "_law_paper_row" (defArgs s_paper_row) (defBody s_paper_row) (defScope s_paper_row) .none kV39 dc39 pm39 an39 cd39 ct39), sl39⟩) (c39 : PySem.W.codeIn K cd39 "_law_paper_row" = true) (k39 : PySem.W.keepIn K (.ref f39) = true)
    (a40 : PySem.W.nsIn K mainGlobals "_law_side" = some (some (.ref f40))) (l40 : K.lookup f40 = some ⟨oc40, od40, .func (PySem.W.fnOf "_law_side" "_law_side" (defArgs s_side) (defBody s_side) (defScope s_side) .none kV40 dc40 pm40 an40 cd40 ct40), sl40⟩) (c40 : PySem.W.codeIn K cd40 "_law_side" = true) (k40 : PySem.W.keepIn K (.ref f40) = true)
    (a41 : PySem.W.nsIn K mainGlobals "_law_pen" = some (some (.ref f41))) (l41 : K.lookup f41 = some ⟨oc41, od41, .func (PySem.W.fnOf "_law_pen" "_law_pen" (defArgs s_pen) (defBody s_pen) (defScope s_pen) .none kV41 dc41 pm41 an41 cd41 ct41), sl41⟩) (c41 : PySem.W.codeIn K cd41 "_law_pen" = true) (k41 : PySem.W.keepIn K (.ref f41) = true)
    (a42 : PySem.W.nsIn K mainGlobals "_law_paper" = some (some (.ref f42))) (l42 : K.lookup f42 = some ⟨oc42, od42, .func (PySem.W.fnOf "_law_paper" "_law_paper" (defArgs s_paper) (defBody s_paper) (defScope s_paper) .none kV42 dc42 pm42 an42 cd42 ct42), sl42⟩) (c42 : PySem.W.codeIn K cd42 "_law_paper" = true) (k42 : PySem.W.keepIn K (.ref f42) = true)
    (a43 : PySem.W.nsIn K mainGlobals "_law_spots" = some (some (.ref f43))) (l43 : K.lookup f43 = some ⟨oc43, od43, .func (PySem.W.fnOf "_law_spots" "_law_spots" (defArgs s_spots) (defBody s_spots) (defScope s_spots) .none kV43 dc43 pm43 an43 cd43 ct43), sl43⟩) (c43 : PySem.W.codeIn K cd43 "_law_spots" = true) (k43 : PySem.W.keepIn K (.ref f43) = true)
    (a44 : PySem.W.nsIn K mainGlobals "_law_pens" = some (some (.ref f44))) (l44 : K.lookup f44 = some ⟨oc44, od44, .func (PySem.W.fnOf "_law_pens" "_law_pens" (defArgs s_pens) (defBody s_pens) (defScope s_pens) .none kV44 dc44 pm44 an44 cd44 ct44), sl44⟩) (c44 : PySem.W.codeIn K cd44 "_law_pens" = true) (k44 : PySem.W.keepIn K (.ref f44) = true)
    (a45 : PySem.W.nsIn K mainGlobals "_law_says" = some (some (.ref f45))) (l45 : K.lookup f45 = some ⟨oc45, od45, .func (PySem.W.fnOf "_law_says" "_law_says" (defArgs s_says) (defBody s_says) (defScope s_says) .none kV45 dc45 pm45 an45 cd45 ct45), sl45⟩) (c45 : PySem.W.codeIn K cd45 "_law_says" = true) (k45 : PySem.W.keepIn K (.ref f45) = true)
    (a46 : PySem.W.nsIn K mainGlobals "_law_carry" = some (some (.ref f46))) (l46 : K.lookup f46 = some ⟨oc46, od46, .func (PySem.W.fnOf "_law_carry" "_law_carry" (defArgs s_carry) (defBody s_carry) (defScope s_carry) .none kV46 dc46 pm46 an46 cd46 ct46), sl46⟩) (c46 : PySem.W.codeIn K cd46 "_law_carry" = true) (k46 : PySem.W.keepIn K (.ref f46) = true)
    (a47 : PySem.W.nsIn K mainGlobals "_law_after" = some (some (.ref f47))) (l47 : K.lookup f47 = some ⟨oc47, od47, .func (PySem.W.fnOf "_law_after" "_law_after" (defArgs s_after) (defBody s_after) (defScope s_after) .none kV47 dc47 pm47 an47 cd47 ct47), sl47⟩) (c47 : PySem.W.codeIn K cd47 "_law_after" = true) (k47 : PySem.W.keepIn K (.ref f47) = true)
    (a48 : PySem.W.nsIn K mainGlobals "_law_book" = some (some (.ref f48))) (l48 : K.lookup f48 = some ⟨oc48, od48, .func (PySem.W.fnOf "_law_book" "_law_book" (defArgs s_book) (defBody s_book) (defScope s_book) .none kV48 dc48 pm48 an48 cd48 ct48), sl48⟩) (c48 : PySem.W.codeIn K cd48 "_law_book" = true) (k48 : PySem.W.keepIn K (.ref f48) = true)
    (a49 : PySem.W.nsIn K mainGlobals "_law_same" = some (some (.ref f49))) (l49 : K.lookup f49 = some ⟨oc49, od49, .func (PySem.W.fnOf "_law_same" "_law_same" (defArgs s_same) (defBody s_same) (defScope s_same) .none kV49 dc49 pm49 an49 cd49 ct49), sl49⟩) (c49 : PySem.W.codeIn K cd49 "_law_same" = true) (k49 : PySem.W.keepIn K (.ref f49) = true)
    (a50 : PySem.W.nsIn K mainGlobals "_law_spot" = some (some (.ref f50))) (l50 : K.lookup f50 = some ⟨oc50, od50, .func (PySem.W.fnOf "_law_spot" "_law_spot" (defArgs s_spot) (defBody s_spot) (defScope s_spot) .none kV50 dc50 pm50 an50 cd50 ct50), sl50⟩) (c50 : PySem.W.codeIn K cd50 "_law_spot" = true) (k50 : PySem.W.keepIn K (.ref f50) = true)
    (a51 : PySem.W.nsIn K mainGlobals "_law_correction" = some (some (.ref f51))) (l51 : K.lookup f51 = some ⟨oc51, od51, .func (PySem.W.fnOf "_law_correction" "_law_correction" (defArgs s_correction) (defBody s_correction) (defScope s_correction) .none kV51 dc51 pm51 an51 cd51 ct51), sl51⟩) (c51 : PySem.W.codeIn K cd51 "_law_correction" = true) (k51 : PySem.W.keepIn K (.ref f51) = true)
    (a52 : PySem.W.nsIn K mainGlobals "_law_second" = some (some (.ref f52))) (l52 : K.lookup f52 = some ⟨oc52, od52, .func (PySem.W.fnOf "_law_second" "_law_second" (defArgs s_second) (defBody s_second) (defScope s_second) .none kV52 dc52 pm52 an52 cd52 ct52), sl52⟩) (c52 : PySem.W.codeIn K cd52 "_law_second" = true) (k52 : PySem.W.keepIn K (.ref f52) = true)
    (a53 : PySem.W.nsIn K mainGlobals "_law_filed_on" = some (some (.ref f53))) (l53 : K.lookup f53 = some ⟨oc53, od53, .func (PySem.W.fnOf "_law_filed_on" "_law_filed_on" (defArgs s_filed_on) (defBody s_filed_on) (defScope s_filed_on) .none kV53 dc53 pm53 an53 cd53 ct53), sl53⟩) (c53 : PySem.W.codeIn K cd53 "_law_filed_on" = true) (k53 : PySem.W.keepIn K (.ref f53) = true)
    (a54 : PySem.W.nsIn K mainGlobals "law" = some (some (.ref f54))) (l54 : K.lookup f54 = some ⟨oc54, od54, .func (PySem.W.fnOf "law" "law" (defArgs s_law) (defBody s_law) (defScope s_law) .none kV54 dc54 pm54 an54 cd54 ct54), sl54⟩) (c54 : PySem.W.codeIn K cd54 "law" = true) (k54 : PySem.W.keepIn K (.ref f54) = true)
    {t_LONGEST_ROW : Tok} (v_LONGEST_ROW : PySem.W.nsIn K mainGlobals "LONGEST_ROW" = some (some (.int 120 t_LONGEST_ROW)))
    {t_MOST_CORRECTIONS : Tok} (v_MOST_CORRECTIONS : PySem.W.nsIn K mainGlobals "MOST_CORRECTIONS" = some (some (.int 60 t_MOST_CORRECTIONS)))
    {t_MOST_LEAVES : Tok} (v_MOST_LEAVES : PySem.W.nsIn K mainGlobals "MOST_LEAVES" = some (some (.int 60 t_MOST_LEAVES)))
    {t_MOST_PARTS : Tok} (v_MOST_PARTS : PySem.W.nsIn K mainGlobals "MOST_PARTS" = some (some (.int 3 t_MOST_PARTS)))
    {t_MOST_ROWS : Tok} (v_MOST_ROWS : PySem.W.nsIn K mainGlobals "MOST_ROWS" = some (some (.int 12 t_MOST_ROWS)))
    {t_MOST_SIGNS : Tok} (v_MOST_SIGNS : PySem.W.nsIn K mainGlobals "MOST_SIGNS" = some (some (.int 20 t_MOST_SIGNS)))
    {t_MOST_TOKENS : Tok} (v_MOST_TOKENS : PySem.W.nsIn K mainGlobals "MOST_TOKENS" = some (some (.int 30 t_MOST_TOKENS)))
    (z_abs : PySem.W.nsIn K mainGlobals "abs" = some none)
    (z_all : PySem.W.nsIn K mainGlobals "all" = some none)
    (z_bool : PySem.W.nsIn K mainGlobals "bool" = some none)
    (z_enumerate : PySem.W.nsIn K mainGlobals "enumerate" = some none)
    (z_int : PySem.W.nsIn K mainGlobals "int" = some none)
    (z_isinstance : PySem.W.nsIn K mainGlobals "isinstance" = some none)
    (z_iter : PySem.W.nsIn K mainGlobals "iter" = some none)
    (z_len : PySem.W.nsIn K mainGlobals "len" = some none)
    (z_list : PySem.W.nsIn K mainGlobals "list" = some none)
    (z_max : PySem.W.nsIn K mainGlobals "max" = some none)
    (z_min : PySem.W.nsIn K mainGlobals "min" = some none)
    (z_range : PySem.W.nsIn K mainGlobals "range" = some none)
    (z_repr : PySem.W.nsIn K mainGlobals "repr" = some none)
    (z_set : PySem.W.nsIn K mainGlobals "set" = some none)
    (z_sorted : PySem.W.nsIn K mainGlobals "sorted" = some none)
    (z_str : PySem.W.nsIn K mainGlobals "str" = some none)
    (z_sum : PySem.W.nsIn K mainGlobals "sum" = some none)
    (z_tuple : PySem.W.nsIn K mainGlobals "tuple" = some none)
    (z_zip : PySem.W.nsIn K mainGlobals "zip" = some none)
    (h_cg_Errata : PySem.W.nsIn K mainGlobals "Errata" = some (some (.ref C_Errata)))
    (h_cg_Book : PySem.W.nsIn K mainGlobals "Book" = some (some (.ref C_Book)))
    (h_cg_Leaf : PySem.W.nsIn K mainGlobals "Leaf" = some (some (.ref C_Leaf)))
    (h_ms_Leaf : PySem.W.makesIn K C_Leaf = true)
    (h_kc_Leaf : PySem.W.keepIn K (.ref C_Leaf) = true)
    (h_ca_Leaf : PySem.W.findIn K (.ref C_Leaf) "__class__" = some (some (.builtin "object.__class__")))
    (h_cn_Leaf : PySem.W.specialIn K (.builtin "object.__class__") "__get__" = some (some (.builtin "getset_descriptor.__get__")))
    (h_ct_Leaf : PySem.W.takesIn K (.builtin "object.__class__") = some true)
    (h_cm_Leaf : PySem.W.mroIn K C_Leaf (.type "object") = some true)
    (h_ic_Leaf : PySem.W.isClsIn K C_Leaf = true)
    (h_tc_Leaf : PySem.W.typeIn K (.ref C_Leaf) = some (.type "type"))
    (h_na_Leaf_label : PySem.W.findIn K (.ref C_Leaf) "label" = some none)
    (h_na_Leaf_front : PySem.W.findIn K (.ref C_Leaf) "front" = some none)
    (h_na_Leaf_back : PySem.W.findIn K (.ref C_Leaf) "back" = some none)
    (h_na_Leaf_pen : PySem.W.findIn K (.ref C_Leaf) "pen" = some none)
    (h_na_Leaf__strokes : PySem.W.findIn K (.ref C_Leaf) "_strokes" = some none)
    (h_ms_Book : PySem.W.makesIn K C_Book = true)
    (h_kc_Book : PySem.W.keepIn K (.ref C_Book) = true)
    (h_ca_Book : PySem.W.findIn K (.ref C_Book) "__class__" = some (some (.builtin "object.__class__")))
    (h_cn_Book : PySem.W.specialIn K (.builtin "object.__class__") "__get__" = some (some (.builtin "getset_descriptor.__get__")))
    (h_ct_Book : PySem.W.takesIn K (.builtin "object.__class__") = some true)
    (h_cm_Book : PySem.W.mroIn K C_Book (.type "object") = some true)
    (h_ic_Book : PySem.W.isClsIn K C_Book = true)
    (h_tc_Book : PySem.W.typeIn K (.ref C_Book) = some (.type "type"))
    (h_na_Book_leaves : PySem.W.findIn K (.ref C_Book) "leaves" = some none)
    (h_na_Book__spots : PySem.W.findIn K (.ref C_Book) "_spots" = some none)
    (h_ms_Errata : PySem.W.makesIn K C_Errata = true)
    (h_kc_Errata : PySem.W.keepIn K (.ref C_Errata) = true)
    (h_ca_Errata : PySem.W.findIn K (.ref C_Errata) "__class__" = some (some (.builtin "object.__class__")))
    (h_cn_Errata : PySem.W.specialIn K (.builtin "object.__class__") "__get__" = some (some (.builtin "getset_descriptor.__get__")))
    (h_ct_Errata : PySem.W.takesIn K (.builtin "object.__class__") = some true)
    (h_cm_Errata : PySem.W.mroIn K C_Errata (.type "object") = some true)
    (h_ic_Errata : PySem.W.isClsIn K C_Errata = true)
    (h_tc_Errata : PySem.W.typeIn K (.ref C_Errata) = some (.type "type"))
    (h_na_Errata_corrections : PySem.W.findIn K (.ref C_Errata) "corrections" = some none)
    (h_na_Errata__turns : PySem.W.findIn K (.ref C_Errata) "_turns" = some none)
    (h_fn_Leaf_init : PySem.W.isFn K (.ref f7) = true)
    (h_fn_Leaf_side_rows : PySem.W.isFn K (.ref f8) = true)
    (h_fn_Leaf_says : PySem.W.isFn K (.ref f9) = true)
    (h_fn_Leaf_penned : PySem.W.isFn K (.ref f10) = true)
    (h_fn_Book_init : PySem.W.isFn K (.ref f18) = true)
    (h_fn_Book_iter : PySem.W.isFn K (.ref f19) = true)
    (h_fn_Errata_init : PySem.W.isFn K (.ref f21) = true)
    (h_fn_Errata_call : PySem.W.isFn K (.ref f22) = true)
    (h_fi_Errata_call : PySem.W.fnIn K f22 = true)
    (h_fn_Errata_leaf_turns : PySem.W.isFn K (.ref f23) = true)
    (h_fn_Errata_turned : PySem.W.isFn K (.ref f24) = true)
    (h_gf_Errata_turned : PySem.W.specialIn K (.ref f24) "__get__" = some (some (.builtin "function.__get__")))
    (h_tk_Errata_turned : PySem.W.takesIn K (.ref f24) = some false)
    (h_fi_Errata_turned : PySem.W.fnIn K f24 = true)
    (pg_Leaf : PySem.W.plainGet K C_Leaf Str.empty = true)
    (hd_Leaf : PySem.W.hasDictIn K C_Leaf = true)
    (po_Leaf : PySem.W.plainOver K C_Leaf = true)
    (sa_Leaf : PySem.W.findIn K (.ref C_Leaf) "__setattr__" = some (some (.builtin "object.__setattr__")))
    (pg_Book : PySem.W.plainGet K C_Book Str.empty = true)
    (hd_Book : PySem.W.hasDictIn K C_Book = true)
    (po_Book : PySem.W.plainOver K C_Book = true)
    (sa_Book : PySem.W.findIn K (.ref C_Book) "__setattr__" = some (some (.builtin "object.__setattr__")))
    (pg_Errata : PySem.W.plainGet K C_Errata Str.empty = true)
    (hd_Errata : PySem.W.hasDictIn K C_Errata = true)
    (po_Errata : PySem.W.plainOver K C_Errata = true)
    (sa_Errata : PySem.W.findIn K (.ref C_Errata) "__setattr__" = some (some (.builtin "object.__setattr__")))
    : ∃ fd : FuncData, (∀ (s : Shared) (v : Value), BindsTo s fd ⟨[v], []⟩ [("_law_script", v)]) ∧ ∀ base : Heap, K.In base → base.Ns mainGlobals mg → GnOk l.prog w K mg base CX0 11 fa fd ["_law_script"] (sp_law K) := by
  have e := hfa.symm.trans (PySem.W.mg_of X G a54)
  cases e
  have F0 := fun_mk (st := s_is_integer) l0 c0 k0
  have b0 := F0.binds (ps := ["thing"]) fun _ _ _ _ _ _ us hl => match us, hl with | [_], _ => rfl
  have F1 := fun_mk (st := s_is_within) l1 c1 k1
  have b1 := F1.binds (ps := ["thing", "least", "most"]) fun _ _ _ _ _ _ us hl => match us, hl with | [_, _, _], _ => rfl
  have F2 := fun_mk (st := s_is_tuple) l2 c2 k2
  have b2 := F2.binds (ps := ["thing"]) fun _ _ _ _ _ _ us hl => match us, hl with | [_], _ => rfl
  have F3 := fun_mk (st := s_is_sized) l3 c3 k3
  have b3 := F3.binds (ps := ["thing", "least", "most"]) fun _ _ _ _ _ _ us hl => match us, hl with | [_, _, _], _ => rfl
  have F4 := fun_mk (st := s_kept_label) l4 c4 k4
  have b4 := F4.binds (ps := ["thing"]) fun _ _ _ _ _ _ us hl => match us, hl with | [_], _ => rfl
  have F5 := fun_mk (st := s_judged_label) l5 c5 k5
  have b5 := F5.binds (ps := ["thing"]) fun _ _ _ _ _ _ us hl => match us, hl with | [_], _ => rfl
  have F6 := fun_mk (st := s_kept_page) l6 c6 k6
  have b6 := F6.binds (ps := ["thing"]) fun _ _ _ _ _ _ us hl => match us, hl with | [_], _ => rfl
  have F7 : FunD K "__init__" "Leaf.__init__" (defArgs s_Leaf_init) (defBody s_Leaf_init) (defScope s_Leaf_init) [V.ref eP0] [] f7 _ := ⟨⟨_, _, .ref tT7, _, _, _, _, _, _, _, rfl, l7, c7, .inr ⟨by simp, tT7, _, [Value.ref eP0], _, rfl, lt7, rfl, .cons rfl .nil⟩, .inl rfl⟩, k7⟩
  have b7 := leaf_b5 F7
  have F8 := fun_mk (st := s_Leaf_side_rows) l8 c8 k8
  have b8 := F8.binds (ps := ["self", "side"]) fun _ _ _ _ _ _ us hl => match us, hl with | [_, _], _ => rfl
  have F9 := fun_mk (st := s_Leaf_says) l9 c9 k9
  have b9 := F9.binds (ps := ["self", "side", "row", "word"]) fun _ _ _ _ _ _ us hl => match us, hl with | [_, _, _, _], _ => rfl
  have F10 := fun_mk (st := s_Leaf_penned) l10 c10 k10
  have b10 := F10.binds (ps := ["self", "strokes"]) fun _ _ _ _ _ _ us hl => match us, hl with | [_, _], _ => rfl
  have F11 := fun_mk (st := s_is_token) l11 c11 k11
  have b11 := F11.binds (ps := ["thing"]) fun _ _ _ _ _ _ us hl => match us, hl with | [_], _ => rfl
  have F12 := fun_mk (st := s_is_row) l12 c12 k12
  have b12 := F12.binds (ps := ["thing"]) fun _ _ _ _ _ _ us hl => match us, hl with | [_], _ => rfl
  have F13 := fun_mk (st := s_judged_rows) l13 c13 k13
  have b13 := F13.binds (ps := ["rows", "least", "side"]) fun _ _ _ _ _ _ us hl => match us, hl with | [_, _, _], _ => rfl
  have F14 := fun_mk (st := s_judged_pen) l14 c14 k14
  have b14 := F14.binds (ps := ["front", "back", "pen"]) fun _ _ _ _ _ _ us hl => match us, hl with | [_, _, _], _ => rfl
  have F15 := fun_mk (st := s_kept_strokes) l15 c15 k15
  have b15 := F15.binds (ps := ["strokes"]) fun _ _ _ _ _ _ us hl => match us, hl with | [_], _ => rfl
  have F16 := fun_mk (st := s_is_stroke) l16 c16 k16
  have b16 := F16.binds (ps := ["thing"]) fun _ _ _ _ _ _ us hl => match us, hl with | [_], _ => rfl
  have F17 := fun_mk (st := s_is_place) l17 c17 k17
  have b17 := F17.binds (ps := ["front", "back", "place"]) fun _ _ _ _ _ _ us hl => match us, hl with | [_, _, _], _ => rfl
  have F18 := fun_mk (st := s_Book_init) l18 c18 k18
  have b18 := F18.binds (ps := ["self", "leaves"]) fun _ _ _ _ _ _ us hl => match us, hl with | [_, _], _ => rfl
  have F19 := fun_mk (st := s_Book_iter) l19 c19 k19
  have b19 := F19.binds (ps := ["self"]) fun _ _ _ _ _ _ us hl => match us, hl with | [_], _ => rfl
  have F20 := fun_mk (st := s_judged_leaves) l20 c20 k20
  have b20 := F20.binds (ps := ["leaves"]) fun _ _ _ _ _ _ us hl => match us, hl with | [_], _ => rfl
  have F21 := fun_mk (st := s_Errata_init) l21 c21 k21
  have b21 := F21.binds (ps := ["self", "corrections"]) fun _ _ _ _ _ _ us hl => match us, hl with | [_, _], _ => rfl
  have F22 := fun_mk (st := s_Errata_call) l22 c22 k22
  have b22 := F22.binds (ps := ["self", "book"]) fun _ _ _ _ _ _ us hl => match us, hl with | [_, _], _ => rfl
  have F23 := fun_mk (st := s_Errata_leaf_turns) l23 c23 k23
  have b23 := F23.binds (ps := ["self", "leaf"]) fun _ _ _ _ _ _ us hl => match us, hl with | [_, _], _ => rfl
  have F24 := fun_mk (st := s_Errata_turned) l24 c24 k24
  have b24 := F24.binds (ps := ["self", "page", "row", "word", "token"]) fun _ _ _ _ _ _ us hl => match us, hl with | [_, _, _, _, _], _ => rfl
  have F25 := fun_mk (st := s_steps) l25 c25 k25
  have b25 := F25.binds (ps := ["token", "turns"]) fun _ _ _ _ _ _ us hl => match us, hl with | [_, _], _ => rfl
  have F26 := fun_mk (st := s_turns_at_places) l26 c26 k26
  have b26 := F26.binds (ps := ["corrections"]) fun _ _ _ _ _ _ us hl => match us, hl with | [_], _ => rfl
  have F27 := fun_mk (st := s_judged_corrections) l27 c27 k27
  have b27 := F27.binds (ps := ["corrections"]) fun _ _ _ _ _ _ us hl => match us, hl with | [_], _ => rfl
  have F28 := fun_mk (st := s_kept_correction) l28 c28 k28
  have b28 := F28.binds (ps := ["thing"]) fun _ _ _ _ _ _ us hl => match us, hl with | [_], _ => rfl
  have F29 := fun_mk (st := s_source) l29 c29 k29
  have b29 := F29.binds (ps := ["_law_script", "_law_k"]) fun _ _ _ _ _ _ us hl => match us, hl with | [_, _], _ => rfl
  have F30 := fun_mk (st := s_pick) l30 c30 k30
  have b30 := F30.binds (ps := ["_law_source_here", "_law_many"]) fun _ _ _ _ _ _ us hl => match us, hl with | [_, _], _ => rfl
  have F31 := fun_mk (st := s_law_is_integer) l31 c31 k31
  have b31 := F31.binds (ps := ["_law_actual"]) fun _ _ _ _ _ _ us hl => match us, hl with | [_], _ => rfl
  have F32 := fun_mk (st := s_is_book) l32 c32 k32
  have b32 := F32.binds (ps := ["_law_actual", "_law_leaves"]) fun _ _ _ _ _ _ us hl => match us, hl with | [_, _], _ => rfl
  have F33 := fun_mk (st := s_deep_tuple) l33 c33 k33
  have b33 := F33.binds (ps := ["_law_thing"]) fun _ _ _ _ _ _ us hl => match us, hl with | [_], _ => rfl
  have F34 := fun_mk (st := s_leaves_in) l34 c34 k34
  have b34 := F34.binds (ps := ["_law_book_here"]) fun _ _ _ _ _ _ us hl => match us, hl with | [_], _ => rfl
  have F35 := fun_mk (st := s_token) l35 c35 k35
  have b35 := F35.binds (ps := ["_law_source_here", "_law_most"]) fun _ _ _ _ _ _ us hl => match us, hl with | [_, _], _ => rfl
  have F36 := fun_mk (st := s_other) l36 c36 k36
  have b36 := F36.binds (ps := ["_law_token_here"]) fun _ _ _ _ _ _ us hl => match us, hl with | [_], _ => rfl
  have F37 := fun_mk (st := s_tokens_pool) l37 c37 k37
  have b37 := F37.binds (ps := ["_law_source_here", "_law_many"]) fun _ _ _ _ _ _ us hl => match us, hl with | [_, _], _ => rfl
  have F38 := fun_mk (st := s_label) l38 c38 k38
  have b38 := F38.binds (ps := ["_law_source_here"]) fun _ _ _ _ _ _ us hl => match us, hl with | [_], _ => rfl
  have F39 := fun_mk (st := s_paper_row) l39 c39 k39
  have b39 := F39.binds (ps := ["_law_source_here", "_law_pool"]) fun _ _ _ _ _ _ us hl => match us, hl with | [_, _], _ => rfl
  have F40 := fun_mk (st := s_side) l40 c40 k40
  have b40 := F40.binds (ps := ["_law_source_here", "_law_pool", "_law_least"]) fun _ _ _ _ _ _ us hl => match us, hl with | [_, _, _], _ => rfl
  have F41 := fun_mk (st := s_pen) l41 c41 k41
  have b41 := F41.binds (ps := ["_law_source_here", "_law_sides", "_law_pool"]) fun _ _ _ _ _ _ us hl => match us, hl with | [_, _, _], _ => rfl
  have F42 := fun_mk (st := s_paper) l42 c42 k42
  have b42 := F42.binds (ps := ["_law_source_here", "_law_many", "_law_pool"]) fun _ _ _ _ _ _ us hl => match us, hl with | [_, _, _], _ => rfl
  have F43 := fun_mk (st := s_spots) l43 c43 k43
  have b43 := F43.binds (ps := ["_law_leaves"]) fun _ _ _ _ _ _ us hl => match us, hl with | [_], _ => rfl
  have F44 := fun_mk (st := s_pens) l44 c44 k44
  have b44 := F44.binds (ps := ["_law_leaves"]) fun _ _ _ _ _ _ us hl => match us, hl with | [_], _ => rfl
  have F45 := fun_mk (st := s_says) l45 c45 k45
  have b45 := F45.binds (ps := ["_law_spots_here", "_law_pens_here", "_law_spot_here"]) fun _ _ _ _ _ _ us hl => match us, hl with | [_, _, _], _ => rfl
  have F46 := fun_mk (st := s_carry) l46 c46 k46
  have b46 := F46.binds (ps := ["_law_spots_here", "_law_pens_here", "_law_one"]) fun _ _ _ _ _ _ us hl => match us, hl with | [_, _, _], _ => rfl
  have F47 := fun_mk (st := s_after) l47 c47 k47
  have b47 := F47.binds (ps := ["_law_leaves", "_law_pens_here"]) fun _ _ _ _ _ _ us hl => match us, hl with | [_, _], _ => rfl
  have F48 := fun_mk (st := s_book) l48 c48 k48
  have b48 := F48.binds (ps := ["_law_leaves"]) fun _ _ _ _ _ _ us hl => match us, hl with | [_], _ => rfl
  have F49 := fun_mk (st := s_same) l49 c49 k49
  have b49 := F49.binds (ps := ["_law_told", "_law_leaves"]) fun _ _ _ _ _ _ us hl => match us, hl with | [_, _], _ => rfl
  have F50 := fun_mk (st := s_spot) l50 c50 k50
  have b50 := F50.binds (ps := ["_law_source_here", "_law_places"]) fun _ _ _ _ _ _ us hl => match us, hl with | [_, _], _ => rfl
  have F51 := fun_mk (st := s_correction) l51 c51 k51
  have b51 := F51.binds (ps := ["_law_source_here", "_law_places", "_law_spots_here", "_law_pens_here", "_law_pool"]) fun _ _ _ _ _ _ us hl => match us, hl with | [_, _, _, _, _], _ => rfl
  have F52 := fun_mk (st := s_second) l52 c52 k52
  have b52 := F52.binds (ps := ["_law_source_here", "_law_leaves", "_law_pool"]) fun _ _ _ _ _ _ us hl => match us, hl with | [_, _, _], _ => rfl
  have F53 := fun_mk (st := s_filed_on) l53 c53 k53
  have b53 := F53.binds (ps := ["_law_listed", "_law_rows", "_law_leaves"]) fun _ _ _ _ _ _ us hl => match us, hl with | [_, _, _], _ => rfl
  have F54 := fun_mk (st := s_law) l54 c54 k54
  have b54 := F54.binds (ps := ["_law_script"]) fun _ _ _ _ _ _ us hl => match us, hl with | [_], _ => rfl
  let T : Tab K mg := ⟨C_Leaf, C_Book, C_Errata, _, _, F0, b0, PySem.W.mg_of X G a0, _, _, F1, b1, PySem.W.mg_of X G a1, _, _, F2, b2, PySem.W.mg_of X G a2, _, _, F3, b3, PySem.W.mg_of X G a3, _, _, F4, b4, PySem.W.mg_of X G a4, _, _, F5, b5, PySem.W.mg_of X G a5, _, _, F6, b6, PySem.W.mg_of X G a6, eP0, fun H => written_nil le0, _, _, F7, b7, a7, leaf_b4 F7, _, _, F8, b8, a8, _, _, F9, b9, a9, _, _, F10, b10, a10, _, _, F11, b11, PySem.W.mg_of X G a11, _, _, F12, b12, PySem.W.mg_of X G a12, _, _, F13, b13, PySem.W.mg_of X G a13, _, _, F14, b14, PySem.W.mg_of X G a14, _, _, F15, b15, PySem.W.mg_of X G a15, _, _, F16, b16, PySem.W.mg_of X G a16, _, _, F17, b17, PySem.W.mg_of X G a17, _, _, F18, b18, a18, _, _, F19, b19, a19, _, _, F20, b20, PySem.W.mg_of X G a20, _, _, F21, b21, a21, _, _, F22, b22, a22, _, _, F23, b23, a23, _, _, F24, b24, a24, _, _, F25, b25, PySem.W.mg_of X G a25, _, _, F26, b26, PySem.W.mg_of X G a26, _, _, F27, b27, PySem.W.mg_of X G a27, _, _, F28, b28, PySem.W.mg_of X G a28, _, _, F29, b29, PySem.W.mg_of X G a29, _, _, F30, b30, PySem.W.mg_of X G a30, _, _, F31, b31, PySem.W.mg_of X G a31, _, _, F32, b32, PySem.W.mg_of X G a32, _, _, F33, b33, PySem.W.mg_of X G a33, _, _, F34, b34, PySem.W.mg_of X G a34, _, _, F35, b35, PySem.W.mg_of X G a35, _, _, F36, b36, PySem.W.mg_of X G a36, _, _, F37, b37, PySem.W.mg_of X G a37, _, _, F38, b38, PySem.W.mg_of X G a38, _, _, F39, b39, PySem.W.mg_of X G a39, _, _, F40, b40, PySem.W.mg_of X G a40, _, _, F41, b41, PySem.W.mg_of X G a41, _, _, F42, b42, PySem.W.mg_of X G a42, _, _, F43, b43, PySem.W.mg_of X G a43, _, _, F44, b44, PySem.W.mg_of X G a44, _, _, F45, b45, PySem.W.mg_of X G a45, _, _, F46, b46, PySem.W.mg_of X G a46, _, _, F47, b47, PySem.W.mg_of X G a47, _, _, F48, b48, PySem.W.mg_of X G a48, _, _, F49, b49, PySem.W.mg_of X G a49, _, _, F50, b50, PySem.W.mg_of X G a50, _, _, F51, b51, PySem.W.mg_of X G a51, _, _, F52, b52, PySem.W.mg_of X G a52, _, _, F53, b53, PySem.W.mg_of X G a53, _, _, F54, b54, PySem.W.mg_of X G a54, PySem.W.mg_of X G h_cg_Errata, PySem.W.mg_of X G h_cg_Book, PySem.W.mg_of X G h_cg_Leaf, ⟨pg_Leaf, hd_Leaf, po_Leaf, sa_Leaf⟩, h_ms_Leaf, h_kc_Leaf, h_ca_Leaf, h_cn_Leaf, h_ct_Leaf, h_cm_Leaf, h_ic_Leaf, h_tc_Leaf, h_na_Leaf_label, h_na_Leaf_front, h_na_Leaf_back, h_na_Leaf_pen, h_na_Leaf__strokes, ⟨pg_Book, hd_Book, po_Book, sa_Book⟩, h_ms_Book, h_kc_Book, h_ca_Book, h_cn_Book, h_ct_Book, h_cm_Book, h_ic_Book, h_tc_Book, h_na_Book_leaves, h_na_Book__spots, ⟨pg_Errata, hd_Errata, po_Errata, sa_Errata⟩, h_ms_Errata, h_kc_Errata, h_ca_Errata, h_cn_Errata, h_ct_Errata, h_cm_Errata, h_ic_Errata, h_tc_Errata, h_na_Errata_corrections, h_na_Errata__turns, h_fn_Leaf_init, h_fn_Leaf_side_rows, h_fn_Leaf_says, h_fn_Leaf_penned, h_fn_Book_init, h_fn_Book_iter, h_fn_Errata_init, h_fn_Errata_call, h_fi_Errata_call, h_fn_Errata_leaf_turns, h_fn_Errata_turned, h_gf_Errata_turned, h_tk_Errata_turned, h_fi_Errata_turned, _, PySem.W.mg_of X G v_LONGEST_ROW, _, PySem.W.mg_of X G v_MOST_CORRECTIONS, _, PySem.W.mg_of X G v_MOST_LEAVES, _, PySem.W.mg_of X G v_MOST_PARTS, _, PySem.W.mg_of X G v_MOST_ROWS, _, PySem.W.mg_of X G v_MOST_SIGNS, _, PySem.W.mg_of X G v_MOST_TOKENS, PySem.W.mg_none_of X G z_abs, PySem.W.mg_none_of X G z_all, PySem.W.mg_none_of X G z_bool, PySem.W.mg_none_of X G z_enumerate, PySem.W.mg_none_of X G z_int, PySem.W.mg_none_of X G z_isinstance, PySem.W.mg_none_of X G z_iter, PySem.W.mg_none_of X G z_len, PySem.W.mg_none_of X G z_list, PySem.W.mg_none_of X G z_max, PySem.W.mg_none_of X G z_min, PySem.W.mg_none_of X G z_range, PySem.W.mg_none_of X G z_repr, PySem.W.mg_none_of X G z_set, PySem.W.mg_none_of X G z_sorted, PySem.W.mg_none_of X G z_str, PySem.W.mg_none_of X G z_sum, PySem.W.mg_none_of X G z_tuple, PySem.W.mg_none_of X G z_zip⟩
  exact ⟨PySem.W.fnOf "law" "law" (defArgs s_law) (defBody s_law) (defScope s_law) .none kV54 dc54 pm54 an54 cd54 ct54, fun s v => .of_eq rfl, fun base _ _ => ok_law T⟩
def FB0 (K : PySem.W.Frag) : List Bool := [decide (PySem.W.nsIn K mainGlobals "is_integer" = some (some (.ref 203))),
  codeQ K 203 "is_integer",
  PySem.W.keepIn K (.ref 203),
  decide (PySem.W.nsIn K mainGlobals "is_within" = some (some (.ref 210))),
  codeQ K 210 "is_within",
  PySem.W.keepIn K (.ref 210),
  decide (PySem.W.nsIn K mainGlobals "is_tuple" = some (some (.ref 217))),
  codeQ K 217 "is_tuple",
  PySem.W.keepIn K (.ref 217),
  decide (PySem.W.nsIn K mainGlobals "is_sized" = some (some (.ref 224))),
  codeQ K 224 "is_sized",
  PySem.W.keepIn K (.ref 224),
  decide (PySem.W.nsIn K mainGlobals "kept_label" = some (some (.ref 229))),
  codeQ K 229 "kept_label",
  PySem.W.keepIn K (.ref 229),
  decide (PySem.W.nsIn K mainGlobals "judged_label" = some (some (.ref 236))),
  codeQ K 236 "judged_label",
  PySem.W.keepIn K (.ref 236),
  decide (PySem.W.nsIn K mainGlobals "kept_page" = some (some (.ref 243))),
  codeQ K 243 "kept_page",
  PySem.W.keepIn K (.ref 243),
  decide (PySem.W.findIn K (.ref 300) "__init__" = some (some (.ref 257))),
  codeQ K 257 "Leaf.__init__",
  PySem.W.keepIn K (.ref 257),
  seqQ K 252 [Value.ref 251]]
def FB1 (K : PySem.W.Frag) : List Bool := [tupQ K 251,
  decide (PySem.W.findIn K (.ref 300) "side_rows" = some (some (.ref 271))),
  codeQ K 271 "Leaf.side_rows",
  PySem.W.keepIn K (.ref 271),
  decide (PySem.W.findIn K (.ref 300) "says" = some (some (.ref 278))),
  codeQ K 278 "Leaf.says",
  PySem.W.keepIn K (.ref 278),
  decide (PySem.W.findIn K (.ref 300) "penned" = some (some (.ref 297))),
  codeQ K 297 "Leaf.penned",
  PySem.W.keepIn K (.ref 297),
  decide (PySem.W.nsIn K mainGlobals "is_token" = some (some (.ref 311))),
  codeQ K 311 "is_token",
  PySem.W.keepIn K (.ref 311),
  decide (PySem.W.nsIn K mainGlobals "_is_row" = some (some (.ref 316))),
  codeQ K 316 "_is_row",
  PySem.W.keepIn K (.ref 316),
  decide (PySem.W.nsIn K mainGlobals "_judged_rows" = some (some (.ref 321))),
  codeQ K 321 "_judged_rows",
  PySem.W.keepIn K (.ref 321),
  decide (PySem.W.nsIn K mainGlobals "_judged_pen" = some (some (.ref 326))),
  codeQ K 326 "_judged_pen",
  PySem.W.keepIn K (.ref 326),
  decide (PySem.W.nsIn K mainGlobals "_kept_strokes" = some (some (.ref 331))),
  codeQ K 331 "_kept_strokes",
  PySem.W.keepIn K (.ref 331)]
def FB2 (K : PySem.W.Frag) : List Bool := [decide (PySem.W.nsIn K mainGlobals "_is_stroke" = some (some (.ref 338))),
  codeQ K 338 "_is_stroke",
  PySem.W.keepIn K (.ref 338),
  decide (PySem.W.nsIn K mainGlobals "_is_place" = some (some (.ref 345))),
  codeQ K 345 "_is_place",
  PySem.W.keepIn K (.ref 345),
  decide (PySem.W.findIn K (.ref 436) "__init__" = some (some (.ref 357))),
  codeQ K 357 "Book.__init__",
  PySem.W.keepIn K (.ref 357),
  decide (PySem.W.findIn K (.ref 436) "__iter__" = some (some (.ref 391))),
  codeQ K 391 "Book.__iter__",
  PySem.W.keepIn K (.ref 391),
  decide (PySem.W.nsIn K mainGlobals "_judged_leaves" = some (some (.ref 445))),
  codeQ K 445 "_judged_leaves",
  PySem.W.keepIn K (.ref 445),
  decide (PySem.W.findIn K (.ref 514) "__init__" = some (some (.ref 459))),
  codeQ K 459 "Errata.__init__",
  PySem.W.keepIn K (.ref 459),
  decide (PySem.W.findIn K (.ref 514) "__call__" = some (some (.ref 464))),
  codeQ K 464 "Errata.__call__",
  PySem.W.keepIn K (.ref 464),
  decide (PySem.W.findIn K (.ref 514) "_leaf_turns" = some (some (.ref 471))),
  codeQ K 471 "Errata._leaf_turns",
  PySem.W.keepIn K (.ref 471),
  decide (PySem.W.findIn K (.ref 514) "turned" = some (some (.ref 478)))]
def FB3 (K : PySem.W.Frag) : List Bool := [codeQ K 478 "Errata.turned",
  PySem.W.keepIn K (.ref 478),
  decide (PySem.W.nsIn K mainGlobals "_steps" = some (some (.ref 525))),
  codeQ K 525 "_steps",
  PySem.W.keepIn K (.ref 525),
  decide (PySem.W.nsIn K mainGlobals "_turns_at_places" = some (some (.ref 532))),
  codeQ K 532 "_turns_at_places",
  PySem.W.keepIn K (.ref 532),
  decide (PySem.W.nsIn K mainGlobals "_judged_corrections" = some (some (.ref 537))),
  codeQ K 537 "_judged_corrections",
  PySem.W.keepIn K (.ref 537),
  decide (PySem.W.nsIn K mainGlobals "_kept_correction" = some (some (.ref 544))),
  codeQ K 544 "_kept_correction",
  PySem.W.keepIn K (.ref 544),
  decide (PySem.W.nsIn K mainGlobals "_law_source" = some (some (.ref 551))),
  codeQ K 551 "_law_source",
  PySem.W.keepIn K (.ref 551),
  decide (PySem.W.nsIn K mainGlobals "_law_pick" = some (some (.ref 558))),
  codeQ K 558 "_law_pick",
  PySem.W.keepIn K (.ref 558),
  decide (PySem.W.nsIn K mainGlobals "_law_is_integer" = some (some (.ref 565))),
  codeQ K 565 "_law_is_integer",
  PySem.W.keepIn K (.ref 565),
  decide (PySem.W.nsIn K mainGlobals "_law_is_book" = some (some (.ref 570))),
  codeQ K 570 "_law_is_book"]
def FB4 (K : PySem.W.Frag) : List Bool := [PySem.W.keepIn K (.ref 570),
  decide (PySem.W.nsIn K mainGlobals "_law_deep_tuple" = some (some (.ref 575))),
  codeQ K 575 "_law_deep_tuple",
  PySem.W.keepIn K (.ref 575),
  decide (PySem.W.nsIn K mainGlobals "_law_leaves_in" = some (some (.ref 580))),
  codeQ K 580 "_law_leaves_in",
  PySem.W.keepIn K (.ref 580),
  decide (PySem.W.nsIn K mainGlobals "_law_token" = some (some (.ref 587))),
  codeQ K 587 "_law_token",
  PySem.W.keepIn K (.ref 587),
  decide (PySem.W.nsIn K mainGlobals "_law_other" = some (some (.ref 594))),
  codeQ K 594 "_law_other",
  PySem.W.keepIn K (.ref 594),
  decide (PySem.W.nsIn K mainGlobals "_law_tokens_pool" = some (some (.ref 601))),
  codeQ K 601 "_law_tokens_pool",
  PySem.W.keepIn K (.ref 601),
  decide (PySem.W.nsIn K mainGlobals "_law_label" = some (some (.ref 608))),
  codeQ K 608 "_law_label",
  PySem.W.keepIn K (.ref 608),
  decide (PySem.W.nsIn K mainGlobals "_law_paper_row" = some (some (.ref 615))),
  codeQ K 615 "_law_paper_row",
  PySem.W.keepIn K (.ref 615),
  decide (PySem.W.nsIn K mainGlobals "_law_side" = some (some (.ref 620))),
  codeQ K 620 "_law_side",
  PySem.W.keepIn K (.ref 620)]
def FB5 (K : PySem.W.Frag) : List Bool := [decide (PySem.W.nsIn K mainGlobals "_law_pen" = some (some (.ref 625))),
  codeQ K 625 "_law_pen",
  PySem.W.keepIn K (.ref 625),
  decide (PySem.W.nsIn K mainGlobals "_law_paper" = some (some (.ref 632))),
  codeQ K 632 "_law_paper",
  PySem.W.keepIn K (.ref 632),
  decide (PySem.W.nsIn K mainGlobals "_law_spots" = some (some (.ref 639))),
  codeQ K 639 "_law_spots",
  PySem.W.keepIn K (.ref 639),
  decide (PySem.W.nsIn K mainGlobals "_law_pens" = some (some (.ref 646))),
  codeQ K 646 "_law_pens",
  PySem.W.keepIn K (.ref 646),
  decide (PySem.W.nsIn K mainGlobals "_law_says" = some (some (.ref 653))),
  codeQ K 653 "_law_says",
  PySem.W.keepIn K (.ref 653),
  decide (PySem.W.nsIn K mainGlobals "_law_carry" = some (some (.ref 660))),
  codeQ K 660 "_law_carry",
  PySem.W.keepIn K (.ref 660),
  decide (PySem.W.nsIn K mainGlobals "_law_after" = some (some (.ref 667))),
  codeQ K 667 "_law_after",
  PySem.W.keepIn K (.ref 667),
  decide (PySem.W.nsIn K mainGlobals "_law_book" = some (some (.ref 672))),
  codeQ K 672 "_law_book",
  PySem.W.keepIn K (.ref 672),
  decide (PySem.W.nsIn K mainGlobals "_law_same" = some (some (.ref 679)))]
def FB6 (K : PySem.W.Frag) : List Bool := [codeQ K 679 "_law_same",
  PySem.W.keepIn K (.ref 679),
  decide (PySem.W.nsIn K mainGlobals "_law_spot" = some (some (.ref 686))),
  codeQ K 686 "_law_spot",
  PySem.W.keepIn K (.ref 686),
  decide (PySem.W.nsIn K mainGlobals "_law_correction" = some (some (.ref 691))),
  codeQ K 691 "_law_correction",
  PySem.W.keepIn K (.ref 691),
  decide (PySem.W.nsIn K mainGlobals "_law_second" = some (some (.ref 698))),
  codeQ K 698 "_law_second",
  PySem.W.keepIn K (.ref 698),
  decide (PySem.W.nsIn K mainGlobals "_law_filed_on" = some (some (.ref 705))),
  codeQ K 705 "_law_filed_on",
  PySem.W.keepIn K (.ref 705),
  decide (PySem.W.nsIn K mainGlobals "law" = some (some (.ref 712))),
  codeQ K 712 "law",
  PySem.W.keepIn K (.ref 712),
  intQ K "LONGEST_ROW" 120,
  intQ K "MOST_CORRECTIONS" 60,
  intQ K "MOST_LEAVES" 60,
  intQ K "MOST_PARTS" 3,
  intQ K "MOST_ROWS" 12,
  intQ K "MOST_SIGNS" 20,
  intQ K "MOST_TOKENS" 30,
  decide (PySem.W.nsIn K mainGlobals "abs" = some none)]
def FB7 (K : PySem.W.Frag) : List Bool := [decide (PySem.W.nsIn K mainGlobals "all" = some none),
  decide (PySem.W.nsIn K mainGlobals "bool" = some none),
  decide (PySem.W.nsIn K mainGlobals "enumerate" = some none),
  decide (PySem.W.nsIn K mainGlobals "int" = some none),
  decide (PySem.W.nsIn K mainGlobals "isinstance" = some none),
  decide (PySem.W.nsIn K mainGlobals "iter" = some none),
  decide (PySem.W.nsIn K mainGlobals "len" = some none),
  decide (PySem.W.nsIn K mainGlobals "list" = some none),
  decide (PySem.W.nsIn K mainGlobals "max" = some none),
  decide (PySem.W.nsIn K mainGlobals "min" = some none),
  decide (PySem.W.nsIn K mainGlobals "range" = some none),
  decide (PySem.W.nsIn K mainGlobals "repr" = some none),
  decide (PySem.W.nsIn K mainGlobals "set" = some none),
  decide (PySem.W.nsIn K mainGlobals "sorted" = some none),
  decide (PySem.W.nsIn K mainGlobals "str" = some none),
  decide (PySem.W.nsIn K mainGlobals "sum" = some none),
  decide (PySem.W.nsIn K mainGlobals "tuple" = some none),
  decide (PySem.W.nsIn K mainGlobals "zip" = some none),
  decide (PySem.W.nsIn K mainGlobals "Errata" = some (some (.ref 514))),
  decide (PySem.W.nsIn K mainGlobals "Book" = some (some (.ref 436))),
  decide (PySem.W.nsIn K mainGlobals "Leaf" = some (some (.ref 300))),
  PySem.W.makesIn K 300,
  PySem.W.keepIn K (.ref 300),
  decide (PySem.W.findIn K (.ref 300) "__class__" = some (some (.builtin "object.__class__"))),
  decide (PySem.W.specialIn K (.builtin "object.__class__") "__get__" = some (some (.builtin "getset_descriptor.__get__")))]
def FB8 (K : PySem.W.Frag) : List Bool := [decide (PySem.W.takesIn K (.builtin "object.__class__") = some true),
  decide (PySem.W.mroIn K 300 (.type "object") = some true),
  PySem.W.isClsIn K 300,
  decide (PySem.W.typeIn K (.ref 300) = some (.type "type")),
  decide (PySem.W.findIn K (.ref 300) "label" = some none),
  decide (PySem.W.findIn K (.ref 300) "front" = some none),
  decide (PySem.W.findIn K (.ref 300) "back" = some none),
  decide (PySem.W.findIn K (.ref 300) "pen" = some none),
  decide (PySem.W.findIn K (.ref 300) "_strokes" = some none),
  PySem.W.makesIn K 436,
  PySem.W.keepIn K (.ref 436),
  decide (PySem.W.findIn K (.ref 436) "__class__" = some (some (.builtin "object.__class__"))),
  decide (PySem.W.specialIn K (.builtin "object.__class__") "__get__" = some (some (.builtin "getset_descriptor.__get__"))),
  decide (PySem.W.takesIn K (.builtin "object.__class__") = some true),
  decide (PySem.W.mroIn K 436 (.type "object") = some true),
  PySem.W.isClsIn K 436,
  decide (PySem.W.typeIn K (.ref 436) = some (.type "type")),
  decide (PySem.W.findIn K (.ref 436) "leaves" = some none),
  decide (PySem.W.findIn K (.ref 436) "_spots" = some none),
  PySem.W.makesIn K 514,
  PySem.W.keepIn K (.ref 514),
  decide (PySem.W.findIn K (.ref 514) "__class__" = some (some (.builtin "object.__class__"))),
  decide (PySem.W.specialIn K (.builtin "object.__class__") "__get__" = some (some (.builtin "getset_descriptor.__get__"))),
  decide (PySem.W.takesIn K (.builtin "object.__class__") = some true),
  decide (PySem.W.mroIn K 514 (.type "object") = some true)]
def FB9 (K : PySem.W.Frag) : List Bool := [PySem.W.isClsIn K 514,
  decide (PySem.W.typeIn K (.ref 514) = some (.type "type")),
  decide (PySem.W.findIn K (.ref 514) "corrections" = some none),
  decide (PySem.W.findIn K (.ref 514) "_turns" = some none),
  PySem.W.isFn K (.ref 257),
  PySem.W.isFn K (.ref 271),
  PySem.W.isFn K (.ref 278),
  PySem.W.isFn K (.ref 297),
  PySem.W.isFn K (.ref 357),
  PySem.W.isFn K (.ref 391),
  PySem.W.isFn K (.ref 459),
  PySem.W.isFn K (.ref 464),
  PySem.W.fnIn K 464,
  PySem.W.isFn K (.ref 471),
  PySem.W.isFn K (.ref 478),
  decide (PySem.W.specialIn K (.ref 478) "__get__" = some (some (.builtin "function.__get__"))),
  decide (PySem.W.takesIn K (.ref 478) = some false),
  PySem.W.fnIn K 478,
  PySem.W.plainGet K 300 Str.empty,
  PySem.W.hasDictIn K 300,
  PySem.W.plainOver K 300,
  decide (PySem.W.findIn K (.ref 300) "__setattr__" = some (some (.builtin "object.__setattr__"))),
  PySem.W.plainGet K 436 Str.empty,
  PySem.W.hasDictIn K 436,
  PySem.W.plainOver K 436]
def FB10 (K : PySem.W.Frag) : List Bool := [decide (PySem.W.findIn K (.ref 436) "__setattr__" = some (some (.builtin "object.__setattr__"))),
  PySem.W.plainGet K 514 Str.empty,
  PySem.W.hasDictIn K 514,
  PySem.W.plainOver K 514,
  decide (PySem.W.findIn K (.ref 514) "__setattr__" = some (some (.builtin "object.__setattr__")))]
def FBs (K : PySem.W.Frag) : List Bool := FB0 K ++ (FB1 K ++ (FB2 K ++ (FB3 K ++ (FB4 K ++ (FB5 K ++ (FB6 K ++ (FB7 K ++ (FB8 K ++ (FB9 K ++ (FB10 K))))))))))
def FLs : List Addr := [203, 210, 217, 224, 229, 236, 243, 257, 271, 278, 297, 311, 316, 321, 326, 331, 338, 345, 357, 391, 445, 459, 464, 471, 478, 525, 532, 537, 544, 551, 558, 565, 570, 575, 580, 587, 594, 601, 608, 615, 620, 625, 632, 639, 646, 653, 660, 667, 672, 679, 686, 691, 698, 705, 712]
def FVs : List FnQ := [fnV "is_integer" "is_integer" s_is_integer .none,
  fnV "is_within" "is_within" s_is_within .none,
  fnV "is_tuple" "is_tuple" s_is_tuple .none,
  fnV "is_sized" "is_sized" s_is_sized .none,
  fnV "kept_label" "kept_label" s_kept_label .none,
  fnV "judged_label" "judged_label" s_judged_label .none,
  fnV "kept_page" "kept_page" s_kept_page .none,
  fnV "__init__" "Leaf.__init__" s_Leaf_init (.ref 252),
  fnV "side_rows" "Leaf.side_rows" s_Leaf_side_rows .none,
  fnV "says" "Leaf.says" s_Leaf_says .none,
  fnV "penned" "Leaf.penned" s_Leaf_penned .none,
  fnV "is_token" "is_token" s_is_token .none,
  fnV "_is_row" "_is_row" s_is_row .none,
  fnV "_judged_rows" "_judged_rows" s_judged_rows .none,
  fnV "_judged_pen" "_judged_pen" s_judged_pen .none,
  fnV "_kept_strokes" "_kept_strokes" s_kept_strokes .none,
  fnV "_is_stroke" "_is_stroke" s_is_stroke .none,
  fnV "_is_place" "_is_place" s_is_place .none,
  fnV "__init__" "Book.__init__" s_Book_init .none,
  fnV "__iter__" "Book.__iter__" s_Book_iter .none,
  fnV "_judged_leaves" "_judged_leaves" s_judged_leaves .none,
  fnV "__init__" "Errata.__init__" s_Errata_init .none,
  fnV "__call__" "Errata.__call__" s_Errata_call .none,
  fnV "_leaf_turns" "Errata._leaf_turns" s_Errata_leaf_turns .none,
  fnV "turned" "Errata.turned" s_Errata_turned .none,
  fnV "_steps" "_steps" s_steps .none,
  fnV "_turns_at_places" "_turns_at_places" s_turns_at_places .none,
  fnV "_judged_corrections" "_judged_corrections" s_judged_corrections .none,
  fnV "_kept_correction" "_kept_correction" s_kept_correction .none,
  fnV "_law_source" "_law_source" s_source .none,
  fnV "_law_pick" "_law_pick" s_pick .none,
  fnV "_law_is_integer" "_law_is_integer" s_law_is_integer .none,
  fnV "_law_is_book" "_law_is_book" s_is_book .none,
  fnV "_law_deep_tuple" "_law_deep_tuple" s_deep_tuple .none,
  fnV "_law_leaves_in" "_law_leaves_in" s_leaves_in .none,
  fnV "_law_token" "_law_token" s_token .none,
  fnV "_law_other" "_law_other" s_other .none,
  fnV "_law_tokens_pool" "_law_tokens_pool" s_tokens_pool .none,
  fnV "_law_label" "_law_label" s_label .none,
  fnV "_law_paper_row" "_law_paper_row" s_paper_row .none,
  fnV "_law_side" "_law_side" s_side .none,
  fnV "_law_pen" "_law_pen" s_pen .none,
  fnV "_law_paper" "_law_paper" s_paper .none,
  fnV "_law_spots" "_law_spots" s_spots .none,
  fnV "_law_pens" "_law_pens" s_pens .none,
  fnV "_law_says" "_law_says" s_says .none,
  fnV "_law_carry" "_law_carry" s_carry .none,
  fnV "_law_after" "_law_after" s_after .none,
  fnV "_law_book" "_law_book" s_book .none,
  fnV "_law_same" "_law_same" s_same .none,
  fnV "_law_spot" "_law_spot" s_spot .none,
  fnV "_law_correction" "_law_correction" s_correction .none,
  fnV "_law_second" "_law_second" s_second .none,
  fnV "_law_filed_on" "_law_filed_on" s_filed_on .none,
  fnV "law" "law" s_law .none]
def ASs : List Addr := [2, 3, 15, 17, 18, 20, 21, 22, 29, 30, 31, 32, 35, 42, 43, 44, 47, 54, 55, 56, 59, 66, 68, 69, 71, 72, 73, 74, 75, 78, 85, 87, 88, 90, 91, 92, 93, 94, 97, 104, 106, 107, 109, 110, 111, 112, 113, 116, 123, 124, 125, 128, 135, 136, 137, 140, 147, 149, 150, 152, 153, 154, 155, 156, 159, 166, 168, 169, 171, 172, 173, 174, 175, 178, 185, 187, 188, 190, 191, 192, 193, 194, 197, 199, 200, 202, 203, 204, 206, 207, 209, 210, 211, 213, 214, 216, 217, 218, 220, 221, 223, 224, 225, 228, 229, 230, 232, 233, 235, 236, 237, 239, 240, 242, 243, 251, 252, 253, 256, 257, 258, 260, 261, 263, 264, 265, 267, 268, 270, 271, 272, 274, 275, 277, 278, 279, 281, 282, 284, 285, 286, 288, 289, 291, 292, 293, 296, 297, 298, 299, 300, 301, 302, 305, 307, 308, 310, 311, 312, 315, 316, 317, 320, 321, 322, 325, 326, 327, 330, 331, 332, 334, 335, 337, 338, 339, 341, 342, 344, 345, 353, 356, 357, 358, 361, 362, 363, 364, 366, 367, 369, 370, 371, 373, 374, 376, 377, 378, 380, 381, 383, 384, 385, 387, 388, 390, 391, 392, 394, 395, 397, 398, 399, 401, 402, 404, 405, 406, 408, 409, 411, 412, 413, 415, 416, 418, 419, 420, 422, 423, 425, 426, 427, 429, 430, 432, 433, 434, 435, 436, 437, 438, 441, 444, 445, 453, 455, 456, 458, 459, 460, 463, 464, 465, 467, 468, 470, 471, 472, 474, 475, 477, 478, 479, 482, 483, 484, 486, 487, 489, 490, 491, 493, 494, 496, 497, 498, 500, 501, 503, 504, 505, 507, 508, 510, 511, 512, 513, 514, 515, 516, 519, 521, 522, 524, 525, 526, 528, 529, 531, 532, 533, 536, 537, 538, 540, 541, 543, 544, 545, 547, 548, 550, 551, 552, 554, 555, 557, 558, 559, 561, 562, 564, 565, 566, 569, 570, 571, 574, 575, 576, 579, 580, 581, 583, 584, 586, 587, 588, 590, 591, 593, 594, 595, 597, 598, 600, 601, 602, 604, 605, 607, 608, 609, 611, 612, 614, 615, 616, 619, 620, 621, 624, 625, 626, 628, 629, 631, 632, 633, 635, 636, 638, 639, 640, 642, 643, 645, 646, 647, 649, 650, 652, 653, 654, 656, 657, 659, 660, 661, 663, 664, 666, 667, 668, 671, 672, 673, 675, 676, 678, 679, 680, 682, 683, 685, 686, 687, 690, 691, 692, 694, 695, 697, 698, 699, 701, 702, 704, 705, 706, 708, 709, 711, 712]
def LN0 : List Str := ["_wall", "AfterError", "BadForm", "NotThere", "BadLabel", "BadOrder", "BadLeaf", "BadBook", "BadErrata", "BadCorrection", "Unknown", "TooMany", "is_integer", "is_within", "is_tuple", "is_sized", "kept_label", "judged_label", "kept_page", "Leaf", "is_token", "_is_row", "_judged_rows", "_judged_pen", "_kept_strokes", "_is_stroke", "_is_place", "Book", "_judged_leaves", "Errata"]
def LN1 : List Str := ["_steps", "_turns_at_places", "_judged_corrections", "_kept_correction", "_law_source", "_law_pick", "_law_is_integer", "_law_is_book", "_law_deep_tuple", "_law_leaves_in", "_law_token", "_law_other", "_law_tokens_pool", "_law_label", "_law_paper_row", "_law_side", "_law_pen", "_law_paper", "_law_spots", "_law_pens", "_law_says", "_law_carry", "_law_after", "_law_book", "_law_same", "_law_spot", "_law_correction", "_law_second", "_law_filed_on", "MOST_PARTS"]
def LN2 : List Str := ["MOST_ROWS", "MOST_TOKENS", "MOST_SIGNS", "LONGEST_ROW", "MOST_LEAVES", "MOST_CORRECTIONS"]
def LNs : List Str := LN0 ++ LN1 ++ LN2
theorem all_q {l : PySem.W.OpenLaw} {w : World} {K : PySem.W.Frag} {h : Heap} {mg : Str → Option Value} {fa : Addr} (X : K.In h) (G : h.Ns mainGlobals mg) (hfa : mg "law" = some (.ref fa)) (c : obsQ FBs FLs K = (true, FVs))
    : ∃ fd : FuncData, (∀ (s : Shared) (v : Value), BindsTo s fd ⟨[v], []⟩ [("_law_script", v)]) ∧ ∀ base : Heap, K.In base → base.Ns mainGlobals mg → GnOk l.prog w K mg base CX0 11 fa fd ["_law_script"] (sp_law K) := by
  have cf : FLs.map (fnQ K) = FVs := congrArg (fun z : AlQ => z.2) c
  have d0 : (FBs K).all id = true := congrArg (fun z : AlQ => z.1) c
  obtain ⟨c0, d1⟩ := fb_app d0
  obtain ⟨c1, d2⟩ := fb_app d1
  obtain ⟨c2, d3⟩ := fb_app d2
  obtain ⟨c3, d4⟩ := fb_app d3
  obtain ⟨c4, d5⟩ := fb_app d4
  obtain ⟨c5, d6⟩ := fb_app d5
  obtain ⟨c6, d7⟩ := fb_app d6
  obtain ⟨c7, d8⟩ := fb_app d7
  obtain ⟨c8, d9⟩ := fb_app d8
  obtain ⟨c9, d10⟩ := fb_app d9
  have c10 := d10
  obtain ⟨_, _, _, _, _, _, _, _, _, l0, c0_⟩ := fnQ_ok (fl_at cf 0 rfl rfl) (fb_at c0 1 rfl)
  obtain ⟨_, _, _, _, _, _, _, _, _, l1, c1_⟩ := fnQ_ok (fl_at cf 1 rfl rfl) (fb_at c0 4 rfl)
  obtain ⟨_, _, _, _, _, _, _, _, _, l2, c2_⟩ := fnQ_ok (fl_at cf 2 rfl rfl) (fb_at c0 7 rfl)
  obtain ⟨_, _, _, _, _, _, _, _, _, l3, c3_⟩ := fnQ_ok (fl_at cf 3 rfl rfl) (fb_at c0 10 rfl)
  obtain ⟨_, _, _, _, _, _, _, _, _, l4, c4_⟩ := fnQ_ok (fl_at cf 4 rfl rfl) (fb_at c0 13 rfl)
  obtain ⟨_, _, _, _, _, _, _, _, _, l5, c5_⟩ := fnQ_ok (fl_at cf 5 rfl rfl) (fb_at c0 16 rfl)
  obtain ⟨_, _, _, _, _, _, _, _, _, l6, c6_⟩ := fnQ_ok (fl_at cf 6 rfl rfl) (fb_at c0 19 rfl)
  obtain ⟨_, _, _, _, _, _, _, _, _, l7, c7_⟩ := fnQ_ok (fl_at cf 7 rfl rfl) (fb_at c0 22 rfl)
  obtain ⟨_, _, _, _, lt7⟩ := seqQ_ok (fb_at c0 24 rfl)
  obtain ⟨_, _, _, le0⟩ := tupQ_ok (fb_at c1 0 rfl)
  obtain ⟨_, _, _, _, _, _, _, _, _, l8, c8_⟩ := fnQ_ok (fl_at cf 8 rfl rfl) (fb_at c1 2 rfl)
  obtain ⟨_, _, _, _, _, _, _, _, _, l9, c9_⟩ := fnQ_ok (fl_at cf 9 rfl rfl) (fb_at c1 5 rfl)
  obtain ⟨_, _, _, _, _, _, _, _, _, l10, c10_⟩ := fnQ_ok (fl_at cf 10 rfl rfl) (fb_at c1 8 rfl)
  obtain ⟨_, _, _, _, _, _, _, _, _, l11, c11_⟩ := fnQ_ok (fl_at cf 11 rfl rfl) (fb_at c1 11 rfl)
  obtain ⟨_, _, _, _, _, _, _, _, _, l12, c12_⟩ := fnQ_ok (fl_at cf 12 rfl rfl) (fb_at c1 14 rfl)
  obtain ⟨_, _, _, _, _, _, _, _, _, l13, c13_⟩ := fnQ_ok (fl_at cf 13 rfl rfl) (fb_at c1 17 rfl)
  obtain ⟨_, _, _, _, _, _, _, _, _, l14, c14_⟩ := fnQ_ok (fl_at cf 14 rfl rfl) (fb_at c1 20 rfl)
  obtain ⟨_, _, _, _, _, _, _, _, _, l15, c15_⟩ := fnQ_ok (fl_at cf 15 rfl rfl) (fb_at c1 23 rfl)
  obtain ⟨_, _, _, _, _, _, _, _, _, l16, c16_⟩ := fnQ_ok (fl_at cf 16 rfl rfl) (fb_at c2 1 rfl)
  obtain ⟨_, _, _, _, _, _, _, _, _, l17, c17_⟩ := fnQ_ok (fl_at cf 17 rfl rfl) (fb_at c2 4 rfl)
  obtain ⟨_, _, _, _, _, _, _, _, _, l18, c18_⟩ := fnQ_ok (fl_at cf 18 rfl rfl) (fb_at c2 7 rfl)
  obtain ⟨_, _, _, _, _, _, _, _, _, l19, c19_⟩ := fnQ_ok (fl_at cf 19 rfl rfl) (fb_at c2 10 rfl)
  obtain ⟨_, _, _, _, _, _, _, _, _, l20, c20_⟩ := fnQ_ok (fl_at cf 20 rfl rfl) (fb_at c2 13 rfl)
  obtain ⟨_, _, _, _, _, _, _, _, _, l21, c21_⟩ := fnQ_ok (fl_at cf 21 rfl rfl) (fb_at c2 16 rfl)
  obtain ⟨_, _, _, _, _, _, _, _, _, l22, c22_⟩ := fnQ_ok (fl_at cf 22 rfl rfl) (fb_at c2 19 rfl)
  obtain ⟨_, _, _, _, _, _, _, _, _, l23, c23_⟩ := fnQ_ok (fl_at cf 23 rfl rfl) (fb_at c2 22 rfl)
  obtain ⟨_, _, _, _, _, _, _, _, _, l24, c24_⟩ := fnQ_ok (fl_at cf 24 rfl rfl) (fb_at c3 0 rfl)
  obtain ⟨_, _, _, _, _, _, _, _, _, l25, c25_⟩ := fnQ_ok (fl_at cf 25 rfl rfl) (fb_at c3 3 rfl)
  obtain ⟨_, _, _, _, _, _, _, _, _, l26, c26_⟩ := fnQ_ok (fl_at cf 26 rfl rfl) (fb_at c3 6 rfl)
  obtain ⟨_, _, _, _, _, _, _, _, _, l27, c27_⟩ := fnQ_ok (fl_at cf 27 rfl rfl) (fb_at c3 9 rfl)
  obtain ⟨_, _, _, _, _, _, _, _, _, l28, c28_⟩ := fnQ_ok (fl_at cf 28 rfl rfl) (fb_at c3 12 rfl)
  obtain ⟨_, _, _, _, _, _, _, _, _, l29, c29_⟩ := fnQ_ok (fl_at cf 29 rfl rfl) (fb_at c3 15 rfl)
  obtain ⟨_, _, _, _, _, _, _, _, _, l30, c30_⟩ := fnQ_ok (fl_at cf 30 rfl rfl) (fb_at c3 18 rfl)
  obtain ⟨_, _, _, _, _, _, _, _, _, l31, c31_⟩ := fnQ_ok (fl_at cf 31 rfl rfl) (fb_at c3 21 rfl)
  obtain ⟨_, _, _, _, _, _, _, _, _, l32, c32_⟩ := fnQ_ok (fl_at cf 32 rfl rfl) (fb_at c3 24 rfl)
  obtain ⟨_, _, _, _, _, _, _, _, _, l33, c33_⟩ := fnQ_ok (fl_at cf 33 rfl rfl) (fb_at c4 2 rfl)
  obtain ⟨_, _, _, _, _, _, _, _, _, l34, c34_⟩ := fnQ_ok (fl_at cf 34 rfl rfl) (fb_at c4 5 rfl)
  obtain ⟨_, _, _, _, _, _, _, _, _, l35, c35_⟩ := fnQ_ok (fl_at cf 35 rfl rfl) (fb_at c4 8 rfl)
  obtain ⟨_, _, _, _, _, _, _, _, _, l36, c36_⟩ := fnQ_ok (fl_at cf 36 rfl rfl) (fb_at c4 11 rfl)
  obtain ⟨_, _, _, _, _, _, _, _, _, l37, c37_⟩ := fnQ_ok (fl_at cf 37 rfl rfl) (fb_at c4 14 rfl)
  obtain ⟨_, _, _, _, _, _, _, _, _, l38, c38_⟩ := fnQ_ok (fl_at cf 38 rfl rfl) (fb_at c4 17 rfl)
  obtain ⟨_, _, _, _, _, _, _, _, _, l39, c39_⟩ := fnQ_ok (fl_at cf 39 rfl rfl) (fb_at c4 20 rfl)
  obtain ⟨_, _, _, _, _, _, _, _, _, l40, c40_⟩ := fnQ_ok (fl_at cf 40 rfl rfl) (fb_at c4 23 rfl)
  obtain ⟨_, _, _, _, _, _, _, _, _, l41, c41_⟩ := fnQ_ok (fl_at cf 41 rfl rfl) (fb_at c5 1 rfl)
  obtain ⟨_, _, _, _, _, _, _, _, _, l42, c42_⟩ := fnQ_ok (fl_at cf 42 rfl rfl) (fb_at c5 4 rfl)
  obtain ⟨_, _, _, _, _, _, _, _, _, l43, c43_⟩ := fnQ_ok (fl_at cf 43 rfl rfl) (fb_at c5 7 rfl)
  obtain ⟨_, _, _, _, _, _, _, _, _, l44, c44_⟩ := fnQ_ok (fl_at cf 44 rfl rfl) (fb_at c5 10 rfl)
  obtain ⟨_, _, _, _, _, _, _, _, _, l45, c45_⟩ := fnQ_ok (fl_at cf 45 rfl rfl) (fb_at c5 13 rfl)
  obtain ⟨_, _, _, _, _, _, _, _, _, l46, c46_⟩ := fnQ_ok (fl_at cf 46 rfl rfl) (fb_at c5 16 rfl)
  obtain ⟨_, _, _, _, _, _, _, _, _, l47, c47_⟩ := fnQ_ok (fl_at cf 47 rfl rfl) (fb_at c5 19 rfl)
  obtain ⟨_, _, _, _, _, _, _, _, _, l48, c48_⟩ := fnQ_ok (fl_at cf 48 rfl rfl) (fb_at c5 22 rfl)
  obtain ⟨_, _, _, _, _, _, _, _, _, l49, c49_⟩ := fnQ_ok (fl_at cf 49 rfl rfl) (fb_at c6 0 rfl)
  obtain ⟨_, _, _, _, _, _, _, _, _, l50, c50_⟩ := fnQ_ok (fl_at cf 50 rfl rfl) (fb_at c6 3 rfl)
  obtain ⟨_, _, _, _, _, _, _, _, _, l51, c51_⟩ := fnQ_ok (fl_at cf 51 rfl rfl) (fb_at c6 6 rfl)
  obtain ⟨_, _, _, _, _, _, _, _, _, l52, c52_⟩ := fnQ_ok (fl_at cf 52 rfl rfl) (fb_at c6 9 rfl)
  obtain ⟨_, _, _, _, _, _, _, _, _, l53, c53_⟩ := fnQ_ok (fl_at cf 53 rfl rfl) (fb_at c6 12 rfl)
  obtain ⟨_, _, _, _, _, _, _, _, _, l54, c54_⟩ := fnQ_ok (fl_at cf 54 rfl rfl) (fb_at c6 15 rfl)
  obtain ⟨_, v_LONGEST_ROW⟩ := intQ_ok (fb_at c6 17 rfl)
  obtain ⟨_, v_MOST_CORRECTIONS⟩ := intQ_ok (fb_at c6 18 rfl)
  obtain ⟨_, v_MOST_LEAVES⟩ := intQ_ok (fb_at c6 19 rfl)
  obtain ⟨_, v_MOST_PARTS⟩ := intQ_ok (fb_at c6 20 rfl)
  obtain ⟨_, v_MOST_ROWS⟩ := intQ_ok (fb_at c6 21 rfl)
  obtain ⟨_, v_MOST_SIGNS⟩ := intQ_ok (fb_at c6 22 rfl)
  obtain ⟨_, v_MOST_TOKENS⟩ := intQ_ok (fb_at c6 23 rfl)
  exact all_mk X G hfa (fb_is c0 0 rfl) l0 c0_ (fb_at c0 2 rfl) (fb_is c0 3 rfl) l1 c1_ (fb_at c0 5 rfl) (fb_is c0 6 rfl) l2 c2_ (fb_at c0 8 rfl) (fb_is c0 9 rfl) l3 c3_ (fb_at c0 11 rfl) (fb_is c0 12 rfl) l4 c4_ (fb_at c0 14 rfl) (fb_is c0 15 rfl) l5 c5_ (fb_at c0 17 rfl) (fb_is c0 18 rfl) l6 c6_ (fb_at c0 20 rfl) (fb_is c0 21 rfl) l7 c7_ (fb_at c0 23 rfl) lt7 le0 (fb_is c1 1 rfl) l8 c8_ (fb_at c1 3 rfl) (fb_is c1 4 rfl) l9 c9_ (fb_at c1 6 rfl) (fb_is c1 7 rfl) l10 c10_ (fb_at c1 9 rfl) (fb_is c1 10 rfl) l11 c11_ (fb_at c1 12 rfl) (fb_is c1 13 rfl) l12 c12_ (fb_at c1 15 rfl) (fb_is c1 16 rfl) l13 c13_ (fb_at c1 18 rfl) (fb_is c1 19 rfl) l14 c14_ (fb_at c1 21 rfl) (fb_is c1 22 rfl) l15 c15_ (fb_at c1 24 rfl) (fb_is c2 0 rfl) l16 c16_ (fb_at c2 2 rfl) (fb_is c2 3 rfl) l17 c17_ (fb_at c2 5 rfl) (fb_is c2 6 rfl) l18 c18_ (fb_at c2 8 rfl) (fb_is c2 9 rfl) l19 c19_ (fb_at c2 11 rfl) (fb_is c2 12 rfl) l20 c20_ (fb_at c2 14 rfl) (fb_is c2 15 rfl) l21 c21_ (fb_at c2 17 rfl) (fb_is c2 18 rfl) l22 c22_ (fb_at c2 20 rfl) (fb_is c2 21 rfl) l23 c23_ (fb_at c2 23 rfl) (fb_is c2 24 rfl) l24 c24_ (fb_at c3 1 rfl) (fb_is c3 2 rfl) l25 c25_ (fb_at c3 4 rfl) (fb_is c3 5 rfl) l26 c26_ (fb_at c3 7 rfl) (fb_is c3 8 rfl) l27 c27_ (fb_at c3 10 rfl) (fb_is c3 11 rfl) l28 c28_ (fb_at c3 13 rfl) (fb_is c3 14 rfl) l29 c29_ (fb_at c3 16 rfl) (fb_is c3 17 rfl) l30 c30_ (fb_at c3 19 rfl) (fb_is c3 20 rfl) l31 c31_ (fb_at c3 22 rfl) (fb_is c3 23 rfl) l32 c32_ (fb_at c4 0 rfl) (fb_is c4 1 rfl) l33 c33_ (fb_at c4 3 rfl) (fb_is c4 4 rfl) l34 c34_ (fb_at c4 6 rfl) (fb_is c4 7 rfl) l35 c35_ (fb_at c4 9 rfl) (fb_is c4 10 rfl) l36 c36_ (fb_at c4 12 rfl) (fb_is c4 13 rfl) l37 c37_ (fb_at c4 15 rfl) (fb_is c4 16 rfl) l38 c38_ (fb_at c4 18 rfl) (fb_is c4 19 rfl) l39 c39_ (fb_at c4 21 rfl) (fb_is c4 22 rfl) l40 c40_ (fb_at c4 24 rfl) (fb_is c5 0 rfl) l41 c41_ (fb_at c5 2 rfl) (fb_is c5 3 rfl) l42 c42_ (fb_at c5 5 rfl) (fb_is c5 6 rfl) l43 c43_ (fb_at c5 8 rfl) (fb_is c5 9 rfl) l44 c44_ (fb_at c5 11 rfl) (fb_is c5 12 rfl) l45 c45_ (fb_at c5 14 rfl) (fb_is c5 15 rfl) l46 c46_ (fb_at c5 17 rfl) (fb_is c5 18 rfl) l47 c47_ (fb_at c5 20 rfl) (fb_is c5 21 rfl) l48 c48_ (fb_at c5 23 rfl) (fb_is c5 24 rfl) l49 c49_ (fb_at c6 1 rfl) (fb_is c6 2 rfl) l50 c50_ (fb_at c6 4 rfl) (fb_is c6 5 rfl) l51 c51_ (fb_at c6 7 rfl) (fb_is c6 8 rfl) l52 c52_ (fb_at c6 10 rfl) (fb_is c6 11 rfl) l53 c53_ (fb_at c6 13 rfl) (fb_is c6 14 rfl) l54 c54_ (fb_at c6 16 rfl) v_LONGEST_ROW v_MOST_CORRECTIONS v_MOST_LEAVES v_MOST_PARTS v_MOST_ROWS v_MOST_SIGNS v_MOST_TOKENS (fb_is c6 24 rfl) (fb_is c7 0 rfl) (fb_is c7 1 rfl) (fb_is c7 2 rfl) (fb_is c7 3 rfl) (fb_is c7 4 rfl) (fb_is c7 5 rfl) (fb_is c7 6 rfl) (fb_is c7 7 rfl) (fb_is c7 8 rfl) (fb_is c7 9 rfl) (fb_is c7 10 rfl) (fb_is c7 11 rfl) (fb_is c7 12 rfl) (fb_is c7 13 rfl) (fb_is c7 14 rfl) (fb_is c7 15 rfl) (fb_is c7 16 rfl) (fb_is c7 17 rfl) (fb_is c7 18 rfl) (fb_is c7 19 rfl) (fb_is c7 20 rfl) (fb_at c7 21 rfl) (fb_at c7 22 rfl) (fb_is c7 23 rfl) (fb_is c7 24 rfl) (fb_is c8 0 rfl) (fb_is c8 1 rfl) (fb_at c8 2 rfl) (fb_is c8 3 rfl) (fb_is c8 4 rfl) (fb_is c8 5 rfl) (fb_is c8 6 rfl) (fb_is c8 7 rfl) (fb_is c8 8 rfl) (fb_at c8 9 rfl) (fb_at c8 10 rfl) (fb_is c8 11 rfl) (fb_is c8 12 rfl) (fb_is c8 13 rfl) (fb_is c8 14 rfl) (fb_at c8 15 rfl) (fb_is c8 16 rfl) (fb_is c8 17 rfl) (fb_is c8 18 rfl) (fb_at c8 19 rfl) (fb_at c8 20 rfl) (fb_is c8 21 rfl) (fb_is c8 22 rfl) (fb_is c8 23 rfl) (fb_is c8 24 rfl) (fb_at c9 0 rfl) (fb_is c9 1 rfl) (fb_is c9 2 rfl) (fb_is c9 3 rfl) (fb_at c9 4 rfl) (fb_at c9 5 rfl) (fb_at c9 6 rfl) (fb_at c9 7 rfl) (fb_at c9 8 rfl) (fb_at c9 9 rfl) (fb_at c9 10 rfl) (fb_at c9 11 rfl) (fb_at c9 12 rfl) (fb_at c9 13 rfl) (fb_at c9 14 rfl) (fb_is c9 15 rfl) (fb_is c9 16 rfl) (fb_at c9 17 rfl) (fb_at c9 18 rfl) (fb_at c9 19 rfl) (fb_at c9 20 rfl) (fb_is c9 21 rfl) (fb_at c9 22 rfl) (fb_at c9 23 rfl) (fb_at c9 24 rfl) (fb_is c10 0 rfl) (fb_at c10 1 rfl) (fb_at c10 2 rfl) (fb_at c10 3 rfl) (fb_is c10 4 rfl)
abbrev RX : PySem.W.OpenRow := PySem.W.OpenLaw.row PySem.Challenge.rw_afterleaves_k51_carried_out
abbrev hkX : PySem.W.Hook := hookQ ASs FBs FLs FVs
def obX (s : PySem.W.SharedT) : AlQ := obsQG ASs FBs FLs (HandSHeadRun.getT s)
theorem ob_eqX (s : PySem.W.SharedT) : obX s = hkX.obs s.abs := obsQG_eq (HandSHeadRun.getT_eq s)
set_option maxHeartbeats 0 in
theorem runX (w : World) : HandSHeadRun.RunEq RX (PySem.W.view RX.prog [73]) hkX obX 30000 LNs w := by
  intro os
  kernel_rfl
end K51
open PySem PySem.W PySem.Calls PyProof.Rows
set_option maxRecDepth 100000 in
set_option maxHeartbeats 0 in
theorem PySem.Challenge.cw_afterleaves_k51_carried_out_holds : PySem.Challenge.rw_afterleaves_k51_carried_out.Holds := by
  w_on; o_law
  refine HandSHeadRun.head_any (r := OpenLaw.row PySem.Challenge.rw_afterleaves_k51_carried_out) (q := view (OpenLaw.row PySem.Challenge.rw_afterleaves_k51_carried_out).prog [73]) (H := K51.hkX) (ob := K51.obX) (M := 30000) (loose := K51.LNs) (d := HandSHeadRun.topDef (OpenLaw.row PySem.Challenge.rw_afterleaves_k51_carried_out).prog 73) (kwd := []) K51.ob_eqX
    (by kernel_rfl) (fun s => by kernel_rfl) K51.runX (by kernel_rfl) (by kernel_rfl) (by kernel_rfl) (by rfl) (by first | assumption | decide +kernel) (by decide +kernel) ⟨rfl, rfl, rfl, rfl, rfl, by decide +kernel⟩ ?hw ?hc
  case hw => w_witness2
  case hc =>
    refine K51.walk_ofGQ (l := PySem.Challenge.rw_afterleaves_k51_carried_out) (n := 63) (k := 11) (x := "_law_script") (CX := fun _ => L2.CX0) (sp := fun w K => K51.sp_law K) rfl (by decide) (by kernel_rfl) ⟨rfl, by decide, by decide⟩ ?F (fun w K H a ns hl _ hS => ⟨a, ns, rfl, hS, hl, fun _ => rfl⟩) (fun _ _ _ _ _ h => h)
    intro w mg fa h Y G hmg0
    obtain ⟨K, KX, c⟩ := Y
    have hmg : mg ("law" : PySem.Str) = some (.ref fa) := by
      have e : (HandSHeadRun.topDef (OpenLaw.row PySem.Challenge.rw_afterleaves_k51_carried_out).prog 73).name = ("law" : PySem.Str) := by kernel_rfl
      rw [← e]
      exact hmg0
    obtain ⟨fd, hb, hF⟩ := K51.all_q (l := PySem.Challenge.rw_afterleaves_k51_carried_out) (w := w) KX G hmg c
    exact ⟨K, fd, KX, hb, hF⟩

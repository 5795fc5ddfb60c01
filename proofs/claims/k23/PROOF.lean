import PyProof.Rows.All
import Wide.All
import OpenK.AllK
import Wide.FinOn
import HandS.ForMost
import HandS.Codes
import HandS.IsInst
import HandS.Walk
import HandS.TupLe
import HandS.SortRule
import HandS.NamedTupSort
import KE.GoesRaise
import HandS.HotCalls
import HandS.DeepEq
import HandS.TupAny
import HandS.Deep
import HandS.FStr
import HandS.StrMore
import HandS.TryMany
import HandS.NoneIn
import HandS.ForExc
import HandS.ExcInit
import HandS.ExcField
import HandS.ExcIs
import KE.KExcIs
import KE.KRevSl
import PyProof.StrLawsRepr
import HandS.Flow
import HandS.OwnEq
import HandS.DictComp
import HandS.IterVal
import HandS.Property
import KE.DataCmp
import KE.SortCalls
import KE.SortData
import KE.GoesEnum
import HandS.Zip
import HandS.Defaults
import HandS.MakeKw
import HandS.MakeKwOnly
import PySem.Challenge.RW_afterleaves_k23_place_words
set_option Elab.async false
set_option linter.all false
set_option maxRecDepth 100000
set_option maxHeartbeats 4000000
namespace K23
open PySem PySem.Spec PyProof.Rows L2
/-! ### the text -/
def topS (i : Nat) : Stmt := PySem.Challenge.pw_afterleaves_k23_place_words.main.body.getD i (.Pass ⟨0, 0, 0, 0⟩)
abbrev s_wall : Stmt := topS 0
abbrev N_wall : List Str := ["k"]
theorem sc_wall : FnScope N_wall ["k"] (defScope s_wall) := ⟨rfl, rfl, rfl, by decide +kernel, rfl, by decide +kernel, by decide +kernel⟩
abbrev s_is_integer : Stmt := topS 2
abbrev N_is_integer : List Str := ["thing"]
theorem sc_is_integer : FnScope N_is_integer ["thing"] (defScope s_is_integer) := ⟨rfl, rfl, rfl, by decide +kernel, rfl, by decide +kernel, by decide +kernel⟩
abbrev s_is_within : Stmt := topS 3
abbrev N_is_within : List Str := ["thing", "least", "most"]
theorem sc_is_within : FnScope N_is_within ["thing", "least", "most"] (defScope s_is_within) := ⟨rfl, rfl, rfl, by decide +kernel, rfl, by decide +kernel, by decide +kernel⟩
abbrev s_is_tuple : Stmt := topS 4
abbrev N_is_tuple : List Str := ["thing"]
theorem sc_is_tuple : FnScope N_is_tuple ["thing"] (defScope s_is_tuple) := ⟨rfl, rfl, rfl, by decide +kernel, rfl, by decide +kernel, by decide +kernel⟩
abbrev s_is_sized : Stmt := topS 5
abbrev N_is_sized : List Str := ["thing", "least", "most"]
theorem sc_is_sized : FnScope N_is_sized ["thing", "least", "most"] (defScope s_is_sized) := ⟨rfl, rfl, rfl, by decide +kernel, rfl, by decide +kernel, by decide +kernel⟩
abbrev s_kept_label : Stmt := topS 19
abbrev N_kept_label : List Str := ["thing", "part"]
theorem sc_kept_label : FnScope N_kept_label ["thing"] (defScope s_kept_label) := ⟨rfl, rfl, rfl, by decide +kernel, rfl, by decide +kernel, by decide +kernel⟩
abbrev s_judged_label : Stmt := topS 20
abbrev N_judged_label : List Str := ["thing", "label"]
theorem sc_judged_label : FnScope N_judged_label ["thing"] (defScope s_judged_label) := ⟨rfl, rfl, rfl, by decide +kernel, rfl, by decide +kernel, by decide +kernel⟩
abbrev s_kept_page : Stmt := topS 21
abbrev N_kept_page : List Str := ["thing", "label"]
theorem sc_kept_page : FnScope N_kept_page ["thing"] (defScope s_kept_page) := ⟨rfl, rfl, rfl, by decide +kernel, rfl, by decide +kernel, by decide +kernel⟩
abbrev s_write_label : Stmt := topS 22
abbrev N_write_label : List Str := ["label", "part"]
theorem sc_write_label : FnScope N_write_label ["label"] (defScope s_write_label) := ⟨rfl, rfl, rfl, by decide +kernel, rfl, by decide +kernel, by decide +kernel⟩
abbrev s_write_page : Stmt := topS 23
abbrev N_write_page : List Str := ["page", "label", "side"]
theorem sc_write_page : FnScope N_write_page ["page"] (defScope s_write_page) := ⟨rfl, rfl, rfl, by decide +kernel, rfl, by decide +kernel, by decide +kernel⟩
abbrev s_place_word_true : Stmt := topS 28
abbrev N_place_word_true : List Str := ["book", "own", "goal", "word", "near"]
theorem sc_place_word_true : FnScope N_place_word_true ["book", "own", "goal", "word", "near"] (defScope s_place_word_true) := ⟨rfl, rfl, rfl, by decide +kernel, rfl, by decide +kernel, by decide +kernel⟩
abbrev s_preferred_place : Stmt := topS 29
abbrev N_preferred_place : List Str := ["book", "own", "goal", "near"]
theorem sc_preferred_place : FnScope N_preferred_place ["book", "own", "goal", "near"] (defScope s_preferred_place) := ⟨rfl, rfl, rfl, by decide +kernel, rfl, by decide +kernel, by decide +kernel⟩
abbrev s_true_words : Stmt := topS 30
abbrev N_true_words : List Str := ["book", "own", "goal", "near", "words"]
theorem sc_true_words : FnScope N_true_words ["book", "own", "goal", "near"] (defScope s_true_words) := ⟨rfl, rfl, rfl, by decide +kernel, rfl, by decide +kernel, by decide +kernel⟩
abbrev s_Leaf_init : Stmt := inClass (topS 36) 0
abbrev N_Leaf_init : List Str := ["self", "label", "front", "back", "pen", "stroke"]
theorem sc_Leaf_init : FnScope N_Leaf_init ["self", "label", "front", "back", "pen"] (defScope s_Leaf_init) := ⟨rfl, rfl, rfl, by decide +kernel, rfl, by decide +kernel, by decide +kernel⟩
abbrev s_is_token : Stmt := topS 37
abbrev N_is_token : List Str := ["thing"]
theorem sc_is_token : FnScope N_is_token ["thing"] (defScope s_is_token) := ⟨rfl, rfl, rfl, by decide +kernel, rfl, by decide +kernel, by decide +kernel⟩
abbrev s_is_row : Stmt := topS 38
abbrev N_is_row : List Str := ["thing", "tokens", "token"]
theorem sc_is_row : FnScope N_is_row ["thing"] (defScope s_is_row) := ⟨rfl, rfl, rfl, by decide +kernel, rfl, by decide +kernel, by decide +kernel⟩
abbrev s_judged_rows : Stmt := topS 39
abbrev N_judged_rows : List Str := ["rows", "least", "side", "row"]
theorem sc_judged_rows : FnScope N_judged_rows ["rows", "least", "side"] (defScope s_judged_rows) := ⟨rfl, rfl, rfl, by decide +kernel, rfl, by decide +kernel, by decide +kernel⟩
abbrev s_judged_pen : Stmt := topS 40
abbrev N_judged_pen : List Str := ["front", "back", "pen", "strokes", "stroke", "one", "other"]
theorem sc_judged_pen : FnScope N_judged_pen ["front", "back", "pen"] (defScope s_judged_pen) := ⟨rfl, rfl, rfl, by decide +kernel, rfl, by decide +kernel, by decide +kernel⟩
abbrev s_kept_strokes : Stmt := topS 41
abbrev N_kept_strokes : List Str := ["strokes", "stroke"]
theorem sc_kept_strokes : FnScope N_kept_strokes ["strokes"] (defScope s_kept_strokes) := ⟨rfl, rfl, rfl, by decide +kernel, rfl, by decide +kernel, by decide +kernel⟩
abbrev s_is_stroke : Stmt := topS 42
abbrev N_is_stroke : List Str := ["thing"]
theorem sc_is_stroke : FnScope N_is_stroke ["thing"] (defScope s_is_stroke) := ⟨rfl, rfl, rfl, by decide +kernel, rfl, by decide +kernel, by decide +kernel⟩
abbrev s_is_place : Stmt := topS 43
abbrev N_is_place : List Str := ["front", "back", "place", "side", "row", "word", "rows"]
theorem sc_is_place : FnScope N_is_place ["front", "back", "place"] (defScope s_is_place) := ⟨rfl, rfl, rfl, by decide +kernel, rfl, by decide +kernel, by decide +kernel⟩
abbrev s_Book_init : Stmt := inClass (topS 46) 0
abbrev N_Book_init : List Str := ["self", "leaves", "k", "leaf"]
theorem sc_Book_init : FnScope N_Book_init ["self", "leaves"] (defScope s_Book_init) := ⟨rfl, rfl, rfl, by decide +kernel, rfl, by decide +kernel, by decide +kernel⟩
abbrev s_Book_facing : Stmt := inClass (topS 46) 8
abbrev N_Book_facing : List Str := ["self", "page", "label", "side", "spot"]
theorem sc_Book_facing : FnScope N_Book_facing ["self", "page"] (defScope s_Book_facing) := ⟨rfl, rfl, rfl, by decide +kernel, rfl, by decide +kernel, by decide +kernel⟩
abbrev s_Book_judged_page : Stmt := inClass (topS 46) 11
abbrev N_Book_judged_page : List Str := ["self", "page", "kept"]
theorem sc_Book_judged_page : FnScope N_Book_judged_page ["self", "page"] (defScope s_Book_judged_page) := ⟨rfl, rfl, rfl, by decide +kernel, rfl, by decide +kernel, by decide +kernel⟩
abbrev s_judged_leaves : Stmt := topS 47
abbrev N_judged_leaves : List Str := ["leaves", "k", "leaf"]
theorem sc_judged_leaves : FnScope N_judged_leaves ["leaves"] (defScope s_judged_leaves) := ⟨rfl, rfl, rfl, by decide +kernel, rfl, by decide +kernel, by decide +kernel⟩
abbrev s_source : Stmt := topS 49
abbrev N_source : List Str := ["_law_script", "_law_k", "_law_cell", "_law_number", "_law_great"]
theorem sc_source : FnScope N_source ["_law_script", "_law_k"] (defScope s_source) := ⟨rfl, rfl, rfl, by decide +kernel, rfl, by decide +kernel, by decide +kernel⟩
abbrev s_pick : Stmt := topS 50
abbrev N_pick : List Str := ["_law_source_here", "_law_many", "_law_taken"]
theorem sc_pick : FnScope N_pick ["_law_source_here", "_law_many"] (defScope s_pick) := ⟨rfl, rfl, rfl, by decide +kernel, rfl, by decide +kernel, by decide +kernel⟩
abbrev s_law_is_integer : Stmt := topS 51
abbrev N_law_is_integer : List Str := ["_law_actual"]
theorem sc_law_is_integer : FnScope N_law_is_integer ["_law_actual"] (defScope s_law_is_integer) := ⟨rfl, rfl, rfl, by decide +kernel, rfl, by decide +kernel, by decide +kernel⟩
abbrev s_label_word : Stmt := topS 52
abbrev N_label_word : List Str := ["_law_label", "_law_part"]
theorem sc_label_word : FnScope N_label_word ["_law_label"] (defScope s_label_word) := ⟨rfl, rfl, rfl, by decide +kernel, rfl, by decide +kernel, by decide +kernel⟩
abbrev s_page_word : Stmt := topS 53
abbrev N_page_word : List Str := ["_law_page"]
theorem sc_page_word : FnScope N_page_word ["_law_page"] (defScope s_page_word) := ⟨rfl, rfl, rfl, by decide +kernel, rfl, by decide +kernel, by decide +kernel⟩
abbrev s_faces : Stmt := topS 54
abbrev N_faces : List Str := ["_law_labels", "_law_one", "_law_other", "_law_back", "_law_front", "_law_pairs", "_law_k"]
theorem sc_faces : FnScope N_faces ["_law_labels", "_law_one", "_law_other"] (defScope s_faces) := ⟨rfl, rfl, rfl, by decide +kernel, rfl, by decide +kernel, by decide +kernel⟩
abbrev s_place_true : Stmt := topS 55
abbrev N_place_true : List Str := ["_law_labels", "_law_own", "_law_goal", "_law_word", "_law_nigh"]
theorem sc_place_true : FnScope N_place_true ["_law_labels", "_law_own", "_law_goal", "_law_word", "_law_nigh"] (defScope s_place_true) := ⟨rfl, rfl, rfl, by decide +kernel, rfl, by decide +kernel, by decide +kernel⟩
abbrev s_place_word : Stmt := topS 56
abbrev N_place_word : List Str := ["_law_labels", "_law_own", "_law_goal", "_law_nigh", "_law_words_here", "_law_word"]
theorem sc_place_word : FnScope N_place_word ["_law_labels", "_law_own", "_law_goal", "_law_nigh"] (defScope s_place_word) := ⟨rfl, rfl, rfl, by decide +kernel, rfl, by decide +kernel, by decide +kernel⟩
abbrev s_book_labels : Stmt := topS 57
abbrev N_book_labels : List Str := ["_law_source_here", "_law_many", "_law_labels", "_law_last", "_law_k", "_law_draw"]
theorem sc_book_labels : FnScope N_book_labels ["_law_source_here", "_law_many"] (defScope s_book_labels) := ⟨rfl, rfl, rfl, by decide +kernel, rfl, by decide +kernel, by decide +kernel⟩
abbrev s_all_pages : Stmt := topS 58
abbrev N_all_pages : List Str := ["_law_leaves", "_law_pages", "_law_sheet"]
theorem sc_all_pages : FnScope N_all_pages ["_law_leaves"] (defScope s_all_pages) := ⟨rfl, rfl, rfl, by decide +kernel, rfl, by decide +kernel, by decide +kernel⟩
abbrev s_is_book : Stmt := topS 59
abbrev N_is_book : List Str := ["_law_actual", "_law_leaves", "_law_told", "_law_sheet"]
theorem sc_is_book : FnScope N_is_book ["_law_actual", "_law_leaves"] (defScope s_is_book) := ⟨rfl, rfl, rfl, by decide +kernel, rfl, by decide +kernel, by decide +kernel⟩
abbrev s_deep_tuple : Stmt := topS 60
abbrev N_deep_tuple : List Str := ["_law_thing", "_law_part"]
theorem sc_deep_tuple : FnScope N_deep_tuple ["_law_thing"] (defScope s_deep_tuple) := ⟨rfl, rfl, rfl, by decide +kernel, rfl, by decide +kernel, by decide +kernel⟩
abbrev s_leaves_in : Stmt := topS 61
abbrev N_leaves_in : List Str := ["_law_book", "_law_sheet"]
theorem sc_leaves_in : FnScope N_leaves_in ["_law_book"] (defScope s_leaves_in) := ⟨rfl, rfl, rfl, by decide +kernel, rfl, by decide +kernel, by decide +kernel⟩
abbrev s_draw_leaves : Stmt := topS 62
abbrev N_draw_leaves : List Str := ["_law_source_here", "_law_labels", "_law_leaves", "_law_label", "_law_back", "_law_k"]
theorem sc_draw_leaves : FnScope N_draw_leaves ["_law_source_here"] (defScope s_draw_leaves) := ⟨rfl, rfl, rfl, by decide +kernel, rfl, by decide +kernel, by decide +kernel⟩
abbrev s_some_spots : Stmt := topS 63
abbrev N_some_spots : List Str := ["_law_source_here", "_law_pages", "_law_k"]
theorem sc_some_spots : FnScope N_some_spots ["_law_source_here", "_law_pages"] (defScope s_some_spots) := ⟨rfl, rfl, rfl, by decide +kernel, rfl, by decide +kernel, by decide +kernel⟩
abbrev s_goals : Stmt := topS 64
abbrev N_goals : List Str := ["_law_pages", "_law_at", "_law_many", "_law_k"]
theorem sc_goals : FnScope N_goals ["_law_pages", "_law_at"] (defScope s_goals) := ⟨rfl, rfl, rfl, by decide +kernel, rfl, by decide +kernel, by decide +kernel⟩
abbrev s_words : Stmt := topS 65
abbrev N_words : List Str := ["_law_source_here", "_law_pages", "_law_goal", "_law_odd", "_law_word"]
theorem sc_words : FnScope N_words ["_law_source_here", "_law_pages", "_law_goal"] (defScope s_words) := ⟨rfl, rfl, rfl, by decide +kernel, rfl, by decide +kernel, by decide +kernel⟩
abbrev s_pair_right : Stmt := topS 66
abbrev N_pair_right : List Str := ["_law_source_here", "_law_book", "_law_leaves", "_law_own", "_law_goal", "_law_labels", "_law_listed", "_law_nigh", "_law_told", "_law_word", "_law_leaf"]
theorem sc_pair_right : FnScope N_pair_right ["_law_source_here", "_law_book", "_law_leaves", "_law_own", "_law_goal"] (defScope s_pair_right) := ⟨rfl, rfl, rfl, by decide +kernel, rfl, by decide +kernel, by decide +kernel⟩
abbrev s_law : Stmt := topS 67
abbrev N_law : List Str := ["_law_script", "_law_marks", "_law_worlds", "_law_k", "_law_leaves", "_law_way", "_law_book", "_law_pages", "_law_at", "_law_goal", "_law_sheet"]
theorem sc_law : FnScope N_law ["_law_script"] (defScope s_law) := ⟨rfl, rfl, rfl, by decide +kernel, rfl, by decide +kernel, by decide +kernel⟩
structure Tab (K : PySem.W.Frag) (mg : Str → Option Value) where
  C_Leaf : Addr
  C_Book : Addr
  f_wall : Addr
  d_wall : FuncData
  F_wall : Fun K "_wall" "_wall" s_wall f_wall d_wall
  b_wall : Binds K d_wall ["k"] []
  g_wall : mg "_wall" = some (.ref f_wall)
  f_is_integer : Addr
  d_is_integer : FuncData
  F_is_integer : Fun K "is_integer" "is_integer" s_is_integer f_is_integer d_is_integer
  b_is_integer : Binds K d_is_integer ["thing"] []
  g_is_integer : mg "is_integer" = some (.ref f_is_integer)
  f_is_within : Addr
  d_is_within : FuncData
  F_is_within : Fun K "is_within" "is_within" s_is_within f_is_within d_is_within
  b_is_within : Binds K d_is_within ["thing", "least", "most"] []
  g_is_within : mg "is_within" = some (.ref f_is_within)
  f_is_tuple : Addr
  d_is_tuple : FuncData
  F_is_tuple : Fun K "is_tuple" "is_tuple" s_is_tuple f_is_tuple d_is_tuple
  b_is_tuple : Binds K d_is_tuple ["thing"] []
  g_is_tuple : mg "is_tuple" = some (.ref f_is_tuple)
  f_is_sized : Addr
  d_is_sized : FuncData
  F_is_sized : Fun K "is_sized" "is_sized" s_is_sized f_is_sized d_is_sized
  b_is_sized : Binds K d_is_sized ["thing", "least", "most"] []
  g_is_sized : mg "is_sized" = some (.ref f_is_sized)
  f_kept_label : Addr
  d_kept_label : FuncData
  F_kept_label : Fun K "kept_label" "kept_label" s_kept_label f_kept_label d_kept_label
  b_kept_label : Binds K d_kept_label ["thing"] []
  g_kept_label : mg "kept_label" = some (.ref f_kept_label)
  f_judged_label : Addr
  d_judged_label : FuncData
  F_judged_label : Fun K "judged_label" "judged_label" s_judged_label f_judged_label d_judged_label
  b_judged_label : Binds K d_judged_label ["thing"] []
  g_judged_label : mg "judged_label" = some (.ref f_judged_label)
  f_kept_page : Addr
  d_kept_page : FuncData
  F_kept_page : Fun K "kept_page" "kept_page" s_kept_page f_kept_page d_kept_page
  b_kept_page : Binds K d_kept_page ["thing"] []
  g_kept_page : mg "kept_page" = some (.ref f_kept_page)
  f_write_label : Addr
  d_write_label : FuncData
  F_write_label : Fun K "write_label" "write_label" s_write_label f_write_label d_write_label
  b_write_label : Binds K d_write_label ["label"] []
  g_write_label : mg "write_label" = some (.ref f_write_label)
  f_write_page : Addr
  d_write_page : FuncData
  F_write_page : Fun K "write_page" "write_page" s_write_page f_write_page d_write_page
  b_write_page : Binds K d_write_page ["page"] []
  g_write_page : mg "write_page" = some (.ref f_write_page)
  f_place_word_true : Addr
  d_place_word_true : FuncData
  F_place_word_true : Fun K "place_word_true" "place_word_true" s_place_word_true f_place_word_true d_place_word_true
  b_place_word_true : Binds K d_place_word_true ["book", "own", "goal", "word", "near"] []
  g_place_word_true : mg "place_word_true" = some (.ref f_place_word_true)
  f_preferred_place : Addr
  d_preferred_place : FuncData
  F_preferred_place : Fun K "preferred_place" "preferred_place" s_preferred_place f_preferred_place d_preferred_place
  b_preferred_place : Binds K d_preferred_place ["book", "own", "goal", "near"] []
  g_preferred_place : mg "preferred_place" = some (.ref f_preferred_place)
  f_true_words : Addr
  d_true_words : FuncData
  F_true_words : Fun K "true_words" "true_words" s_true_words f_true_words d_true_words
  b_true_words : Binds K d_true_words ["book", "own", "goal", "near"] []
  g_true_words : mg "true_words" = some (.ref f_true_words)
  e_Leaf : Addr
  el_Leaf : ∀ H, SqT K H e_Leaf []
  f_Leaf_init : Addr
  d_Leaf_init : FuncData
  F_Leaf_init : FunD K "__init__" "Leaf.__init__" (defArgs s_Leaf_init) (defBody s_Leaf_init) (defScope s_Leaf_init) [V.ref e_Leaf] [] f_Leaf_init d_Leaf_init
  b_Leaf_init : Binds K d_Leaf_init ["self", "label", "front", "back", "pen"] []
  g_Leaf_init : PySem.W.findIn K (.ref C_Leaf) "__init__" = some (some (.ref f_Leaf_init))
  b3_Leaf_init : ∃ ds, Vals [V.ref e_Leaf] ds ∧ Binds K d_Leaf_init ["self", "label", "front", "back", "pen"] ds
  f_is_token : Addr
  d_is_token : FuncData
  F_is_token : Fun K "is_token" "is_token" s_is_token f_is_token d_is_token
  b_is_token : Binds K d_is_token ["thing"] []
  g_is_token : mg "is_token" = some (.ref f_is_token)
  f_is_row : Addr
  d_is_row : FuncData
  F_is_row : Fun K "_is_row" "_is_row" s_is_row f_is_row d_is_row
  b_is_row : Binds K d_is_row ["thing"] []
  g_is_row : mg "_is_row" = some (.ref f_is_row)
  f_judged_rows : Addr
  d_judged_rows : FuncData
  F_judged_rows : Fun K "_judged_rows" "_judged_rows" s_judged_rows f_judged_rows d_judged_rows
  b_judged_rows : Binds K d_judged_rows ["rows", "least", "side"] []
  g_judged_rows : mg "_judged_rows" = some (.ref f_judged_rows)
  f_judged_pen : Addr
  d_judged_pen : FuncData
  F_judged_pen : Fun K "_judged_pen" "_judged_pen" s_judged_pen f_judged_pen d_judged_pen
  b_judged_pen : Binds K d_judged_pen ["front", "back", "pen"] []
  g_judged_pen : mg "_judged_pen" = some (.ref f_judged_pen)
  f_kept_strokes : Addr
  d_kept_strokes : FuncData
  F_kept_strokes : Fun K "_kept_strokes" "_kept_strokes" s_kept_strokes f_kept_strokes d_kept_strokes
  b_kept_strokes : Binds K d_kept_strokes ["strokes"] []
  g_kept_strokes : mg "_kept_strokes" = some (.ref f_kept_strokes)
  f_is_stroke : Addr
  d_is_stroke : FuncData
  F_is_stroke : Fun K "_is_stroke" "_is_stroke" s_is_stroke f_is_stroke d_is_stroke
  b_is_stroke : Binds K d_is_stroke ["thing"] []
  g_is_stroke : mg "_is_stroke" = some (.ref f_is_stroke)
  f_is_place : Addr
  d_is_place : FuncData
  F_is_place : Fun K "_is_place" "_is_place" s_is_place f_is_place d_is_place
  b_is_place : Binds K d_is_place ["front", "back", "place"] []
  g_is_place : mg "_is_place" = some (.ref f_is_place)
  f_Book_init : Addr
  d_Book_init : FuncData
  F_Book_init : Fun K "__init__" "Book.__init__" s_Book_init f_Book_init d_Book_init
  b_Book_init : Binds K d_Book_init ["self", "leaves"] []
  g_Book_init : PySem.W.findIn K (.ref C_Book) "__init__" = some (some (.ref f_Book_init))
  f_Book_facing : Addr
  d_Book_facing : FuncData
  F_Book_facing : Fun K "facing" "Book.facing" s_Book_facing f_Book_facing d_Book_facing
  b_Book_facing : Binds K d_Book_facing ["self", "page"] []
  g_Book_facing : PySem.W.findIn K (.ref C_Book) "facing" = some (some (.ref f_Book_facing))
  f_Book_judged_page : Addr
  d_Book_judged_page : FuncData
  F_Book_judged_page : Fun K "_judged_page" "Book._judged_page" s_Book_judged_page f_Book_judged_page d_Book_judged_page
  b_Book_judged_page : Binds K d_Book_judged_page ["self", "page"] []
  g_Book_judged_page : PySem.W.findIn K (.ref C_Book) "_judged_page" = some (some (.ref f_Book_judged_page))
  f_judged_leaves : Addr
  d_judged_leaves : FuncData
  F_judged_leaves : Fun K "_judged_leaves" "_judged_leaves" s_judged_leaves f_judged_leaves d_judged_leaves
  b_judged_leaves : Binds K d_judged_leaves ["leaves"] []
  g_judged_leaves : mg "_judged_leaves" = some (.ref f_judged_leaves)
  f_source : Addr
  d_source : FuncData
  F_source : Fun K "_law_source" "_law_source" s_source f_source d_source
  b_source : Binds K d_source ["_law_script", "_law_k"] []
  g_source : mg "_law_source" = some (.ref f_source)
  f_pick : Addr
  d_pick : FuncData
  F_pick : Fun K "_law_pick" "_law_pick" s_pick f_pick d_pick
  b_pick : Binds K d_pick ["_law_source_here", "_law_many"] []
  g_pick : mg "_law_pick" = some (.ref f_pick)
  f_law_is_integer : Addr
  d_law_is_integer : FuncData
  F_law_is_integer : Fun K "_law_is_integer" "_law_is_integer" s_law_is_integer f_law_is_integer d_law_is_integer
  b_law_is_integer : Binds K d_law_is_integer ["_law_actual"] []
  g_law_is_integer : mg "_law_is_integer" = some (.ref f_law_is_integer)
  f_label_word : Addr
  d_label_word : FuncData
  F_label_word : Fun K "_law_label_word" "_law_label_word" s_label_word f_label_word d_label_word
  b_label_word : Binds K d_label_word ["_law_label"] []
  g_label_word : mg "_law_label_word" = some (.ref f_label_word)
  f_page_word : Addr
  d_page_word : FuncData
  F_page_word : Fun K "_law_page_word" "_law_page_word" s_page_word f_page_word d_page_word
  b_page_word : Binds K d_page_word ["_law_page"] []
  g_page_word : mg "_law_page_word" = some (.ref f_page_word)
  f_faces : Addr
  d_faces : FuncData
  F_faces : Fun K "_law_faces" "_law_faces" s_faces f_faces d_faces
  b_faces : Binds K d_faces ["_law_labels", "_law_one", "_law_other"] []
  g_faces : mg "_law_faces" = some (.ref f_faces)
  f_place_true : Addr
  d_place_true : FuncData
  F_place_true : Fun K "_law_place_true" "_law_place_true" s_place_true f_place_true d_place_true
  b_place_true : Binds K d_place_true ["_law_labels", "_law_own", "_law_goal", "_law_word", "_law_nigh"] []
  g_place_true : mg "_law_place_true" = some (.ref f_place_true)
  f_place_word : Addr
  d_place_word : FuncData
  F_place_word : Fun K "_law_place_word" "_law_place_word" s_place_word f_place_word d_place_word
  b_place_word : Binds K d_place_word ["_law_labels", "_law_own", "_law_goal", "_law_nigh"] []
  g_place_word : mg "_law_place_word" = some (.ref f_place_word)
  f_book_labels : Addr
  d_book_labels : FuncData
  F_book_labels : Fun K "_law_book_labels" "_law_book_labels" s_book_labels f_book_labels d_book_labels
  b_book_labels : Binds K d_book_labels ["_law_source_here", "_law_many"] []
  g_book_labels : mg "_law_book_labels" = some (.ref f_book_labels)
  f_all_pages : Addr
  d_all_pages : FuncData
  F_all_pages : Fun K "_law_all_pages" "_law_all_pages" s_all_pages f_all_pages d_all_pages
  b_all_pages : Binds K d_all_pages ["_law_leaves"] []
  g_all_pages : mg "_law_all_pages" = some (.ref f_all_pages)
  f_is_book : Addr
  d_is_book : FuncData
  F_is_book : Fun K "_law_is_book" "_law_is_book" s_is_book f_is_book d_is_book
  b_is_book : Binds K d_is_book ["_law_actual", "_law_leaves"] []
  g_is_book : mg "_law_is_book" = some (.ref f_is_book)
  f_deep_tuple : Addr
  d_deep_tuple : FuncData
  F_deep_tuple : Fun K "_law_deep_tuple" "_law_deep_tuple" s_deep_tuple f_deep_tuple d_deep_tuple
  b_deep_tuple : Binds K d_deep_tuple ["_law_thing"] []
  g_deep_tuple : mg "_law_deep_tuple" = some (.ref f_deep_tuple)
  f_leaves_in : Addr
  d_leaves_in : FuncData
  F_leaves_in : Fun K "_law_leaves_in" "_law_leaves_in" s_leaves_in f_leaves_in d_leaves_in
  b_leaves_in : Binds K d_leaves_in ["_law_book"] []
  g_leaves_in : mg "_law_leaves_in" = some (.ref f_leaves_in)
  f_draw_leaves : Addr
  d_draw_leaves : FuncData
  F_draw_leaves : Fun K "_law_draw_leaves" "_law_draw_leaves" s_draw_leaves f_draw_leaves d_draw_leaves
  b_draw_leaves : Binds K d_draw_leaves ["_law_source_here"] []
  g_draw_leaves : mg "_law_draw_leaves" = some (.ref f_draw_leaves)
  f_some_spots : Addr
  d_some_spots : FuncData
  F_some_spots : Fun K "_law_some_spots" "_law_some_spots" s_some_spots f_some_spots d_some_spots
  b_some_spots : Binds K d_some_spots ["_law_source_here", "_law_pages"] []
  g_some_spots : mg "_law_some_spots" = some (.ref f_some_spots)
  f_goals : Addr
  d_goals : FuncData
  F_goals : Fun K "_law_goals" "_law_goals" s_goals f_goals d_goals
  b_goals : Binds K d_goals ["_law_pages", "_law_at"] []
  g_goals : mg "_law_goals" = some (.ref f_goals)
  f_words : Addr
  d_words : FuncData
  F_words : Fun K "_law_words" "_law_words" s_words f_words d_words
  b_words : Binds K d_words ["_law_source_here", "_law_pages", "_law_goal"] []
  g_words : mg "_law_words" = some (.ref f_words)
  f_pair_right : Addr
  d_pair_right : FuncData
  F_pair_right : Fun K "_law_pair_right" "_law_pair_right" s_pair_right f_pair_right d_pair_right
  b_pair_right : Binds K d_pair_right ["_law_source_here", "_law_book", "_law_leaves", "_law_own", "_law_goal"] []
  g_pair_right : mg "_law_pair_right" = some (.ref f_pair_right)
  f_law : Addr
  d_law : FuncData
  F_law : Fun K "law" "law" s_law f_law d_law
  b_law : Binds K d_law ["_law_script"] []
  g_law : mg "law" = some (.ref f_law)
  cg_Book : mg "Book" = some (.ref C_Book)
  cg_Leaf : mg "Leaf" = some (.ref C_Leaf)
  cl_Leaf : Cls K C_Leaf
  ms_Leaf : PySem.W.makesIn K C_Leaf = true
  kc_Leaf : PySem.W.keepIn K (.ref C_Leaf) = true
  ca_Leaf : PySem.W.findIn K (.ref C_Leaf) "__class__" = some (some (.builtin "object.__class__"))
  cn_Leaf : PySem.W.specialIn K (.builtin "object.__class__") "__get__" = some (some (.builtin "getset_descriptor.__get__"))
  ct_Leaf : PySem.W.takesIn K (.builtin "object.__class__") = some true
  cm_Leaf : PySem.W.mroIn K C_Leaf (.type "object") = some true
  ic_Leaf : PySem.W.isClsIn K C_Leaf = true
  tc_Leaf : PySem.W.typeIn K (.ref C_Leaf) = some (.type "type")
  na_Leaf_label : NoAttr K C_Leaf "label"
  na_Leaf_front : NoAttr K C_Leaf "front"
  na_Leaf_back : NoAttr K C_Leaf "back"
  na_Leaf_pen : NoAttr K C_Leaf "pen"
  na_Leaf__strokes : NoAttr K C_Leaf "_strokes"
  cl_Book : Cls K C_Book
  ms_Book : PySem.W.makesIn K C_Book = true
  kc_Book : PySem.W.keepIn K (.ref C_Book) = true
  ca_Book : PySem.W.findIn K (.ref C_Book) "__class__" = some (some (.builtin "object.__class__"))
  cn_Book : PySem.W.specialIn K (.builtin "object.__class__") "__get__" = some (some (.builtin "getset_descriptor.__get__"))
  ct_Book : PySem.W.takesIn K (.builtin "object.__class__") = some true
  cm_Book : PySem.W.mroIn K C_Book (.type "object") = some true
  ic_Book : PySem.W.isClsIn K C_Book = true
  tc_Book : PySem.W.typeIn K (.ref C_Book) = some (.type "type")
  na_Book_leaves : NoAttr K C_Book "leaves"
  na_Book__spots : NoAttr K C_Book "_spots"
  fn_Leaf_init : PySem.W.isFn K (.ref f_Leaf_init) = true
  fn_Book_init : PySem.W.isFn K (.ref f_Book_init) = true
  fn_Book_facing : PySem.W.isFn K (.ref f_Book_facing) = true
  fn_Book_judged_page : PySem.W.isFn K (.ref f_Book_judged_page) = true
  t_FACING : Tok
  c_FACING : mg "FACING" = some (.str "facing" t_FACING)
  t_HERE : Tok
  c_HERE : mg "HERE" = some (.str "here" t_HERE)
  t_LONGEST_ROW : Tok
  c_LONGEST_ROW : mg "LONGEST_ROW" = some (.int 120 t_LONGEST_ROW)
  t_MOST_LEAVES : Tok
  c_MOST_LEAVES : mg "MOST_LEAVES" = some (.int 60 t_MOST_LEAVES)
  t_MOST_PARTS : Tok
  c_MOST_PARTS : mg "MOST_PARTS" = some (.int 3 t_MOST_PARTS)
  t_MOST_ROWS : Tok
  c_MOST_ROWS : mg "MOST_ROWS" = some (.int 12 t_MOST_ROWS)
  t_MOST_SIGNS : Tok
  c_MOST_SIGNS : mg "MOST_SIGNS" = some (.int 20 t_MOST_SIGNS)
  t_MOST_TOKENS : Tok
  c_MOST_TOKENS : mg "MOST_TOKENS" = some (.int 30 t_MOST_TOKENS)
  t_OVERLEAF : Tok
  c_OVERLEAF : mg "OVERLEAF" = some (.str "overleaf" t_OVERLEAF)
  t_SIDES : Tok
  c_SIDES : mg "SIDES" = some (.str "ab" t_SIDES)
  m_abs : mg "abs" = none
  m_all : mg "all" = none
  m_bool : mg "bool" = none
  m_enumerate : mg "enumerate" = none
  m_int : mg "int" = none
  m_isinstance : mg "isinstance" = none
  m_len : mg "len" = none
  m_list : mg "list" = none
  m_range : mg "range" = none
  m_str : mg "str" = none
  m_sum : mg "sum" = none
  m_tuple : mg "tuple" = none
  m_zip : mg "zip" = none
/-! ### heaps and sources -/
theorem un2 {k : Nat} {A : Around} (r : Room k A) : A.units + 65 < cLine := by have := r.un; omega
theorem same_upd {H : Hp} {p : Addr} {o : HO} (h : H p = none) : Same H (upd H p o) := fun b x e => by
  rw [upd_ne (ne_of_none e h)]
  exact e
/-- all but a stand as they stood -/
def But (a : Addr) (H H' : Hp) : Prop := ∀ b o, b ≠ a → H b = some o → H' b = some o
theorem But.refl (a : Addr) (H : Hp) : But a H H := fun _ _ _ e => e
theorem But.trans {a : Addr} {H H1 H2 : Hp} (x : But a H H1) (y : But a H1 H2) : But a H H2 := fun b o n e => y b o n (x b o n e)
theorem But.of {a : Addr} {H H1 : Hp} (x : Same H H1) : But a H H1 := fun b o _ e => x b o e
theorem But.upd {a : Addr} {H : Hp} (o : HO) : But a H (upd H a o) := fun b u n e => by
  rw [upd_ne n]
  exact e
/-- what changes is not there at first -/
theorem But.same {a : Addr} {H0 H H' : Hp} (n : H0 a = none) (s : Same H0 H) (x : But a H H') : Same H0 H' := fun b o e => x b o (ne_of_none e n) (s b o e)
/-- a source of numbers: three ints -/
def Src (H : Hp) (a : Addr) : Prop := ∃ g x c : Int, H a = some (.lst [.int g, .int x, .int c])
theorem cut_map (ns : List Int) (lo hi : Option Int) : ∃ ms : List Int, cutV (ns.map V.int) lo hi = ms.map V.int := by
  unfold cutV
  exact ⟨_, by rw [← List.map_drop, ← List.map_take]⟩
theorem at_of' {α : Type} {xs : List α} {z : Int} {j : Nat} {v : α} (e : z = (j : Int)) (h : xs[j]? = some v) : atI xs z = some v := by
  subst e
  exact atI_nat h
theorem str_len_snoc (z : Str) (c : Nat) : (z ++ (⟨#[c]⟩ : Str)).length = z.length + 1 := by
  show (z.cps ++ #[c]).size = z.cps.size + 1
  rw [Array.size_append]
  rfl
theorem But.none {a D : Addr} {H H3 : Hp} (x : But a H H3) (n : H3 D = .none) (h : D ≠ a) : H D = .none := by
  cases e : H D with
  | none => rfl
  | some o =>
    rw [x D o h e] at n
    cases n
theorem But.put {a D : Addr} {H H' : Hp} (x : But a H H') (n : H D = .none) (o : HO) : But a H (L2.upd H' D o) := fun b u nb e => by
  rw [upd_ne (ne_of_none e n)]
  exact x b u nb e
theorem Src.put {a D : Addr} {H : Hp} (x : Src H a) (n : a ≠ D) (o : HO) : Src (upd H D o) a := by
  obtain ⟨g, y, c, e⟩ := x
  exact ⟨g, y, c, by rw [upd_ne n]; exact e⟩
theorem Src.ne {a D : Addr} {H : Hp} (x : Src H a) (n : H D = .none) : a ≠ D := by
  obtain ⟨g, y, c, e⟩ := x
  exact ne_of_none e n
theorem get_map {xs : List Str} {i : Nat} {x : V} (h : (xs.map V.str)[i]? = some x) : ∃ z, x = .str z ∧ xs[i]? = some z := by
  rw [List.getElem?_map] at h
  cases e : xs[i]? with
  | none => rw [e] at h; cases h
  | some z => rw [e] at h; exact ⟨z, (Option.some.inj h).symm, rfl⟩
theorem get_mapR {xs : List Addr} {i : Nat} {x : V} (h : (xs.map V.ref)[i]? = some x) : ∃ z, x = .ref z ∧ z ∈ xs := by
  rw [List.getElem?_map] at h
  cases e : xs[i]? with
  | none => rw [e] at h; cases h
  | some z => rw [e] at h; exact ⟨z, (Option.some.inj h).symm, List.mem_of_getElem? e⟩
section
variable {X : Cx} {tg e : Expr} {w1 w2 : TI}
theorem pi_or (a : PI X tg e w1) (b : PI X tg e w2) : PI X tg e (fun σ H R => w1 σ H R ∨ w2 σ H R) :=
  ⟨fun pins s σ H R I h => h.elim (fun h => a.run pins s σ H R I h) (fun h => b.run pins s σ H R I h)⟩
theorem op_rep_str : OpR X (binaryOp .Mult) (fun x y H Q => ∃ z n, x = .str z ∧ y = .int n ∧ PySem.MulOk z n ∧ Q (.str (Txt.mul z n)) H) := by
  intro pins s σ H x y v u Q I rx ry h
  obtain ⟨z, n, rfl, rfl, hm, q⟩ := h
  obtain ⟨t, rfl⟩ := rx
  obtain ⟨t', rfl⟩ := ry
  exact PySem.SB.mul hm (fun t' tk => ⟨.str _, H, I.tok _, ⟨_, rfl⟩, q⟩)
end
theorem eq_strs {K : PySem.W.Frag} {H : Hp} : ∀ zs : List Str, Paired (EqV K H 1) (zs.map V.str) (zs.map V.str)
  | [] => .nil
  | z :: r => .cons (.inl ⟨rfl, rfl⟩) (eq_strs r)
theorem same_seqT {K : PySem.W.Frag} {H H' : Hp} {a : Addr} {xs : List V} (e : Same H H') (h : SqT K H a xs) : SqT K H' a xs :=
  h.elim (fun r => .inl (r.elim (fun e1 => .inl (e _ _ e1)) (fun ⟨o, e1⟩ => .inr ⟨o, e _ _ e1⟩))) .inr
theorem same_sq {K : PySem.W.Frag} {H H' : Hp} {a : Addr} {xs : List V} (e : Same H H') (h : SqL K H a xs ∨ SqT K H a xs) : SqL K H' a xs ∨ SqT K H' a xs :=
  h.elim (fun h => .inl (e.seq h)) (fun h => .inr (same_seqT e h))
theorem same_put {H H' : Hp} {b : Addr} (x : Same H H') (n : H b = .none) (o : HO) : Same H (upd H' b o) := fun c u e => by
  rw [upd_ne (ne_of_none e n)]
  exact x c u e
/-! ### == of rows of texts and of numbers -/
theorem dp_strs {K : PySem.W.Frag} {H : Hp} : ∀ zs : List Str, DpAll K H (zs.map V.str) (zs.map PyData.str)
  | [] => .nil
  | z :: r => .cons (.str z) (dp_strs r)
theorem dp_ints {K : PySem.W.Frag} {H : Hp} : ∀ zs : List Int, DpAll K H (zs.map V.int) (zs.map PyData.int)
  | [] => .nil
  | z :: r => .cons (.int z) (dp_ints r)
theorem can_strs : ∀ zs : List Str, (∀ z ∈ zs, PyData.strOk z = true) → PyData.canLayAll0 (zs.map PyData.str) = true
  | [], _ => rfl
  | z :: r, h => by
    show (PyData.strOk z && PyData.canLayAll0 (r.map PyData.str)) = true
    rw [can_strs r fun y hy => h y (List.mem_cons_of_mem _ hy), Bool.and_true]
    exact h z (List.mem_cons_self ..)
theorem can_ints : ∀ zs : List Int, PyData.canLayAll0 (zs.map PyData.int) = true
  | [] => rfl
  | z :: r => by
    show (true && PyData.canLayAll0 (r.map PyData.int)) = true
    rw [can_ints r]
    rfl
theorem depth_strs : ∀ zs : List Str, PyData.depthAll (zs.map PyData.str) = 0
  | [] => rfl
  | z :: r => by
    show max 0 (PyData.depthAll (r.map PyData.str)) = 0
    rw [depth_strs r]
    rfl
theorem depth_ints : ∀ zs : List Int, PyData.depthAll (zs.map PyData.int) = 0
  | [] => rfl
  | z :: r => by
    show max 0 (PyData.depthAll (r.map PyData.int)) = 0
    rw [depth_ints r]
    rfl
theorem shaped_l (zs : List Str) (h : ∀ z ∈ zs, PyData.strOk z = true) : SeqAt.shaped (.list (zs.map PyData.str)) = true := by
  unfold SeqAt.shaped
  rw [Bool.and_eq_true]
  refine ⟨can_strs zs h, decide_eq_true ?_⟩
  show PyData.depthAll (zs.map PyData.str) + 1 ≤ 64
  rw [depth_strs]
  decide
theorem shaped_t (zs : List Str) (h : ∀ z ∈ zs, PyData.strOk z = true) : SeqAt.shaped (.tuple (zs.map PyData.str)) = true := by
  unfold SeqAt.shaped
  rw [Bool.and_eq_true]
  refine ⟨can_strs zs h, decide_eq_true ?_⟩
  show PyData.depthAll (zs.map PyData.str) + 1 ≤ 64
  rw [depth_strs]
  decide
theorem shaped_il (zs : List Int) : SeqAt.shaped (.list (zs.map PyData.int)) = true := by
  unfold SeqAt.shaped
  rw [Bool.and_eq_true]
  refine ⟨can_ints zs, decide_eq_true ?_⟩
  show PyData.depthAll (zs.map PyData.int) + 1 ≤ 64
  rw [depth_ints]
  decide
theorem shaped_it (zs : List Int) : SeqAt.shaped (.tuple (zs.map PyData.int)) = true := by
  unfold SeqAt.shaped
  rw [Bool.and_eq_true]
  refine ⟨can_ints zs, decide_eq_true ?_⟩
  show PyData.depthAll (zs.map PyData.int) + 1 ≤ 64
  rw [depth_ints]
  decide
theorem eqv_strs : ∀ xs ys : List Str, PyData.eqvAll (xs.map PyData.str) (ys.map PyData.str) = decide (xs = ys)
  | [], [] => rfl
  | [], y :: s => rfl
  | x :: r, [] => rfl
  | x :: r, y :: s => by
    show ((x == y) && PyData.eqvAll (r.map PyData.str) (s.map PyData.str)) = decide (x :: r = y :: s)
    rw [eqv_strs r s]
    by_cases h : x = y
    · subst h
      simp
    · simp [h]
theorem eqv_ints : ∀ xs ys : List Int, PyData.eqvAll (xs.map PyData.int) (ys.map PyData.int) = decide (xs = ys)
  | [], [] => rfl
  | [], y :: s => rfl
  | x :: r, [] => rfl
  | x :: r, y :: s => by
    show ((x == y) && PyData.eqvAll (r.map PyData.int) (s.map PyData.int)) = decide (x :: r = y :: s)
    rw [eqv_ints r s]
    by_cases h : x = y
    · subst h
      simp
    · simp [h]
theorem ok_app (a b : Str) (ha : PyData.strOk a = true) (hb : PyData.strOk b = true) : PyData.strOk (a ++ b) = true := by
  show (a.cps ++ b.cps).all (· < 0x110000) = true
  rw [Array.all_append]
  exact Bool.and_eq_true_iff.mpr ⟨ha, hb⟩
/-! ### labels, pages, ranges as words -/
def rdN : List Nat → Option Int
  | [a] => if 48 ≤ a ∧ a ≤ 57 then some ((a : Int) - 48) else none
  | [a, b] => if (48 < a ∧ a ≤ 57) ∧ (48 ≤ b ∧ b ≤ 57) then some (((a : Int) - 48) * 10 + ((b : Int) - 48)) else none
  | _ => none
def rdI (z : Str) : Option Int := rdN z.cps.toList
def allSome : List (Option Int) → Option (List Int)
  | [] => some []
  | none :: _ => none
  | some i :: r => match allSome r with | some L => some (i :: L) | none => none
def keep (os : List (Option Int)) : Option (List Int) :=
  match allSome os with
  | some L => if L.length ≤ 3 ∧ L.getLastD 0 ≠ 0 then some L else none
  | none => none
def rdL (z : Str) : Option (List Int) := keep ((Txt.split z ".").map rdI)
abbrev Pg := List Int × Int
def rdP (z : Str) : Option Pg :=
  match z.cps.toList.getLast? with
  | some c => if c = 97 ∨ c = 98 then (match rdL (cutS z none (some (-1))) with | some L => some (L, (c : Int) - 97) | none => none) else none
  | none => none
def rdR (z : Str) : Option (Pg × Pg) :=
  match (Txt.split z "-").map rdP with
  | [some p] => some (p, p)
  | [some p, some q] => some (p, q)
  | _ => none
def rdR2 : List (Option Pg) → Option (Pg × Pg)
  | [some p] => some (p, p)
  | [some p, some q] => some (p, q)
  | _ => none
theorem rdR_eq (z : Str) : rdR z = rdR2 ((Txt.split z "-").map rdP) := by
  unfold rdR
  generalize (Txt.split z "-").map rdP = ps
  match ps with
  | [] => rfl
  | [none] => rfl
  | [some p] => rfl
  | [none, b] => rfl
  | [some p, none] => rfl
  | [some p, some q] => rfl
  | none :: b :: c :: r => rfl
  | some a :: none :: c :: r => rfl
  | some a :: some b :: c :: r => rfl
def okL (L : List Int) : Prop := L.length ≤ 3 ∧ L.getLastD 0 ≠ 0 ∧ ∀ i ∈ L, 0 ≤ i ∧ i ≤ 99
def okP (p : Pg) : Prop := okL p.1 ∧ (p.2 = 0 ∨ p.2 = 1)
def fL (L : List Int) : Str := Txt.join "." (L.map fun i => (toString i : Str))
def fP (p : Pg) : Str := fL p.1 ++ (if p.2 = 0 then ("a" : Str) else "b")
def fR (p q : Pg) : Str := if fP p = fP q then fP p else fP p ++ "-" ++ fP q
def dL (L : List Int) : PyData := .tuple (L.map PyData.int)
def dP (p : Pg) : PyData := .tuple [dL p.1, .int p.2]
def dR (r : Pg × Pg) : PyData := .tuple [dP r.1, dP r.2]
def oD {α : Type} (f : α → PyData) : Option α → PyData
  | none => .none
  | some x => f x
def optI : Option Int → V
  | none => .non
  | some i => .int i
theorem num_all : ((List.range 100).all fun i => decide (((toString (i : Int) : Str)).length ≤ 2) && decide (1 ≤ ((toString (i : Int) : Str)).length) && ((toString (i : Int) : Str)).cps.toList.all (fun c => decide (48 ≤ c ∧ c ≤ 57)) && decide (rdI (toString (i : Int)) = some (i : Int))) = true := by decide +kernel
theorem num_ok {i : Int} (h0 : 0 ≤ i) (h1 : i ≤ 99) : ((toString i : Str)).length ≤ 2 ∧ 1 ≤ ((toString i : Str)).length ∧ (∀ c ∈ ((toString i : Str)).cps.toList, 48 ≤ c ∧ c ≤ 57) ∧ rdI (toString i) = some i := by
  have h := List.all_eq_true.mp num_all i.toNat (List.mem_range.mpr (by omega))
  rw [Int.toNat_of_nonneg h0] at h
  simp only [Bool.and_eq_true, decide_eq_true_eq, List.all_eq_true] at h
  exact ⟨h.1.1.1, h.1.1.2, h.1.2, h.2⟩
theorem int_all : ((List.range 10).all fun i => decide (PySem.intText? (⟨#[48 + i]⟩ : Str) = some (i : Int)) && (List.range 10).all fun j => decide (PySem.intText? (⟨#[48 + i, 48 + j]⟩ : Str) = some ((i : Int) * 10 + (j : Int)))) = true := by decide +kernel
theorem int1 {a : Nat} (h : 48 ≤ a ∧ a ≤ 57) : PySem.intText? (⟨#[a]⟩ : Str) = some ((a : Int) - 48) := by
  have h1 := List.all_eq_true.mp int_all (a - 48) (List.mem_range.mpr (by omega))
  simp only [Bool.and_eq_true, decide_eq_true_eq] at h1
  have h2 := h1.1
  rw [show 48 + (a - 48) = a by omega] at h2
  rw [h2]
  congr 1
  omega
theorem int2 {a b : Nat} (h : 48 ≤ a ∧ a ≤ 57) (hb : 48 ≤ b ∧ b ≤ 57) : PySem.intText? (⟨#[a, b]⟩ : Str) = some (((a : Int) - 48) * 10 + ((b : Int) - 48)) := by
  have h1 := List.all_eq_true.mp int_all (a - 48) (List.mem_range.mpr (by omega))
  simp only [Bool.and_eq_true, decide_eq_true_eq] at h1
  have h2 := List.all_eq_true.mp h1.2 (b - 48) (List.mem_range.mpr (by omega))
  simp only [decide_eq_true_eq] at h2
  rw [show 48 + (a - 48) = a by omega, show 48 + (b - 48) = b by omega] at h2
  rw [h2]
  congr 1
  omega
theorem rd_bound {z : Str} {i : Int} (h : rdI z = some i) : 0 ≤ i ∧ i ≤ 99 := by
  unfold rdI at h
  match e : z.cps.toList with
  | [] => rw [e] at h; cases h
  | [a] =>
    rw [e] at h
    simp only [rdN] at h
    split at h
    · injection h with h; omega
    · cases h
  | [a, b] =>
    rw [e] at h
    simp only [rdN] at h
    split at h
    · injection h with h; omega
    · cases h
  | a :: b :: c :: r => rw [e] at h; cases h
theorem allSome_map (L : List Int) : allSome (L.map some) = some L := by
  induction L with
  | nil => rfl
  | cons i r ih => rw [List.map_cons]; unfold allSome; rw [ih]
theorem keep_ok {L : List Int} (h : okL L) : keep (L.map some) = some L := by
  unfold keep
  rw [allSome_map]
  simp only
  rw [if_pos ⟨h.1, h.2.1⟩]
theorem okL_ne {L : List Int} (h : okL L) : L ≠ [] := fun e => by
  subst e
  exact h.2.1 rfl
theorem rdL_fL {L : List Int} (h : okL L) : rdL (fL L) = some L := by
  unfold rdL fL
  rw [TL.split_join (s := 46) (S := []) (by rfl) (by decide +kernel) (fun e => okL_ne h (List.map_eq_nil_iff.mp e)) fun p hp => ?_]
  · rw [List.map_map]
    have e : L.map (rdI ∘ fun i => (toString i : Str)) = L.map some := List.map_congr_left fun i hi => (num_ok (h.2.2 i hi).1 (h.2.2 i hi).2).2.2.2
    rw [e, keep_ok h]
  · obtain ⟨i, hi, rfl⟩ := List.mem_map.mp hp
    intro hc
    have := (num_ok (h.2.2 i hi).1 (h.2.2 i hi).2).2.2.1 46 hc
    omega
theorem cut_m1 (z : Str) (c : Nat) : cutS (z ++ (⟨#[c]⟩ : Str)) none (some (-1)) = z := by
  unfold cutS
  have e : (z ++ (⟨#[c]⟩ : Str)).cps.toList = z.cps.toList ++ [c] := cps_toList_append z _
  have l : (z ++ (⟨#[c]⟩ : Str)).length = z.length + 1 := str_len_snoc z c
  rw [e, HT.sIx_none, List.drop_zero, l]
  rw [show HT.sIx (z.length + 1) (z.length + 1) (some (-1)) = z.length by
    show ((-1 : Int) + ((z.length + 1 : Nat) : Int)).toNat = z.length
    omega]
  rw [Nat.sub_zero, List.take_left' (show z.cps.toList.length = z.length from rfl)]
theorem rdP_fP {p : Pg} (h : okP p) : rdP (fP p) = some p := by
  obtain ⟨L, s⟩ := p
  obtain ⟨hL, hs⟩ := h
  have key : ∀ c : Nat, rdP (fL L ++ (⟨#[c]⟩ : Str)) = if c = 97 ∨ c = 98 then some (L, (c : Int) - 97) else none := fun c => by
    unfold rdP
    rw [show (fL L ++ (⟨#[c]⟩ : Str)).cps.toList = (fL L).cps.toList ++ [c] from cps_toList_append _ _, List.getLast?_append, cut_m1, rdL_fL hL]
    rfl
  rcases hs with rfl | rfl
  · exact key 97
  · exact key 98
theorem fP_inj {p q : Pg} (hp : okP p) (hq : okP q) (e : fP p = fP q) : p = q := by
  have h := rdP_fP hp
  rw [e, rdP_fP hq] at h
  exact (Option.some.inj h).symm
theorem fL_free {L : List Int} (h : okL L) : ∀ c ∈ (fL L).cps.toList, c ≠ 45 := by
  intro c hc e
  subst e
  unfold fL at hc
  rw [TL.join_eq] at hc
  rcases (mem_join _ _ _).mp hc with ⟨t, ht, h1⟩ | ⟨_, h1⟩
  · obtain ⟨i, hi, rfl⟩ := List.mem_map.mp ht
    have := (num_ok (h.2.2 i hi).1 (h.2.2 i hi).2).2.2.1 45 h1
    omega
  · revert h1
    decide +kernel
theorem fP_free {p : Pg} (h : okP p) : 45 ∉ TL.tl (fP p) := by
  intro hc
  have hc2 : 45 ∈ (fP p).cps.toList := hc
  unfold fP at hc2
  rw [cps_toList_append] at hc2
  rcases List.mem_append.mp hc2 with h1 | h1
  · exact fL_free h.1 45 h1 rfl
  · split at h1 <;> (revert h1; decide +kernel)
theorem rdR_two {p q : Pg} (hp : okP p) (hq : okP q) : rdR (fP p ++ "-" ++ fP q) = some (p, q) := by
  unfold rdR
  have e : fP p ++ "-" ++ fP q = Txt.join "-" [fP p, fP q] := by rw [TL.join_eq]; rfl
  rw [e, TL.split_join (s := 45) (S := []) (by rfl) (by decide +kernel) (by simp) fun z hz => ?_]
  · simp only [List.map_cons, List.map_nil, rdP_fP hp, rdP_fP hq]
  · rcases List.mem_cons.mp hz with h | h
    · rw [h]; exact fP_free hp
    · rw [List.mem_singleton.mp h]; exact fP_free hq
theorem rdR_one {p : Pg} (hp : okP p) : rdR (fP p) = some (p, p) := by
  unfold rdR
  have e : fP p = Txt.join "-" [fP p] := by rw [TL.join_eq]; rfl
  rw [e, TL.split_join (s := 45) (S := []) (by rfl) (by decide +kernel) (by simp) fun z hz => ?_]
  · simp only [List.map_cons, List.map_nil]
    rw [rdP_fP hp]
  · rw [List.mem_singleton.mp hz]; exact fP_free hp
theorem rdR_fR {p q : Pg} (hp : okP p) (hq : okP q) : rdR (fR p q) = some (p, q) := by
  unfold fR
  split
  · rename_i e
    rw [← fP_inj hp hq e]
    exact rdR_one hp
  · exact rdR_two hp hq
theorem fL_len {L : List Int} (h : okL L) : (fL L).length ≤ 8 ∧ 1 ≤ (fL L).length := by
  have hn := okL_ne h
  have l1 : ("." : Str).length = 1 := by decide +kernel
  have ap : ∀ x y : Str, (x ++ y).length = x.length + y.length := fun x y => by
    show (x.cps ++ y.cps).size = _
    rw [Array.size_append]; rfl
  have nn := fun i hi => num_ok (h.2.2 i hi).1 (h.2.2 i hi).2
  unfold fL
  rw [TL.join_eq]
  match L, h, hn, nn with
  | [a], _, _, nn =>
    have := nn a (List.mem_singleton.mpr rfl)
    show ((toString a : Str)).length ≤ 8 ∧ 1 ≤ ((toString a : Str)).length
    omega
  | [a, b], _, _, nn =>
    have h1 := nn a (by simp)
    have h2 := nn b (by simp)
    show ((toString a : Str) ++ "." ++ (toString b : Str)).length ≤ 8 ∧ 1 ≤ ((toString a : Str) ++ "." ++ (toString b : Str)).length
    rw [ap, ap, l1]
    omega
  | [a, b, c], _, _, nn =>
    have h1 := nn a (by simp)
    have h2 := nn b (by simp)
    have h3 := nn c (by simp)
    show ((toString a : Str) ++ "." ++ ((toString b : Str) ++ "." ++ (toString c : Str))).length ≤ 8 ∧ 1 ≤ ((toString a : Str) ++ "." ++ ((toString b : Str) ++ "." ++ (toString c : Str))).length
    rw [ap, ap, ap, ap, l1]
    omega
  | a :: b :: c :: d :: r, h, _, _ => have := h.1; simp only [List.length_cons] at this; omega
theorem fP_len {p : Pg} (h : okP p) : (fP p).length ≤ 9 ∧ 2 ≤ (fP p).length := by
  have h1 := fL_len h.1
  have ap : ∀ x y : Str, (x ++ y).length = x.length + y.length := fun x y => by
    show (x.cps ++ y.cps).size = _
    rw [Array.size_append]; rfl
  unfold fP
  rw [ap]
  have : (if p.2 = 0 then ("a" : Str) else "b").length = 1 := by split <;> decide +kernel
  omega
/-! ### data in the heap -/
def Seq (K : PySem.W.Frag) (H : Hp) (a : Addr) (xs : List V) : Prop := SqL K H a xs ∨ SqT K H a xs
def PageAt (K : PySem.W.Frag) (H : Hp) (v : V) (p : Pg) : Prop := ∃ a l : Addr, v = .ref a ∧ Seq K H a [.ref l, .int p.2] ∧ Seq K H l (p.1.map V.int)
theorem ty_L {K : PySem.W.Frag} {H : Hp} {a : Addr} {xs : List V} (h : SqL K H a xs) : TyX K H (.ref a) (.type "list") := by
  rcases h with (h | ⟨o, h⟩) | ⟨o, its, n, h, c, _⟩
  · exact .base (.lst h)
  · exact .base (.frz h)
  · exact .kList h c
theorem ty_T {K : PySem.W.Frag} {H : Hp} {a : Addr} {xs : List V} (h : SqT K H a xs) : TyX K H (.ref a) (.type "tuple") := by
  rcases h with (h | ⟨o, h⟩) | ⟨o, its, n, h, c, _⟩
  · exact .base (.tup h)
  · exact .fTuple h
  · exact .kTuple h c
theorem kit2_T {K : PySem.W.Frag} : PySem.W.kitAny K (.type "tuple") [.type "tuple", .type "list"] = some true :=
  kitAny_cons (kit_ty (r := true) (by decide +kernel)) (fun h => nomatch h) (fun _ => rfl)
theorem kit2_L {K : PySem.W.Frag} : PySem.W.kitAny K (.type "list") [.type "tuple", .type "list"] = some true :=
  kitAny_cons (kit_ty (r := false) (by decide +kernel)) (fun _ => kitAny_cons (kit_ty (r := true) (by decide +kernel)) (fun h => nomatch h) (fun _ => rfl)) (fun h => nomatch h)
mutual
theorem dp_same {K : PySem.W.Frag} {H H' : Hp} (e : Same H H') : ∀ {v : V} {d : PyData}, Dp K H v d → Dp K H' v d
  | _, _, .non => .non
  | _, _, .bl b => .bl b
  | _, _, .int i => .int i
  | _, _, .str x => .str x
  | _, _, .lst h a => .lst (e.seq h) (dpAll_same e a)
  | _, _, .tup h a => .tup (same_seqT e h) (dpAll_same e a)
theorem dpAll_same {K : PySem.W.Frag} {H H' : Hp} (e : Same H H') : ∀ {vs : List V} {ds : List PyData}, DpAll K H vs ds → DpAll K H' vs ds
  | _, _, .nil => .nil
  | _, _, .cons h a => .cons (dp_same e h) (dpAll_same e a)
end
theorem dpL {K : PySem.W.Frag} {H : Hp} {a : Addr} {L : List Int} (h : SqT K H a (L.map V.int)) : Dp K H (.ref a) (dL L) := .tup h (dp_ints L)
theorem dp_ints_inv {K : PySem.W.Frag} {H : Hp} : ∀ {L : List Int} {vs : List V}, DpAll K H vs (L.map PyData.int) → vs = L.map V.int
  | [], _, .nil => rfl
  | i :: r, _, .cons h a => by
    cases h
    rw [dp_ints_inv a]
    rfl
theorem dL_inv {K : PySem.W.Frag} {H : Hp} {v : V} {L : List Int} (h : Dp K H v (dL L)) : ∃ a, v = .ref a ∧ SqT K H a (L.map V.int) := by
  cases h with
  | tup h a =>
    rw [dp_ints_inv a] at h
    exact ⟨_, rfl, h⟩
theorem dP_inv {K : PySem.W.Frag} {H : Hp} {v : V} {p : Pg} (h : Dp K H v (dP p)) : ∃ a l, v = .ref a ∧ SqT K H a [.ref l, .int p.2] ∧ SqT K H l (p.1.map V.int) := by
  cases h with
  | tup h a =>
    cases a with
    | cons h1 a =>
      cases a with
      | cons h2 a =>
        cases a
        cases h2
        obtain ⟨l, rfl, hl⟩ := dL_inv h1
        exact ⟨_, l, rfl, h, hl⟩
theorem dR_inv {K : PySem.W.Frag} {H : Hp} {v : V} {r : Pg × Pg} (h : Dp K H v (dR r)) : ∃ a x y, v = .ref a ∧ SqT K H a [x, y] ∧ Dp K H x (dP r.1) ∧ Dp K H y (dP r.2) := by
  cases h with
  | tup h a =>
    cases a with
    | cons h1 a =>
      cases a with
      | cons h2 a =>
        cases a
        exact ⟨_, _, _, rfl, h, h1, h2⟩
theorem pageAt_of {K : PySem.W.Frag} {H : Hp} {v : V} {p : Pg} (h : Dp K H v (dP p)) : PageAt K H v p := by
  obtain ⟨a, l, rfl, h1, h2⟩ := dP_inv h
  exact ⟨a, l, rfl, .inr h1, .inr h2⟩
theorem pageAt_same {K : PySem.W.Frag} {H H' : Hp} (e : Same H H') {v : V} {p : Pg} (h : PageAt K H v p) : PageAt K H' v p := by
  obtain ⟨a, l, rfl, h1, h2⟩ := h
  exact ⟨a, l, rfl, same_sq e h1, same_sq e h2⟩
theorem dp_opt {K : PySem.W.Frag} {H : Hp} {v : V} {α : Type} {f : α → PyData} (h : Dp K H v (oD f none)) : v = .non := by
  cases h
  rfl
theorem log_small {n : Nat} (h : n ≤ 99) : n.log2 < 1920 := Nat.lt_of_le_of_lt (Nat.log2_le_self n) (by omega)
section
variable {X : Cx} {e : Expr} {t u : TG}
theorem pg_or (a : PG X e t) (b : PG X e u) : PG X e (fun v σ H Q => t v σ H Q ∨ u v σ H Q) :=
  ⟨fun pins s σ H v w Q I r h => h.elim (fun h => a.run pins s σ H v w Q I r h) (fun h => b.run pins s σ H v w Q I r h)⟩
end
def dg (c : Nat) : Bool := decide (48 ≤ c ∧ c ≤ 57)
theorem dig_in (c : Nat) : decide (c ∈ ("0123456789" : Str).cps.toList) = dg c := by
  have e : ("0123456789" : Str).cps.toList = [48, 49, 50, 51, 52, 53, 54, 55, 56, 57] := by decide +kernel
  unfold dg
  rw [e]
  apply decide_eq_decide.mpr
  simp only [List.mem_cons, List.not_mem_nil, or_false]
  omega
theorem str1 {z : Str} {a : Nat} (h : z.cps.toList = [a]) : z = ⟨#[a]⟩ := TL.ext_tl h
theorem str2 {z : Str} {a b : Nat} (h : z.cps.toList = [a, b]) : z = ⟨#[a, b]⟩ := TL.ext_tl h
theorem len_cps (z : Str) : z.length = z.cps.toList.length := rfl
theorem zero_ne2 (a b : Nat) : (V.str ⟨#[a, b]⟩ = V.str "0") = False := by
  apply propext
  refine ⟨fun h => ?_, False.elim⟩
  injection h with h
  have := congrArg (fun s : Str => s.cps.size) h
  cases this
theorem zero_eq1 (a : Nat) : (V.str ⟨#[a]⟩ = V.str "0") = (a = 48) := by
  apply propext
  refine ⟨fun h => ?_, fun h => by subst h; rfl⟩
  injection h with h
  injection h with h
  exact (List.cons.inj (congrArg Array.toList h)).1
theorem split_cnt (x y : Str) (hy : 1 ≤ y.length) : (Txt.split x y).length ≤ x.length + 1 := by
  have := split_weight x y hy
  omega
theorem mem_sum {zs : List Str} {z : Str} (h : z ∈ zs) : z.length + zs.length ≤ (zs.map (·.length)).sum + zs.length := by
  have : z.length ≤ (zs.map (·.length)).sum := by
    induction zs with
    | nil => cases h
    | cons y r ih =>
      rw [List.map_cons, List.sum_cons]
      rcases List.mem_cons.mp h with e | e
      · rw [e]; omega
      · have := ih e; omega
  omega
theorem split_part (x y : Str) (hy : 1 ≤ y.length) {z : Str} (h : z ∈ Txt.split x y) : z.length ≤ x.length := by
  have h1 := split_weight x y hy
  have h2 := mem_sum h
  have h3 : 1 ≤ (Txt.split x y).length := List.length_pos_of_mem h
  omega
theorem rdI_some {os : List Str} {i : Int} (h : some i ∈ os.map rdI) : 0 ≤ i ∧ i ≤ 99 := by
  obtain ⟨z, _, e⟩ := List.mem_map.mp h
  exact rd_bound e
theorem some_bound {L : List Int} (h : okL L) {i : Int} (hi : some i ∈ L.map some) : 0 ≤ i ∧ i ≤ 99 := by
  obtain ⟨j, hj, e⟩ := List.mem_map.mp hi
  injection e with e
  subst e
  exact h.2.2 _ hj
theorem optI_map (L : List Int) : (L.map some).map optI = L.map V.int := by
  rw [List.map_map]
  rfl
theorem num_fit {L : List Int} (h : okL L) : ((L.map fun i => (toString i : Str)).map (·.length)).sum + (L.map fun i => (toString i : Str)).length * ("." : Str).length ≤ 16777216 := by
  have l1 : ("." : Str).length = 1 := by decide +kernel
  have h1 : ((L.map fun i => (toString i : Str)).map (·.length)).sum ≤ 2 * L.length := by
    have hb := h.2.2
    clear h
    induction L with
    | nil => exact Nat.le_refl _
    | cons i r ih =>
      have hi := num_ok (hb i (List.mem_cons_self ..)).1 (hb i (List.mem_cons_self ..)).2
      have := ih fun j hj => hb j (List.mem_cons_of_mem _ hj)
      simp only [List.map_cons, List.sum_cons, List.length_cons]
      omega
  have h2 := h.1
  rw [l1, List.length_map]
  omega
theorem split_ne (x y : Str) : Txt.split x y ≠ [] := by
  unfold Txt.split
  split
  · simp
  · split
    · simp
    · rw [StrLaws.partsBetween_eq]
      intro h
      generalize Builtin.Str.occurrences x y 0 x.length (x.length + 1) = cuts at h
      cases cuts with
      | nil => cases h
      | cons c r => cases h
theorem seqT_but {K : PySem.W.Frag} {H H' : Hp} {a p : Addr} {xs ys : List V} (ha : H a = some (.lst xs)) (b : But a H H') (h : SqT K H p ys) : SqT K H' p ys :=
  h.elim (fun r => .inl (r.elim (fun e => .inl (b p _ (ne_of e ha (by intro z; cases z)) e)) (fun ⟨o, e⟩ => .inr ⟨o, b p _ (ne_of e ha (by intro z; cases z)) e⟩))) .inr
/-- nothing, ints, tuples -/
def Pn : Nat → PyData → Prop
  | _, .none => True
  | _, .int _ => True
  | n + 1, .tuple ds => ∀ d ∈ ds, Pn n d
  | _, _ => False
mutual
theorem dp_but {K : PySem.W.Frag} {H H' : Hp} {a : Addr} {xs : List V} (ha : H a = some (.lst xs)) (b : But a H H') : ∀ {v : V} {d : PyData}, Dp K H v d → (∃ n, Pn n d) → Dp K H' v d
  | _, _, .non, _ => .non
  | _, _, .bl b, _ => .bl b
  | _, _, .int i, _ => .int i
  | _, _, .str x, _ => .str x
  | _, _, .lst _ _, ⟨n, h⟩ => by cases n <;> exact h.elim
  | _, _, .tup h k, ⟨0, z⟩ => z.elim
  | _, _, .tup h k, ⟨n + 1, z⟩ => .tup (seqT_but ha b h) (dpAll_but ha b k fun d hd => ⟨n, z d hd⟩)
theorem dpAll_but {K : PySem.W.Frag} {H H' : Hp} {a : Addr} {xs : List V} (ha : H a = some (.lst xs)) (b : But a H H') : ∀ {vs : List V} {ds : List PyData}, DpAll K H vs ds → (∀ d ∈ ds, ∃ n, Pn n d) → DpAll K H' vs ds
  | _, _, .nil, _ => .nil
  | _, _, .cons h k, z => .cons (dp_but ha b h (z _ (List.mem_cons_self ..))) (dpAll_but ha b k fun d hd => z d (List.mem_cons_of_mem _ hd))
end
theorem dpAll_snoc {K : PySem.W.Frag} {H : Hp} : ∀ {vs : List V} {ds : List PyData} {v : V} {d : PyData}, DpAll K H vs ds → Dp K H v d → DpAll K H (vs ++ [v]) (ds ++ [d])
  | _, _, _, _, .nil, h => .cons h .nil
  | _, _, _, _, .cons k r, h => .cons k (dpAll_snoc r h)
theorem dpAll_len {K : PySem.W.Frag} {H : Hp} : ∀ {vs : List V} {ds : List PyData}, DpAll K H vs ds → vs.length = ds.length
  | _, _, .nil => rfl
  | _, _, .cons _ r => congrArg (· + 1) (dpAll_len r)
theorem pn_L (L : List Int) : Pn 1 (dL L) := fun d hd => by
  obtain ⟨i, _, rfl⟩ := List.mem_map.mp hd
  trivial
theorem pn_P (p : Pg) : Pn 2 (dP p) := fun d hd => by
  rcases List.mem_cons.mp hd with h | h
  · rw [h]; exact pn_L p.1
  · rw [List.mem_singleton.mp h]; trivial
theorem pn_oL : ∀ o : Option (List Int), Pn 1 (oD dL o)
  | none => trivial
  | some L => pn_L L
theorem pn_oP : ∀ o : Option Pg, Pn 2 (oD dP o)
  | none => trivial
  | some p => pn_P p
theorem lay_pn : ∀ (n : Nat) (d : PyData), Pn n d → d.canLay0 = true ∧ d.depth ≤ n
  | _, .none, _ => ⟨rfl, Nat.zero_le _⟩
  | _, .int _, _ => ⟨rfl, Nat.zero_le _⟩
  | 0, .tuple ds, h => h.elim
  | n + 1, .tuple ds, h => by
    have key : ∀ es : List PyData, (∀ d ∈ es, Pn n d) → PyData.canLayAll0 es = true ∧ PyData.depthAll es ≤ n := by
      intro es
      induction es with
      | nil => exact fun _ => ⟨rfl, Nat.zero_le _⟩
      | cons d r ih =>
        intro hh
        have h1 := lay_pn n d (hh d (List.mem_cons_self ..))
        have h2 := ih fun e he => hh e (List.mem_cons_of_mem _ he)
        refine ⟨?_, ?_⟩
        · show (d.canLay0 && PyData.canLayAll0 r) = true
          rw [h1.1, h2.1]
          rfl
        · show max d.depth (PyData.depthAll r) ≤ n
          omega
    have := key ds h
    exact ⟨this.1, Nat.succ_le_succ this.2⟩
  | _, .bool _, h => by simp [Pn] at h
  | _, .str _, h => by simp [Pn] at h
  | _, .list _, h => by simp [Pn] at h
  | _, .dict _, h => by simp [Pn] at h
theorem shaped_pn {n : Nat} {d : PyData} (h : Pn n d) (hn : n ≤ 64) : SeqAt.shaped d = true := by
  have := lay_pn n d h
  unfold SeqAt.shaped
  rw [Bool.and_eq_true]
  exact ⟨this.1, decide_eq_true (by omega)⟩
theorem shaped_pnl {n : Nat} {ds : List PyData} (h : ∀ d ∈ ds, Pn n d) (hn : n ≤ 63) : SeqAt.shaped (.list ds) = true := by
  have := lay_pn (n + 1) (.tuple ds) h
  unfold SeqAt.shaped
  rw [Bool.and_eq_true]
  exact ⟨this.1, decide_eq_true (by have := this.2; show PyData.depthAll ds + 1 ≤ 64; have e : (PyData.tuple ds).depth = PyData.depthAll ds + 1 := rfl; omega)⟩
theorem none_in (os : List (Option Pg)) : ((os.map (oD dP)).any fun z => PyData.eqv z .none) = os.any (·.isNone) := by
  induction os with
  | nil => rfl
  | cons o r ih =>
    rw [List.map_cons, List.any_cons, List.any_cons, ih]
    cases o <;> rfl
theorem cut_end (z : Str) : (z.cps.toList = [] ∧ cutS z (some (-1)) none = Str.empty) ∨ ∃ c, z.cps.toList.getLast? = some c ∧ cutS z (some (-1)) none = ⟨#[c]⟩ := by
  cases e : z.cps.toList.getLast? with
  | none =>
    have h := List.getLast?_eq_none_iff.mp e
    refine .inl ⟨h, ?_⟩
    unfold cutS
    rw [h]
    simp [Str.empty]
  | some c =>
    refine .inr ⟨c, rfl, ?_⟩
    obtain ⟨l, hl⟩ := List.getLast?_eq_some_iff.mp e
    unfold cutS
    have hz : z.length = l.length + 1 := by
      show z.cps.toList.length = _
      rw [hl, List.length_append]
      rfl
    rw [hz, HT.sIx_none, show HT.sIx (l.length + 1) 0 (some (-1)) = l.length by
      show ((-1 : Int) + ((l.length + 1 : Nat) : Int)).toNat = l.length
      omega, hl, List.drop_left' rfl]
    rw [show l.length + 1 - l.length = 1 by omega]
    rfl
theorem ab_in (y : Str) : inV (.str y) [.str "a", .str "b"] = decide (y = ⟨#[97]⟩ ∨ y = ⟨#[98]⟩) := by
  show ((("a" : Str) == y) || ((("b" : Str) == y) || false)) = _
  have ea : ("a" : Str) = ⟨#[97]⟩ := rfl
  have eb : ("b" : Str) = ⟨#[98]⟩ := rfl
  rw [ea, eb, Bool.or_false]
  by_cases h1 : y = ⟨#[97]⟩
  · subst h1; simp
  · by_cases h2 : y = ⟨#[98]⟩
    · subst h2; simp
    · have h1' : ¬ (⟨#[97]⟩ : Str) = y := fun e => h1 e.symm
      have h2' : ¬ (⟨#[98]⟩ : Str) = y := fun e => h2 e.symm
      simp [h1, h2, h1', h2']
theorem one_inj {a b : Nat} (h : (⟨#[a]⟩ : Str) = ⟨#[b]⟩) : a = b := by
  injection h with h
  exact (List.cons.inj (congrArg Array.toList h)).1
theorem eqv_dP (p q : Pg) : PyData.eqv (dP p) (dP q) = decide (p = q) := by
  show (PyData.eqvAll (p.1.map PyData.int) (q.1.map PyData.int) && ((p.2 == q.2) && true)) = _
  rw [eqv_ints, Bool.and_true]
  obtain ⟨a, b⟩ := p
  obtain ⟨c, d⟩ := q
  by_cases h1 : a = c
  · by_cases h2 : b = d
    · subst h1; subst h2; simp
    · simp [h1, h2]
  · simp [h1]
theorem allSome_none {os : List (Option Int)} (h : none ∈ os) : allSome os = none := by
  induction os with
  | nil => cases h
  | cons o r ih =>
    rcases o with _ | i
    · rfl
    · have h2 : none ∈ r := (List.mem_cons.mp h).resolve_left (by simp)
      unfold allSome
      rw [ih h2]
theorem keep_none {os : List (Option Int)} (h : none ∈ os) : keep os = none := by
  unfold keep
  rw [allSome_none h]
theorem keep_map (L : List Int) : keep (L.map some) = if L.length ≤ 3 ∧ L.getLastD 0 ≠ 0 then some L else none := by
  unfold keep
  rw [allSome_map]
/-! ### data that was laid since -/
mutual
inductive Fd (H0 H : Hp) : V → PyData → Prop
  | int (i : Int) : Fd H0 H (.int i) (.int i)
  | lst {a : Addr} {vs : List V} {ds : List PyData} (h : H a = some (.lst vs)) (n : H0 a = none) (r : FdAll H0 H vs ds) : Fd H0 H (.ref a) (.list ds)
inductive FdAll (H0 H : Hp) : List V → List PyData → Prop
  | nil : FdAll H0 H [] []
  | cons {v : V} {vs : List V} {d : PyData} {ds : List PyData} (h : Fd H0 H v d) (r : FdAll H0 H vs ds) : FdAll H0 H (v :: vs) (d :: ds)
end
mutual
theorem fd_to {H0 H H0' H' : Hp} (hm : ∀ a o, H0 a = none → H a = some o → H0' a = none ∧ H' a = some o) : ∀ {v : V} {d : PyData}, Fd H0 H v d → Fd H0' H' v d
  | _, _, .int i => .int i
  | _, _, .lst h n r => .lst (hm _ _ n h).2 (hm _ _ n h).1 (fdAll_to hm r)
theorem fdAll_to {H0 H H0' H' : Hp} (hm : ∀ a o, H0 a = none → H a = some o → H0' a = none ∧ H' a = some o) : ∀ {vs : List V} {ds : List PyData}, FdAll H0 H vs ds → FdAll H0' H' vs ds
  | _, _, .nil => .nil
  | _, _, .cons h r => .cons (fd_to hm h) (fdAll_to hm r)
end
mutual
theorem fd_dp {K : PySem.W.Frag} {H0 H : Hp} : ∀ {v : V} {d : PyData}, Fd H0 H v d → Dp K H v d
  | _, _, .int i => .int i
  | _, _, .lst h _ r => .lst (.inl (.inl h)) (fdAll_dp r)
theorem fdAll_dp {K : PySem.W.Frag} {H0 H : Hp} : ∀ {vs : List V} {ds : List PyData}, FdAll H0 H vs ds → DpAll K H vs ds
  | _, _, .nil => .nil
  | _, _, .cons h r => .cons (fd_dp h) (fdAll_dp r)
end
theorem fdAll_snoc {H0 H : Hp} : ∀ {vs : List V} {ds : List PyData} {v : V} {d : PyData}, FdAll H0 H vs ds → Fd H0 H v d → FdAll H0 H (vs ++ [v]) (ds ++ [d])
  | _, _, _, _, .nil, h => .cons h .nil
  | _, _, _, _, .cons k r, h => .cons k (fdAll_snoc r h)
theorem fdAll_len {H0 H : Hp} : ∀ {vs : List V} {ds : List PyData}, FdAll H0 H vs ds → vs.length = ds.length
  | _, _, .nil => rfl
  | _, _, .cons _ r => congrArg (· + 1) (fdAll_len r)
theorem fdAll_same {H0 H H' : Hp} (s : Same H H') {vs : List V} {ds : List PyData} (h : FdAll H0 H vs ds) : FdAll H0 H' vs ds := fdAll_to (fun a o n e => ⟨n, s a o e⟩) h
theorem dpAll_get {K : PySem.W.Frag} {H : Hp} : ∀ {vs : List V} {ds : List PyData} {i : Nat} {v : V}, DpAll K H vs ds → vs[i]? = some v → ∃ d, ds[i]? = some d ∧ Dp K H v d
  | _, _, _, _, .nil, e => nomatch e
  | _, _, 0, _, .cons h r, e => by
    injection e with e
    subst e
    exact ⟨_, rfl, h⟩
  | _, _, i + 1, _, .cons h r, e => by
    obtain ⟨d, e1, e2⟩ := dpAll_get (i := i) r e
    exact ⟨d, e1, e2⟩
theorem dpAll_get2 {K : PySem.W.Frag} {H : Hp} {vs : List V} {ds : List PyData} {i : Nat} {d : PyData} (h : DpAll K H vs ds) (e : ds[i]? = some d) : ∃ v, vs[i]? = some v ∧ Dp K H v d := by
  have hi := (List.getElem?_eq_some_iff.mp e).1
  rw [← dpAll_len h] at hi
  have e1 := List.getElem?_eq_getElem hi
  obtain ⟨d', e2, e3⟩ := dpAll_get h e1
  rw [e] at e2
  injection e2 with e2
  subst e2
  exact ⟨_, e1, e3⟩
theorem ixN_end (R : List Int) (x : Int) : ixN ((R ++ [x]).map V.int).length (-1) = some R.length := by
  unfold ixN
  rw [List.length_map, List.length_append, List.length_singleton, if_neg (by decide), if_pos (by omega)]
  congr 1
  omega
theorem set_end (R : List Int) (x v : Int) : ((R ++ [x]).map V.int).set R.length (.int v) = (R ++ [v]).map V.int := by
  rw [List.map_append, List.map_append, List.set_append_right _ _ (by rw [List.length_map]; exact Nat.le_refl _), List.length_map, Nat.sub_self]
  rfl
theorem at_end (R : List Int) (x : Int) : atI ((R ++ [x]).map V.int) (-1) = some (.int x) := by
  rw [List.map_append]
  exact atI_last _ _
/-- a page that was laid apart from a -/
def PT (a : Addr) (H : Hp) (o : Addr) (p : Pg) : Prop := ∃ l, l ≠ a ∧ o ≠ a ∧ H o = some (.tup [.ref l, .int p.2]) ∧ H l = some (.tup (p.1.map V.int))
theorem PT.but {a o : Addr} {H H' : Hp} {p : Pg} (h : PT a H o p) (b : But a H H') : PT a H' o p := by
  obtain ⟨l, h1, h2, h3, h4⟩ := h
  exact ⟨l, h1, h2, b _ _ h2 h3, b _ _ h1 h4⟩
theorem PT.dp {K : PySem.W.Frag} {a o : Addr} {H : Hp} {p : Pg} (h : PT a H o p) : Dp K H (.ref o) (dP p) := by
  obtain ⟨l, h1, h2, h3, h4⟩ := h
  exact .tup (.inl (.inl h3)) (.cons (dpL (.inl (.inl h4))) (.cons (.int _) .nil))
theorem cut_to (z : Str) (k : Int) (h0 : 0 ≤ k) (h1 : k ≤ (z.length : Int)) : (cutS z none (some k)).length = k.toNat := by
  obtain ⟨n, rfl⟩ := Int.eq_ofNat_of_zero_le h0
  show (((z.cps.toList.drop 0).take (HT.sIx z.length z.length (some (n : Int)) - 0)).toArray).size = _
  rw [HT.sIx_nat, List.size_toArray, List.length_take, List.drop_zero, Array.length_toList]
  show min (min n z.length - 0) z.length = _
  omega
theorem cut_from (z : Str) (k : Int) (h0 : 0 ≤ k) : (cutS z (some k) none).length = z.length - k.toNat := by
  obtain ⟨n, rfl⟩ := Int.eq_ofNat_of_zero_le h0
  show (((z.cps.toList.drop (HT.sIx z.length 0 (some (n : Int)))).take (z.length - HT.sIx z.length 0 (some (n : Int)))).toArray).size = _
  rw [HT.sIx_nat, List.size_toArray, List.length_take, List.length_drop, Array.length_toList]
  show min (z.length - min n z.length) (z.length - min n z.length) = _
  omega
theorem at_some {α : Type} (xs : List α) (k : Int) (h0 : 0 ≤ k) (h1 : k < (xs.length : Int)) : ∃ c, atI xs k = some c := by
  obtain ⟨n, rfl⟩ := Int.eq_ofNat_of_zero_le h0
  exact ⟨_, atI_nat (List.getElem?_eq_getElem (show n < xs.length by omega))⟩
/-! ### what is kept of a thing as a label -/
def ok99 (L : List Int) : Prop := ∀ i ∈ L, 0 ≤ i ∧ i ≤ 99
theorem getD_99 {L : List Int} (h : ok99 L) (n : Nat) : 0 ≤ L.getD n 0 ∧ L.getD n 0 ≤ 99 := by
  rw [List.getD_eq_getElem?_getD]
  cases e : L[n]? with
  | none => exact ⟨by decide, by decide⟩
  | some i => exact h i (List.mem_of_getElem? e)
def items : PyData → Option (List PyData)
  | .list ds => some ds
  | .tuple ds => some ds
  | _ => none
def isI : PyData → Bool
  | .int _ => true
  | _ => false
def toO : PyData → Option Int
  | .int i => if 0 ≤ i ∧ i ≤ 99 then some i else none
  | _ => none
def keptD (d : PyData) : Option (List Int) := match items d with
  | some ds => keep (ds.map toO)
  | none => none
def wI (l m : Int) : PyData → Bool
  | .int i => decide (l ≤ i ∧ i ≤ m)
  | _ => false
theorem toO_some (d : PyData) : (toO d).isSome = wI 0 99 d := by
  cases d with
  | int i =>
    show (if 0 ≤ i ∧ i ≤ 99 then some i else none).isSome = decide (0 ≤ i ∧ i ≤ 99)
    by_cases h : 0 ≤ i ∧ i ≤ 99
    · rw [if_pos h, decide_eq_true h]; rfl
    · rw [if_neg h, decide_eq_false h]; rfl
  | _ => rfl
theorem toO_ints {L : List Int} (h : ok99 L) : (L.map PyData.int).map toO = L.map some := by
  rw [List.map_map]
  exact List.map_congr_left fun i hi => if_pos (h i hi)

/-- no lists in it -/
def Nl : Nat → PyData → Prop
  | _, .none => True
  | _, .int _ => True
  | _, .bool _ => True
  | _, .str _ => True
  | n + 1, .tuple ds => ∀ d ∈ ds, Nl n d
  | _, _ => False
mutual
theorem dp_butN {K : PySem.W.Frag} {H H' : Hp} {a : Addr} {xs : List V} (ha : H a = some (.lst xs)) (b : But a H H') : ∀ {v : V} {d : PyData}, Dp K H v d → (∃ n, Nl n d) → Dp K H' v d
  | _, _, .non, _ => .non
  | _, _, .bl b, _ => .bl b
  | _, _, .int i, _ => .int i
  | _, _, .str x, _ => .str x
  | _, _, .lst _ _, ⟨n, h⟩ => by cases n <;> exact h.elim
  | _, _, .tup h k, ⟨0, z⟩ => z.elim
  | _, _, .tup h k, ⟨n + 1, z⟩ => .tup (seqT_but ha b h) (dpAll_butN ha b k fun d hd => ⟨n, z d hd⟩)
theorem dpAll_butN {K : PySem.W.Frag} {H H' : Hp} {a : Addr} {xs : List V} (ha : H a = some (.lst xs)) (b : But a H H') : ∀ {vs : List V} {ds : List PyData}, DpAll K H vs ds → (∀ d ∈ ds, ∃ n, Nl n d) → DpAll K H' vs ds
  | _, _, .nil, _ => .nil
  | _, _, .cons h k, z => .cons (dp_butN ha b h (z _ (List.mem_cons_self ..))) (dpAll_butN ha b k fun d hd => z d (List.mem_cons_of_mem _ hd))
end
theorem kit2_no {K : PySem.W.Frag} {t : String} (h1 : kitB t "tuple" = some false) (h2 : kitB t "list" = some false) : PySem.W.kitAny K (.type t) [.type "tuple", .type "list"] = some false :=
  kitAny_cons (kit_ty h1) (fun _ => kitAny_cons (kit_ty h2) (fun _ => rfl) (fun z => by cases z)) (fun z => by cases z)
theorem allSome_all : ∀ {os : List (Option Int)} {L : List Int}, allSome os = some L → os = L.map some
  | [], L, h => by
    cases h
    rfl
  | none :: r, L, h => by cases h
  | some i :: r, L, h => by
    unfold allSome at h
    split at h
    · rename_i L' e
      cases h
      rw [allSome_all e]
      rfl
    · cases h
theorem map_bl (ds : List PyData) : (ds.map fun d => V.bl (wI 0 99 d)) = (ds.map (wI 0 99)).map V.bl := (List.map_map ..).symm
theorem all_bl (ds : List PyData) : (ds.map (wI 0 99)).all id = ds.all (wI 0 99) := by
  rw [List.all_map]
  rfl
theorem all_ints : ∀ {ds : List PyData}, ds.all (wI 0 99) = true → ∃ L : List Int, ds = L.map PyData.int ∧ ok99 L
  | [], _ => ⟨[], rfl, fun _ h => nomatch h⟩
  | d :: r, h => by
    rw [List.all_cons, Bool.and_eq_true] at h
    obtain ⟨L, e, hL⟩ := all_ints h.2
    cases d with
    | int i =>
      have hi := of_decide_eq_true h.1
      refine ⟨i :: L, by rw [e]; rfl, fun j hj => ?_⟩
      rcases List.mem_cons.mp hj with z | z
      · rw [z]; exact hi
      · exact hL j z
    | _ => cases h.1
theorem not_all {ds : List PyData} (h : ds.all (wI 0 99) = false) : none ∈ ds.map toO := by
  obtain ⟨d, hd, e⟩ := List.all_eq_false.mp h
  refine List.mem_map.mpr ⟨d, hd, ?_⟩
  cases q : toO d with
  | none => rfl
  | some i =>
    have := toO_some d
    rw [q] at this
    exact absurd this.symm e
/-- what stands behind an own error that was made: its dict alone is new -/
theorem toO_bd {d : PyData} {i : Int} (h : toO d = some i) : 0 ≤ i ∧ i ≤ 99 := by
  cases d with
  | int j =>
    have h : (if 0 ≤ j ∧ j ≤ 99 then some j else none) = some i := h
    by_cases hj : 0 ≤ j ∧ j ≤ 99
    · rw [if_pos hj] at h
      cases h
      exact hj
    · rw [if_neg hj] at h
      cases h
  | _ => cases h
theorem keep_some {os : List (Option Int)} {L : List Int} (h : keep os = some L) : os = L.map some ∧ L.length ≤ 3 ∧ L.getLastD 0 ≠ 0 := by
  unfold keep at h
  cases e : allSome os with
  | none => rw [e] at h; cases h
  | some M =>
    rw [e] at h
    simp only at h
    split at h
    · rename_i hM
      cases h
      exact ⟨allSome_all e, hM⟩
    · cases h
theorem kept_okL {d : PyData} {L : List Int} (h : keptD d = some L) : okL L := by
  unfold keptD at h
  cases e : items d with
  | none => rw [e] at h; cases h
  | some ds =>
    rw [e] at h
    simp only at h
    obtain ⟨h1, h2, h3⟩ := keep_some h
    refine ⟨h2, h3, fun i hi => ?_⟩
    have : some i ∈ ds.map toO := by rw [h1]; exact List.mem_map_of_mem hi
    obtain ⟨d, _, q⟩ := List.mem_map.mp this
    exact toO_bd q
theorem kept_ok {d : PyData} {L : List Int} (h : keptD d = some L) : ok99 L ∧ L.length ≤ 3 ∧ L ≠ [] := by
  have := kept_okL h
  exact ⟨this.2.2, this.1, okL_ne this⟩
theorem cutV_to (xs : List V) (n : Nat) : cutV xs none (some (n : Int)) = xs.take n := by
  unfold cutV
  rw [HT.sIx_none, HT.sIx_nat, List.drop_zero, Nat.sub_zero]
  by_cases h : n ≤ xs.length
  · rw [Nat.min_eq_left h]
  · rw [Nat.min_eq_right (by omega), List.take_length, List.take_of_length_le (by omega)]
theorem okL_snoc {R : List Int} {z : Int} (h : ok99 R) (l : R.length ≤ 2) (h1 : 1 ≤ z) (h9 : z ≤ 99) : okL (R ++ [z]) := by
  refine ⟨by rw [List.length_append]; show R.length + 1 ≤ 3; omega, ?_, fun i hi => ?_⟩
  · rw [List.getLastD_eq_getLast?, List.getLast?_append]
    show z ≠ 0
    omega
  · rcases List.mem_append.mp hi with e | e
    · exact h i e
    · rw [List.mem_singleton.mp e]; omega
theorem okL_split {L : List Int} (h : okL L) : ∃ R z, L = R ++ [z] ∧ ok99 R ∧ R.length ≤ 2 ∧ 1 ≤ z ∧ z ≤ 99 := by
  have hne := okL_ne h
  obtain ⟨R, z, rfl⟩ : ∃ R z, L = R ++ [z] := ⟨_, _, (List.dropLast_concat_getLast hne).symm⟩
  have hz := h.2.2 z (by simp)
  have hz0 : z ≠ 0 := by
    have := h.2.1
    rw [List.getLastD_eq_getLast?, List.getLast?_append] at this
    exact this
  have hl := h.1
  rw [List.length_append] at hl
  exact ⟨R, z, rfl, fun i hi => h.2.2 i (List.mem_append_left _ hi), by have : R.length + 1 ≤ 3 := hl; omega, by omega, hz.2⟩
theorem src_lst {H : Hp} {a : Addr} (s : Src H a) : ∃ xs, H a = some (.lst xs) := by
  obtain ⟨g, x, c, e⟩ := s
  exact ⟨_, e⟩
theorem sqT_src {K : PySem.W.Frag} {H H' : Hp} {a p : Addr} {ys : List V} (s : Src H a) (b : But a H H') (h : SqT K H p ys) : SqT K H' p ys := by
  obtain ⟨xs, e⟩ := src_lst s
  exact seqT_but e b h
theorem dpN_src {K : PySem.W.Frag} {H H' : Hp} {a : Addr} {v : V} {d : PyData} (s : Src H a) (b : But a H H') (h : Dp K H v d) (n : ∃ n, Nl n d) : Dp K H' v d := by
  obtain ⟨xs, e⟩ := src_lst s
  exact dp_butN e b h n
theorem nl_L (L : List Int) : ∃ n, Nl n (dL L) := ⟨1, fun d hd => by
  obtain ⟨i, _, rfl⟩ := List.mem_map.mp hd
  trivial⟩
theorem nl_O (o : Option (List Int)) : ∃ n, Nl n (oD dL o) := by
  cases o with
  | none => exact ⟨0, trivial⟩
  | some L => exact nl_L L
theorem srcN {H : Hp} {a p : Addr} (s : Src H a) (n : H p = none) (o : HO) : Src (upd H p o) a := s.put (s.ne n) o
theorem sIx_m1 (n : Nat) : HT.sIx n n (some (-1)) = n - 1 := by
  show ((-1 : Int) + (n : Int)).toNat = n - 1
  omega
theorem cut_last (xs : List V) : cutV xs none (some (-1)) = xs.dropLast := by
  unfold cutV
  rw [sIx_m1, HT.sIx_none, List.drop_zero, Nat.sub_zero, List.dropLast_eq_take]
/-! ### refused things: short, without lists -/
theorem cat_go {K : PySem.W.Frag} {H : Hp} {Q : VK} {a b : Addr} {xs ys : List V} (ha : SqT K H a xs) (hb : SqT K H b ys) (hl : xs.length + ys.length ≤ 1000) (h : ∀ c H', Same H H' → SqT K H' c (xs ++ ys) → Q (.ref c) H') : rCatA K (.ref a) (.ref b) H Q :=
  ⟨a, b, xs, ys, rfl, rfl, ha, hb, Nat.le_of_lt (small1000 hl), fun e => h b H (Same.refl H) (by rw [e]; exact hb), fun _ e => h a H (Same.refl H) (by rw [e, List.append_nil]; exact ha), fun _ _ p np => h p _ (same_upd np) (.inl (.inl upd_same))⟩
theorem cut_whole {xs : List V} {lo hi : Option Int} (h : HT.sIx xs.length 0 lo = 0 ∧ HT.sIx xs.length xs.length hi = xs.length) : cutV xs lo hi = xs := by
  unfold cutV
  rw [h.1, h.2, List.drop_zero, Nat.sub_zero, List.take_length]
theorem sl_go {K : PySem.W.Frag} {H : Hp} {Q : VK} {a : Addr} {xs : List V} {lo hi : Option Int} (ha : SqT K H a xs) (h : ∀ c H', Same H H' → SqT K H' c (cutV xs lo hi) → Q (.ref c) H') : rSlA K (.ref a) lo hi H Q :=
  ⟨a, xs, rfl, ha, fun e => h a H (Same.refl H) (by rw [cut_whole e]; exact ha), fun _ p np => h p _ (same_upd np) (.inl (.inl upd_same))⟩
theorem cutV_from (xs : List V) (k : Nat) : cutV xs (some (k : Int)) none = xs.drop k := by
  unfold cutV
  rw [HT.sIx_nat]
  have e : HT.sIx xs.length xs.length none = xs.length := HT.sIx_none ..
  rw [e]
  by_cases h : k ≤ xs.length
  · rw [Nat.min_eq_left h, List.take_of_length_le]
    rw [List.length_drop]
    omega
  · rw [Nat.min_eq_right (by omega), Nat.sub_self, List.take_zero, List.drop_eq_nil_of_le (by omega)]
theorem dpAll_app {K : PySem.W.Frag} {H : Hp} : ∀ {vs ws : List V} {ds es : List PyData}, DpAll K H vs ds → DpAll K H ws es → DpAll K H (vs ++ ws) (ds ++ es)
  | _, _, _, _, .nil, h => h
  | _, _, _, _, .cons k r, h => .cons k (dpAll_app r h)
/-! ### xs[::-1], xs a list -/
section
variable {X : Cx} {e st : Expr} {te : TE} {tq : TO} {p2 pos : Pos}
def tRevL (K : PySem.W.Frag) (te : TE) (tq : TO) : TE := fun σ H Q => te σ H fun x H1 => tq σ H1 fun k H2 => ∃ a xs, k = some (-1) ∧ x = .ref a ∧ SqL K H2 a xs ∧ ∀ p, H2 p = none → Q (.ref p) (upd H2 p (.lst xs.reverse))
theorem pe_revL (he : PE X e te) (hk : PO X (some st) tq) : PE X (.Subscript e (.Slice none none (some st) p2) pos) (tRevL X.K te tq) := by
  constructor
  intro pins s σ H Q I h
  refine Subscript_ (thn (he.run pins s σ H _ I h) ?_)
  rintro v s1 ⟨x, H1, I1, r1, q1⟩
  refine wpAny_Slice ?_
  rw [evalPart_none]
  refine wpAny_pure ?_
  refine wpAny_pure (thn (hk.run pins s1 σ H1 _ I1 q1) ?_)
  rintro vk s2 ⟨k, H2, I2, pk, a, xs, rfl, rfl, hx, q⟩
  cases r1
  have J : Inv X pins σ H2 { s2 with heap := s2.heap.push { cls := .type "slice", data := .fields #[.none, .none, vk] } } := I2.kept (t' := s2.toks) (fun b ob q => Heap.get?_push_of_some _ q)
  obtain ⟨its, r, isl, hz⟩ := J.list hx
  have hlen := r.length
  have step : wpAny (model X.prog X.w) X.A (getItem (.ref a) (.ref s2.heap.objs.size)) (EP X pins σ Q) X.xe { s2 with heap := s2.heap.push { cls := .type "slice", data := .fields #[.none, .none, vk] } } := by
    refine wpAny_getItem_list_slice isl.isList (Heap.IsSliceOf.new ..) .none .none pk (by decide) ?_ (by rw [List.size_toArray]; omega)
    have er : slicePick its.toArray none none (some (-1)) = its.reverse.toArray := PySem.W.krv_pick its.toArray
    rw [er]
    refine ⟨.ref (s2.heap.push { cls := .type "slice", data := .fields #[.none, .none, vk] }).objs.size, _, J.laid (t' := s2.toks) (o := .lst xs.reverse) (fun b ob q => Heap.get?_push_of_some _ q) (Nat.le_refl _) ?_, rfl, q _ (J.hok.fresh (Nat.le_refl _))⟩
    exact ⟨by rw [List.length_reverse]; exact hz, _, 0, r.reverse, Heap.get?_push_size _ rfl⟩
  exact tail_any (ops := [.ref a, .ref s2.heap.objs.size]) isl.isList.typeIs slot_list_getitem.lookup step (by with_unfolding_all rfl)
end
theorem ix_listK {X : Cx} {K : PySem.W.Frag} (h : X.K = K) : IxR X (rIxL K) := h ▸ ix_list
theorem ix_tupK {X : Cx} {K : PySem.W.Frag} (h : X.K = K) : IxR X (rIxT K) := h ▸ ix_tup
/-! ### sorted of a list of tuples of ints, of any lengths -/
section
variable {prog : Program} {w : World} {A : Around} {s : Shared}
def IsIT (h : Heap) (v : Value) (ns : List Int) : Prop := ∃ (a : Addr) (o : Obj) (its : Array Value) (n : Nat), v = .ref a ∧ h.get? a = some o ∧ o.cls = .type "tuple" ∧ o.data = .seq its n ∧ IntsAre its.toList ns
theorem IsIT.keeps {h h' : Heap} {v : Value} {ns : List Int} (x : IsIT h v ns) (k : ∀ b o, h.get? b = some o → o.cls = .type "tuple" → h'.get? b = some o) : IsIT h' v ns := by
  obtain ⟨a, o, its, n, e, ho, hc, r⟩ := x
  exact ⟨a, o, its, n, e, k a o ho hc, hc, r⟩
theorem ints_length {us : List Value} {ns : List Int} (h : IntsAre us ns) : us.length = ns.length := by
  have := (vals_of_ints h).length
  rw [List.length_map] at this
  exact this.symm
theorem kat_ints {Q : Bool → Shared → Prop} : ∀ (xs ys : List Value) (ns ms : List Int) (i : Nat), IntsAre xs ns → IntsAre ys ms → Q (HT.lexLt ns ms) s → PySem.W.KatLex prog w A true (decide (ns.length < ms.length)) Q (xs.zip ys) i s
  | [], ys, ns, ms, i, h1, h2, q => by
    cases h1
    · cases ms with
      | nil => exact PySem.W.kat_nil q
      | cons m ms => exact PySem.W.kat_nil q
  | x :: xs, [], ns, ms, i, h1, h2, q => by
    cases h2
    · cases ns with
      | nil => cases h1
      | cons n ns =>
        rw [HT.lexLt_cons_nil] at q
        exact PySem.W.kat_nil q
  | x :: xs, y :: ys, ns, ms, i, h1, h2, q => by
    cases ns with
    | nil => cases h1
    | cons n ns =>
    cases ms with
    | nil => cases h2
    | cons m ms =>
    cases h1 with
    | cons _ t h1 =>
    cases h2 with
    | cons _ u h2 =>
    rw [HT.lexLt_cons] at q
    have z : decide ((n :: ns).length < (m :: ms).length) = decide (ns.length < ms.length) := by simp
    rw [z]
    show PySem.W.KatLex prog w A true (decide (ns.length < ms.length)) Q ((.int n t, .int m u) :: xs.zip ys) i s
    refine PySem.W.kat_cons (SeqAt.EqAt.int_int n t m u prog w _ _ ?_)
    refine PySem.W.kat_go (fun e1 => ?_) (fun e1 => ?_)
    · have e : n = m := by simpa using e1
      rw [if_pos e] at q
      exact PySem.W.kat_yes (kat_ints xs ys ns ms (i + 1) h1 h2 q)
    · have e : ¬ n = m := by simpa using e1
      rw [if_neg e] at q
      refine PySem.W.kat_no ?_
      cases i with
      | zero => exact TS.oneLt_ints true q
      | succ i => exact PySem.W.kat_one _ _ (PyProof.Rows.lt_int q)
theorem it_cmp {vs : List Value} {k : Value → List Int} (hp : ∀ v ∈ vs, IsIT s.heap v (k v)) : SrtO.Cmp prog w A s (tuples' true) (fun p => p.1 ∈ vs) (SrtO.lt2 fun v u => HT.lexLt (k v) (k u)) := by
  intro p q hm hm'
  obtain ⟨a, o, its, n, e, ho, hc, hd, hi⟩ := hp _ hm
  obtain ⟨a', o', its', n', e', ho', hc', hd', hi'⟩ := hp _ hm'
  show wpAny (model prog w) A (keyLt' (tuples' true) p.1 q.1) (fun r s' => s' = s ∧ r = HT.lexLt (k p.1) (k q.1)) (fun _ _ => False) s
  rw [e, e']
  rw [e] at hi
  rw [e'] at hi'
  refine PySem.W.kat_lt ho hd ho' hd' ?_
  have l1 : its.size = (k (.ref a)).length := by rw [← Array.length_toList]; exact ints_length hi
  have l2 : its'.size = (k (.ref a')).length := by rw [← Array.length_toList]; exact ints_length hi'
  rw [l1, l2]
  exact kat_ints _ _ _ _ 0 hi hi' ⟨rfl, rfl⟩
theorem it_firsts {h : Heap} : ∀ {vs : List Value} {k : Value → List Int}, (∀ v ∈ vs, IsIT h v (k v) ∧ k v ≠ []) → ∃ fs, PySem.W.KatTups h vs fs ∧ fs.length = vs.length ∧ ∀ f ∈ fs, ∃ x t, f = .int x t
  | [], _, _ => ⟨[], trivial, rfl, fun _ h => nomatch h⟩
  | v :: vs, k, hp => by
    obtain ⟨fs, t, l, r⟩ := it_firsts (vs := vs) (k := k) fun u hu => hp u (List.mem_cons_of_mem _ hu)
    obtain ⟨⟨a, o, its, n, rfl, ho, hc, hd, hi⟩, ne⟩ := hp v (List.mem_cons_self ..)
    cases ek : k (.ref a) with
    | nil => exact absurd ek ne
    | cons m ms =>
      rw [ek] at hi
      cases ei : its.toList with
      | nil => rw [ei] at hi; cases hi
      | cons x xs =>
        rw [ei] at hi
        cases hi with
        | cons _ t' hi =>
        have h0 : its[0]? = some (.int m t') := by rw [← Array.getElem?_toList, ei]; rfl
        refine ⟨.int m t' :: fs, PySem.W.KatTups.cons ho hc hd h0 t, by simp [l], fun f hf => ?_⟩
        rcases List.mem_cons.mp hf with e | hf
        · exact ⟨m, t', e⟩
        · exact r f hf
theorem it_sortable {a : Addr} {vs : List Value} {k : Value → List Int} (h0 : 0 < vs.length) (hp : ∀ v ∈ vs, IsIT s.heap v (k v) ∧ k v ≠ []) (ha : ∀ o, s.heap.get? a = some o → o.cls ≠ .type "tuple") : SrtO.SortableO prog w A s a vs fun v u => HT.lexLt (k v) (k u) := by
  intro h' keep
  have hp' : ∀ v ∈ vs, IsIT h' v (k v) ∧ k v ≠ [] := fun v hm => ⟨(hp v hm).1.keeps fun b o e c => keep b o (fun z => by subst z; exact ha o e c) e, (hp v hm).2⟩
  obtain ⟨fs, h1, h2, h3⟩ := it_firsts hp'
  refine ⟨tuples' true, fun Q E hq => ?_, it_cmp fun v hm => (hp' v hm).1⟩
  refine PySem.W.kat_kind (T := .type "int") h1 (by omega) (fun f hm => ?_) (by rfl) ?_
  · obtain ⟨x, t, rfl⟩ := h3 f hm
    exact PySem.W.Looks.now
  · have e : (Value.type "int" != Value.type "tuple") = true := by first | decide +kernel | rfl | decide
    rw [e]
    exact hq
end
section
variable {X : Cx}
def rSortedT3 (K : PySem.W.Frag) : List V → Hp → VK → Prop := fun vs H Q => ∃ (a : Addr) (xs : List V) (k : V → List Int), vs = [V.ref a] ∧ SqL K H a xs ∧ (∀ x ∈ xs, ∃ t, x = V.ref t ∧ SqT K H t ((k x).map V.int) ∧ k x ≠ []) ∧
  ∀ ys p, SrtO.Srtd (fun v u => HT.lexLt (k v) (k u)) ys → ys.Perm xs → H p = none → Q (.ref p) (upd H p (.lst ys))
theorem cr_sortedT3 : CallR X (.builtin "sorted") (rSortedT3 X.K) := by
  intro pins s σ H vs us Q I r h
  obtain ⟨a, xs, k, rfl, hs, hx, q⟩ := h
  obtain ⟨its, rv, hl, hz⟩ := I.list hs
  obtain ⟨u, rfl, ru⟩ := vals1 r
  obtain rfl : u = Value.ref a := ru
  obtain ⟨e1, e2⟩ := refs_back rv fun x m => by
    obtain ⟨t, e, _⟩ := hx x m
    exact ⟨t, e⟩
  have hit : ∀ v ∈ its, IsIT s.heap v (k (backV v)) ∧ k (backV v) ≠ [] := fun v hv => by
    obtain ⟨t, rfl⟩ := e2 v hv
    have hm : V.ref t ∈ xs := by rw [e1]; exact List.mem_map.mpr ⟨_, hv, rfl⟩
    obtain ⟨t', e, ht, ne⟩ := hx _ hm
    cases e
    obtain ⟨its2, r2, ⟨o, ho, hc, n, hd⟩, _⟩ := I.tuple ht
    exact ⟨⟨t, o, _, n, rfl, ho, hc, hd, intsAre_of r2⟩, ne⟩
  refine SrtO.sorted_ord (NtL.swo_lexL fun u => k (backV u)) hl.isList (by rw [← rv.length]; exact hz) (fun h2 h₁ a' ha' kk => ?_) fun out h1 h2 => ?_
  · refine it_sortable (s := { s with heap := h₁ }) (by omega) (fun v hm => ⟨(hit v hm).1.keeps fun b o e _ => (kk b o e).2, (hit v hm).2⟩) fun o e => ?_
    have e' : some o = some (seqObj "list" its.toArray 0) := e.symm.trans ha'
    cases e'
    intro c
    exact absurd (Value.type.inj c) (by decide)
  · have h3 : ∀ u ∈ out, ∃ a, u = Value.ref a := fun u hu => e2 u (h2.perm.mem_iff.mp hu)
    have hp : (out.map backV).Perm xs := by rw [e1]; exact h2.perm.map _
    obtain ⟨n, hn⟩ := sortedAll_at s.heap its out.toArray
    refine ⟨.ref (s.heap.objs.size + 1), upd H (s.heap.objs.size + 1) (.lst (out.map backV)), I.laid (t' := s.toks) (fun b o e => sortedAll_old e) (Nat.le_succ _) ⟨?_, out, n, vals_back h3, hn⟩, rfl, q _ _ (SrtO.srtd_map h1) hp (I.hok.fresh (Nat.le_succ _))⟩
    rw [hp.length_eq]
    exact hz
theorem op_inDK {K : PySem.W.Frag} (h : X.K = K) (hu : X.A.units + 65 < cLine) : OpR X (compareOp .In) (rInD K) := h ▸ op_inD hu
theorem op_notInDK {K : PySem.W.Frag} (h : X.K = K) (hu : X.A.units + 65 < cLine) : OpR X (compareOp .NotIn) (rNotInD K) := h ▸ op_notInD hu
theorem call_list_ofK {K : PySem.W.Frag} (h : X.K = K) : CallR X (.type "list") (fun xs H Q => ∃ p ys, xs = [.ref p] ∧ (SqL K H p ys ∨ SqT K H p ys) ∧ ∀ l, H l = none → Q (.ref l) (upd H l (.lst ys))) := h ▸ call_list_of
end
/-! ### a list of labels, sorted -/
def toIv : V → Int
  | .int i => i
  | _ => 0
def labK (H : Hp) : V → List Int
  | .ref t => match H t with | some (.tup xs) => xs.map toIv | _ => []
  | _ => []
theorem labK_at {H : Hp} {t : Addr} {L : List Int} (h : H t = some (.tup (L.map V.int))) : labK H (.ref t) = L := by
  show (match H t with | some (.tup xs) => xs.map toIv | _ => []) = L
  rw [h]
  show (L.map V.int).map toIv = L
  rw [List.map_map]
  exact List.map_id _
theorem lexLt_total : ∀ a b : List Int, HT.lexLt a b = false → HT.lexLt b a = false → a = b
  | [], [], _, _ => rfl
  | [], y :: s, h, _ => by rw [HT.lexLt_nil_cons] at h; cases h
  | x :: r, [], _, h => by rw [HT.lexLt_nil_cons] at h; cases h
  | x :: r, y :: s, h1, h2 => by
    rw [HT.lexLt_cons] at h1 h2
    by_cases e : x = y
    · subst e
      rw [if_pos rfl] at h1 h2
      rw [lexLt_total r s h1 h2]
    · rw [if_neg e] at h1
      rw [if_neg (fun z => e z.symm)] at h2
      have := of_decide_eq_false h1
      have := of_decide_eq_false h2
      omega
/-! ### order of data that are alike, and x in a tuple of data -/
section
variable {X : Cx}
def rCmpD (K : PySem.W.Frag) (f : PyData → PyData → Bool) : R2 := fun x y H Q => ∃ d e, Dp K H x d ∧ Dp K H y e ∧ PySem.W.alike d e = true ∧ d ≠ .none ∧ d.depth ≤ 60 ∧ Q (.bl (f d e)) H
theorem op_ltD (hu : X.A.units + 65 < cLine) : OpR X (compareOp .Lt) (rCmpD X.K fun d e => PySem.W.dataLt d e) := by
  intro pins s σ H x y v u Q I rx ry h
  obtain ⟨d, e, hd, he, al, nn, dep, q⟩ := h
  obtain ⟨as, r1⟩ := Dp.reads I d x v hd rx
  obtain ⟨bs, r2⟩ := Dp.reads I e y u he ry
  exact PySem.W.lt_data r1 r2 al nn (by omega) ⟨.bl _, H, I, rfl, q⟩
theorem op_leD (hu : X.A.units + 65 < cLine) : OpR X (compareOp .LtE) (rCmpD X.K fun d e => !PySem.W.dataLt e d) := by
  intro pins s σ H x y v u Q I rx ry h
  obtain ⟨d, e, hd, he, al, nn, dep, q⟩ := h
  obtain ⟨as, r1⟩ := Dp.reads I d x v hd rx
  obtain ⟨bs, r2⟩ := Dp.reads I e y u he ry
  exact PySem.W.le_data r1 r2 al nn (by omega) ⟨.bl _, H, I, rfl, q⟩
theorem op_gtD (hu : X.A.units + 65 < cLine) : OpR X (compareOp .Gt) (rCmpD X.K fun d e => PySem.W.dataLt e d) := by
  intro pins s σ H x y v u Q I rx ry h
  obtain ⟨d, e, hd, he, al, nn, dep, q⟩ := h
  obtain ⟨as, r1⟩ := Dp.reads I d x v hd rx
  obtain ⟨bs, r2⟩ := Dp.reads I e y u he ry
  exact PySem.W.gt_data r1 r2 al nn (by omega) ⟨.bl _, H, I, rfl, q⟩
theorem op_geD (hu : X.A.units + 65 < cLine) : OpR X (compareOp .GtE) (rCmpD X.K fun d e => !PySem.W.dataLt d e) := by
  intro pins s σ H x y v u Q I rx ry h
  obtain ⟨d, e, hd, he, al, nn, dep, q⟩ := h
  obtain ⟨as, r1⟩ := Dp.reads I d x v hd rx
  obtain ⟨bs, r2⟩ := Dp.reads I e y u he ry
  exact PySem.W.ge_data r1 r2 al nn (by omega) ⟨.bl _, H, I, rfl, q⟩
/-- x in c, c a list or a tuple of data -/
def rInDD (K : PySem.W.Frag) (neg : Bool) : R2 := fun x y H Q => ∃ d ds, Dp K H x d ∧ (Dp K H y (.list ds) ∨ Dp K H y (.tuple ds)) ∧ SeqAt.shaped d = true ∧ SeqAt.shaped (.list ds) = true ∧ Q (.bl (neg != ds.any fun z => PyData.eqv z d)) H
theorem op_inDD (hu : X.A.units + 65 < cLine) : OpR X (compareOp .In) (rInDD X.K false) := by
  intro pins s σ H x y v u Q I rx ry h
  obtain ⟨d, ds, hd, he, sd, se, q⟩ := h
  obtain ⟨as, r1⟩ := Dp.reads I d x v hd rx
  rw [Bool.false_bne] at q
  rcases he with he | he
  · obtain ⟨bs, r2⟩ := Dp.reads I (.list ds) y u he ry
    exact SeqAt.in_list_reads r2 r1 (SeqAt.canLay_of_shaped se) (SeqAt.canLay_of_shaped sd) (room_in_shaped sd hu) ⟨.bl _, H, I, rfl, q⟩
  · obtain ⟨bs, r2⟩ := Dp.reads I (.tuple ds) y u he ry
    exact SeqAt.in_tuple_reads r2 r1 (SeqAt.canLay_of_shaped se) (SeqAt.canLay_of_shaped sd) (room_in_shaped sd hu) ⟨.bl _, H, I, rfl, q⟩
theorem op_notInDD (hu : X.A.units + 65 < cLine) : OpR X (compareOp .NotIn) (rInDD X.K true) := by
  intro pins s σ H x y v u Q I rx ry h
  obtain ⟨d, ds, hd, he, sd, se, q⟩ := h
  obtain ⟨as, r1⟩ := Dp.reads I d x v hd rx
  rw [Bool.true_bne] at q
  rcases he with he | he
  · obtain ⟨bs, r2⟩ := Dp.reads I (.list ds) y u he ry
    exact SeqAt.notIn_list_reads r2 r1 (SeqAt.canLay_of_shaped se) (SeqAt.canLay_of_shaped sd) (room_in_shaped sd hu) ⟨.bl _, H, I, rfl, q⟩
  · obtain ⟨bs, r2⟩ := Dp.reads I (.tuple ds) y u he ry
    exact SeqAt.notIn_tuple_reads r2 r1 (SeqAt.canLay_of_shaped se) (SeqAt.canLay_of_shaped sd) (room_in_shaped sd hu) ⟨.bl _, H, I, rfl, q⟩
end
abbrev TO := PyProof.Rows.listOrd PyProof.Rows.itemOrd
theorem dlt_trans {a b c : PyData} (h1 : PySem.W.dataLt a b = true) (h2 : PySem.W.dataLt b c = true) : PySem.W.dataLt a c = true := TO.trans _ _ _ h1 h2
theorem dle_trans {a b c : PyData} (h1 : PySem.W.dataLt b a = false) (h2 : PySem.W.dataLt c b = false) : PySem.W.dataLt c a = false := by
  cases e : PySem.W.dataLt c a with
  | false => rfl
  | true =>
    rcases TO.negTrans _ (PySem.W.keyToks b) _ e with h | h
    · exact h.symm.trans h2
    · exact h.symm.trans h1
theorem dlt_irrefl (a : PyData) : PySem.W.dataLt a a = false := TO.irrefl _
/-- what the order of a label's signs says -/
theorem dlt_ints : ∀ L M : List Int, PyProof.Rows.lexLt PyProof.Rows.itemOrd (PySem.W.keyToksAll (L.map PyData.int)) (PySem.W.keyToksAll (M.map PyData.int)) = HT.lexLt L M
  | [], [] => by decide +kernel
  | [], y :: s => by
    show PyProof.Rows.lexLt PyProof.Rows.itemOrd (PySem.W.keyToksAll []) (PySem.W.keyToksAll (PyData.int y :: s.map PyData.int)) = true
    rw [PySem.W.toks_all_cons, PySem.W.keyToksAll, PySem.W.lex_atom (by simp), PySem.W.lex_one]
    decide +kernel
  | x :: r, [] => by
    show PyProof.Rows.lexLt PyProof.Rows.itemOrd (PySem.W.keyToksAll (PyData.int x :: r.map PyData.int)) (PySem.W.keyToksAll []) = false
    rw [PySem.W.toks_all_cons, PySem.W.keyToksAll, PySem.W.lex_atom (by simp), PySem.W.lex_one]
    decide +kernel
  | x :: r, y :: s => by
    show PyProof.Rows.lexLt PyProof.Rows.itemOrd (PySem.W.keyToksAll (PyData.int x :: r.map PyData.int)) (PySem.W.keyToksAll (PyData.int y :: s.map PyData.int)) = HT.lexLt (x :: r) (y :: s)
    rw [HT.lexLt_cons]
    have al : PySem.W.alike (.int x) (.int y) = true := rfl
    by_cases e : x = y
    · subst e
      rw [if_pos rfl, PySem.W.dataLt_all_yes al (by show (x == x) = true; exact beq_self_eq_true x)]
      exact dlt_ints r s
    · rw [if_neg e, PySem.W.dataLt_all_no al (by show (x == y) = false; exact beq_eq_false_iff_ne.mpr e), PySem.W.dataLt_int]
theorem dlt_L (L M : List Int) : PySem.W.dataLt (dL L) (dL M) = HT.lexLt L M := by
  unfold dL
  rw [PySem.W.dataLt_tuple, dlt_ints]
theorem alike_ints : ∀ L M : List Int, PySem.W.alikeAll (L.map PyData.int) (M.map PyData.int) = true
  | [], _ => by rw [List.map_nil, PySem.W.alikeAll]
  | _ :: _, [] => by rw [List.map_nil, List.map_cons, PySem.W.alikeAll]
  | _ :: r, _ :: s => by rw [List.map_cons, List.map_cons, PySem.W.alikeAll, alike_ints r s]; rfl
theorem alike_L (L M : List Int) : PySem.W.alike (dL L) (dL M) = true := by
  unfold dL
  rw [PySem.W.alike]
  exact alike_ints L M
theorem alike_P (p q : Pg) : PySem.W.alike (dP p) (dP q) = true := by
  unfold dP
  rw [PySem.W.alike, PySem.W.alikeAll, alike_L, PySem.W.alikeAll, PySem.W.alikeAll]
  rfl
theorem depthL (L : List Int) : (dL L).depth ≤ 1 := (lay_pn 1 _ (pn_L L)).2
theorem depthP (p : Pg) : (dP p).depth ≤ 2 := (lay_pn 2 _ (pn_P p)).2
theorem eqv_L (L M : List Int) : PyData.eqv (dL L) (dL M) = decide (L = M) := eqv_ints L M
theorem eqv_P (p q : Pg) : PyData.eqv (dP p) (dP q) = decide (p = q) := by
  show (PyData.eqv (dL p.1) (dL q.1) && ((p.2 == q.2) && true)) = _
  rw [eqv_L]
  by_cases h : p.1 = q.1
  · by_cases h2 : p.2 = q.2
    · have e : p = q := Prod.ext h h2
      subst e
      simp
    · have e : p ≠ q := fun z => h2 (by rw [z])
      simp [h, h2, e]
  · have e : p ≠ q := fun z => h (by rw [z])
    simp [h, e]
/-- pages in their order -/
def ltP (p q : Pg) : Bool := PySem.W.dataLt (dP p) (dP q)
def leP (p q : Pg) : Bool := !ltP q p
theorem leP_trans {p q r : Pg} (h1 : leP p q = true) (h2 : leP q r = true) : leP p r = true := by
  unfold leP ltP at *
  rw [Bool.not_eq_true'] at *
  exact dle_trans h1 h2
/-! ### the rules that speak of what is written, their fragment told (within a comprehension) -/
section
variable {X : Cx} {K : PySem.W.Frag}
theorem call_len_seqK (h : X.K = K) : CallR X (.builtin "len") (fun xs H Q => ∃ p ys, xs = [.ref p] ∧ (SqL K H p ys ∨ SqT K H p ys) ∧ Q (.int ys.length) H) := h ▸ call_len_seq
theorem cr_allK (h : X.K = K) (hc : X.calm = true) : CallR X (.builtin "all") (rAll K) := h ▸ cr_all hc
theorem cr_anyK (h : X.K = K) (hc : X.calm = true) : CallR X (.builtin "any") (rAny K) := h ▸ cr_any hc
theorem sl_listK (h : X.K = K) : SlR X (rSlL K) := h ▸ sl_list
theorem sl_tupAK (h : X.K = K) : SlR X (rSlA K) := h ▸ sl_tupA
theorem op_in_seqK (h : X.K = K) : OpR X (compareOp .In) (rIn K false) := h ▸ op_in_seq
theorem op_notIn_seqK (h : X.K = K) : OpR X (compareOp .NotIn) (rIn K true) := h ▸ op_notIn_seq
theorem op_eqDK (h : X.K = K) (hu : X.A.units + 64 < cLine) : OpR X (compareOp .Eq) (rEqD K) := h ▸ op_eqD hu
theorem op_neDK (h : X.K = K) (hu : X.A.units + 64 < cLine) : OpR X (compareOp .NotEq) (rNeD K) := h ▸ op_neD hu
theorem op_catAK (h : X.K = K) : OpR X (binaryOp .Add) (rCatA K) := h ▸ op_catA
theorem call_tuple_ofK (h : X.K = K) : CallR X (.type "tuple") (fun xs H Q => ∃ p ys, xs = [.ref p] ∧ ((SqL K H p ys ∧ ∀ l, H l = none → Q (.ref l) (upd H l (.tup ys))) ∨ (SqT K H p ys ∧ Q (.ref p) H))) := h ▸ call_tuple_of
theorem call_isiK' (h : X.K = K) : CallR X (.builtin "isinstance") (rIsi K) := h ▸ call_isi
theorem call_isiTK (h : X.K = K) : CallR X (.builtin "isinstance") (rIsiT K) := h ▸ call_isiT
theorem cr_sumK (h : X.K = K) (hc : X.calm = true) : CallR X (.builtin "sum") (rSum K) := h ▸ cr_sum hc
theorem cr_maxK (h : X.K = K) (hc : X.calm = true) : CallR X (.builtin "max") (rMax K) := h ▸ cr_max hc
theorem cr_minK (h : X.K = K) (hc : X.calm = true) : CallR X (.builtin "min") (rMin K) := h ▸ cr_min hc
theorem op_ltDK (h : X.K = K) (hu : X.A.units + 65 < cLine) : OpR X (compareOp .Lt) (rCmpD K fun d e => PySem.W.dataLt d e) := h ▸ op_ltD hu
theorem op_leDK (h : X.K = K) (hu : X.A.units + 65 < cLine) : OpR X (compareOp .LtE) (rCmpD K fun d e => !PySem.W.dataLt e d) := h ▸ op_leD hu
theorem op_gtDK (h : X.K = K) (hu : X.A.units + 65 < cLine) : OpR X (compareOp .Gt) (rCmpD K fun d e => PySem.W.dataLt e d) := h ▸ op_gtD hu
theorem op_geDK (h : X.K = K) (hu : X.A.units + 65 < cLine) : OpR X (compareOp .GtE) (rCmpD K fun d e => !PySem.W.dataLt d e) := h ▸ op_geD hu
theorem op_inDDK (h : X.K = K) (hu : X.A.units + 65 < cLine) : OpR X (compareOp .In) (rInDD K false) := h ▸ op_inDD hu
theorem op_notInDDK (h : X.K = K) (hu : X.A.units + 65 < cLine) : OpR X (compareOp .NotIn) (rInDD K true) := h ▸ op_notInDD hu
variable {tg l : Expr} {tl : TE}
theorem pi_listK (h : X.K = K) (hl : PE X l tl) : PI X tg l (iList K tl) := h ▸ pi_list hl
theorem pi_tupK (h : X.K = K) (hl : PE X l tl) : PI X tg l (iTup K tl) := h ▸ pi_tup hl
def tTru (K : PySem.W.Frag) (ta : TE) : TT := fun σ H Q => ta σ H fun x H' => ∃ k, TruV K x H' k ∧ Q k H'
theorem pt_truthK {a : Expr} {ta : TE} (h : X.K = K) (ha : PE X a ta) (he : ∀ whole, isTrue a X.env whole = (do let v ← whole; standAt a.pos; holding [v] (truthy v))) : L2.PT X a (tTru K ta) := h ▸ pt_truth ha he
theorem pe_fldK {e : Expr} {f : Str} {pos : Pos} {ta : TE} (h : X.K = K) (he : PE X e ta) (hb : attributeBase e f X.env (eval e X.env) = eval e X.env) : PE X (.Attribute e f pos) (tFld K ta f) := h ▸ pe_fld he hb
end
/-! ### what stays: all but lists; data of tracked tuples -/
def NL (H H' : Hp) : Prop := ∀ b o, H b = some o → (∀ ys, o ≠ .lst ys) → H' b = some o
theorem NL.refl (H : Hp) : NL H H := fun _ _ e _ => e
theorem NL.trans {H H1 H2 : Hp} (x : NL H H1) (y : NL H1 H2) : NL H H2 := fun b o e n => y b o (x b o e n) n
theorem NL.of {H H' : Hp} (x : Same H H') : NL H H' := fun b o e _ => x b o e
theorem NL.but {a : Addr} {H H' : Hp} {ys : List V} (x : But a H H') (h : H a = some (.lst ys)) : NL H H' := fun b o e n => x b o (fun z => by
  rw [z, h] at e
  exact n ys (Option.some.inj e).symm) e
theorem Src.nl {a : Addr} {H H' : Hp} (s : Src H a) (x : But a H H') : NL H H' := by
  obtain ⟨g, y, c, e⟩ := s
  exact NL.but x e
theorem NL.put {D : Addr} {H H' : Hp} {ys : List V} (x : NL H H') (h : H' D = some (.lst ys)) (o : HO) : NL H (upd H' D o) := fun b u e n => by
  have e' := x b u e n
  rw [upd_ne (fun z => by rw [z, h] at e'; exact n ys (Option.some.inj e').symm)]
  exact e'
theorem NL.new {D : Addr} {H H' : Hp} (x : NL H H') (h : H' D = none) (o : HO) : NL H (upd H' D o) := fun b u e n => by
  have e' := x b u e n
  rw [upd_ne (ne_of_none e' h)]
  exact e'
theorem NL.seqT {K : PySem.W.Frag} {H H' : Hp} {p : Addr} {xs : List V} (x : NL H H') (h : SqT K H p xs) : SqT K H' p xs :=
  h.elim (fun r => .inl (r.elim (fun e => .inl (x p _ e (fun _ z => nomatch z))) (fun ⟨o, e⟩ => .inr ⟨o, x p _ e (fun _ z => nomatch z)⟩))) .inr
mutual
inductive Tp (H : Hp) : V → PyData → Prop
  | non : Tp H .non .none
  | bl (b : Bool) : Tp H (.bl b) (.bool b)
  | int (i : Int) : Tp H (.int i) (.int i)
  | str (z : Str) : Tp H (.str z) (.str z)
  | tup {a : Addr} {vs : List V} {ds : List PyData} (h : H a = some (.tup vs)) (r : TpAll H vs ds) : Tp H (.ref a) (.tuple ds)
inductive TpAll (H : Hp) : List V → List PyData → Prop
  | nil : TpAll H [] []
  | cons {v : V} {vs : List V} {d : PyData} {ds : List PyData} (h : Tp H v d) (r : TpAll H vs ds) : TpAll H (v :: vs) (d :: ds)
end
mutual
theorem Tp.nl {H H' : Hp} (m : NL H H') : ∀ {v : V} {d : PyData}, Tp H v d → Tp H' v d
  | _, _, .non => .non
  | _, _, .bl b => .bl b
  | _, _, .int i => .int i
  | _, _, .str z => .str z
  | _, _, .tup h r => .tup (m _ _ h (fun _ z => nomatch z)) (TpAll.nl m r)
theorem TpAll.nl {H H' : Hp} (m : NL H H') : ∀ {vs : List V} {ds : List PyData}, TpAll H vs ds → TpAll H' vs ds
  | _, _, .nil => .nil
  | _, _, .cons h r => .cons (Tp.nl m h) (TpAll.nl m r)
end
mutual
theorem Tp.dp {K : PySem.W.Frag} {H : Hp} : ∀ {v : V} {d : PyData}, Tp H v d → Dp K H v d
  | _, _, .non => .non
  | _, _, .bl b => .bl b
  | _, _, .int i => .int i
  | _, _, .str z => .str z
  | _, _, .tup h r => .tup (.inl (.inl h)) (TpAll.dp r)
theorem TpAll.dp {K : PySem.W.Frag} {H : Hp} : ∀ {vs : List V} {ds : List PyData}, TpAll H vs ds → DpAll K H vs ds
  | _, _, .nil => .nil
  | _, _, .cons h r => .cons (Tp.dp h) (TpAll.dp r)
end
theorem TpAll.len {H : Hp} : ∀ {vs : List V} {ds : List PyData}, TpAll H vs ds → vs.length = ds.length
  | _, _, .nil => rfl
  | _, _, .cons _ r => congrArg (· + 1) (TpAll.len r)
theorem TpAll.snoc {H : Hp} : ∀ {vs : List V} {ds : List PyData} {v : V} {d : PyData}, TpAll H vs ds → Tp H v d → TpAll H (vs ++ [v]) (ds ++ [d])
  | _, _, _, _, .nil, h => .cons h .nil
  | _, _, _, _, .cons k r, h => .cons k (TpAll.snoc r h)
theorem TpAll.app {H : Hp} : ∀ {vs : List V} {ds : List PyData} {us : List V} {es : List PyData}, TpAll H vs ds → TpAll H us es → TpAll H (vs ++ us) (ds ++ es)
  | _, _, _, _, .nil, h => h
  | _, _, _, _, .cons k r, h => .cons k (TpAll.app r h)
theorem TpAll.get {H : Hp} : ∀ {vs : List V} {ds : List PyData} {i : Nat} {v : V}, TpAll H vs ds → vs[i]? = some v → ∃ d, ds[i]? = some d ∧ Tp H v d
  | _, _, _, _, .nil, e => nomatch e
  | _, _, 0, _, .cons h r, e => by
    injection e with e
    subst e
    exact ⟨_, rfl, h⟩
  | _, _, i + 1, _, .cons h r, e => by
    obtain ⟨d, e1, e2⟩ := TpAll.get (i := i) r e
    exact ⟨d, e1, e2⟩
theorem TpAll.get2 {H : Hp} {vs : List V} {ds : List PyData} {i : Nat} {d : PyData} (h : TpAll H vs ds) (e : ds[i]? = some d) : ∃ v, vs[i]? = some v ∧ Tp H v d := by
  have hi := (List.getElem?_eq_some_iff.mp e).1
  rw [← h.len] at hi
  have e1 := List.getElem?_eq_getElem hi
  obtain ⟨d', e2, e3⟩ := h.get e1
  rw [e] at e2
  injection e2 with e2
  subst e2
  exact ⟨_, e1, e3⟩
theorem TpAll.drop {H : Hp} : ∀ {vs : List V} {ds : List PyData} (n : Nat), TpAll H vs ds → TpAll H (vs.drop n) (ds.drop n)
  | _, _, 0, h => h
  | _, _, _ + 1, .nil => .nil
  | _, _, n + 1, .cons _ r => TpAll.drop n r
theorem TpAll.take {H : Hp} : ∀ {vs : List V} {ds : List PyData} (n : Nat), TpAll H vs ds → TpAll H (vs.take n) (ds.take n)
  | _, _, 0, _ => .nil
  | _, _, _ + 1, .nil => .nil
  | _, _, n + 1, .cons h r => .cons h (TpAll.take n r)
theorem TpAll.ints {H : Hp} : ∀ L : List Int, TpAll H (L.map V.int) (L.map PyData.int)
  | [] => .nil
  | i :: r => .cons (.int i) (TpAll.ints r)
theorem TpAll.strs {H : Hp} : ∀ L : List Str, TpAll H (L.map V.str) (L.map PyData.str)
  | [] => .nil
  | i :: r => .cons (.str i) (TpAll.strs r)
theorem TpAll.ints_inv {H : Hp} : ∀ {L : List Int} {vs : List V}, TpAll H vs (L.map PyData.int) → vs = L.map V.int
  | [], _, .nil => rfl
  | i :: r, _, .cons h a => by
    cases h
    rw [TpAll.ints_inv a]
    rfl
theorem TpAll.strs_inv {H : Hp} : ∀ {L : List Str} {vs : List V}, TpAll H vs (L.map PyData.str) → vs = L.map V.str
  | [], _, .nil => rfl
  | i :: r, _, .cons h a => by
    cases h
    rw [TpAll.strs_inv a]
    rfl
def dS (zs : List Str) : PyData := .tuple (zs.map PyData.str)
theorem tpL {H : Hp} {a : Addr} {L : List Int} (h : H a = some (.tup (L.map V.int))) : Tp H (.ref a) (dL L) := .tup h (.ints L)
theorem tpS {H : Hp} {a : Addr} {L : List Str} (h : H a = some (.tup (L.map V.str))) : Tp H (.ref a) (dS L) := .tup h (.strs L)
theorem tpL_inv {H : Hp} {v : V} {L : List Int} (h : Tp H v (dL L)) : ∃ a, v = .ref a ∧ H a = some (.tup (L.map V.int)) := by
  cases h with
  | tup h r => exact ⟨_, rfl, by rw [r.ints_inv] at h; exact h⟩
theorem tpS_inv {H : Hp} {v : V} {L : List Str} (h : Tp H v (dS L)) : ∃ a, v = .ref a ∧ H a = some (.tup (L.map V.str)) := by
  cases h with
  | tup h r => exact ⟨_, rfl, by rw [r.strs_inv] at h; exact h⟩
theorem tpP_inv {H : Hp} {v : V} {p : Pg} (h : Tp H v (dP p)) : ∃ a l, v = .ref a ∧ H a = some (.tup [.ref l, .int p.2]) ∧ H l = some (.tup (p.1.map V.int)) := by
  cases h with
  | tup h r =>
    cases r with
    | cons h1 r =>
      cases r with
      | cons h2 r =>
        cases r
        cases h2
        obtain ⟨l, rfl, hl⟩ := tpL_inv h1
        exact ⟨_, l, rfl, h, hl⟩
theorem tpP {H : Hp} {a l : Addr} {p : Pg} (h : H a = some (.tup [.ref l, .int p.2])) (hl : H l = some (.tup (p.1.map V.int))) : Tp H (.ref a) (dP p) := .tup h (.cons (tpL hl) (.cons (.int _) .nil))
theorem tpR_inv {H : Hp} {v : V} {r : Pg × Pg} (h : Tp H v (dR r)) : ∃ a x y, v = .ref a ∧ H a = some (.tup [x, y]) ∧ Tp H x (dP r.1) ∧ Tp H y (dP r.2) := by
  cases h with
  | tup h r =>
    cases r with
    | cons h1 r =>
      cases r with
      | cons h2 r =>
        cases r
        exact ⟨_, _, _, rfl, h, h1, h2⟩
theorem tpR {H : Hp} {a : Addr} {x y : V} {p q : Pg} (h : H a = some (.tup [x, y])) (h1 : Tp H x (dP p)) (h2 : Tp H y (dP q)) : Tp H (.ref a) (dR (p, q)) := .tup h (.cons h1 (.cons h2 .nil))
theorem smallM {n : Nat} (h : n < 1000000) : n < sizeLine := by rw [sizeLine_eq]; omega
theorem seqT_butI {K : PySem.W.Frag} {H H' : Hp} {x C dx p : Addr} {fs : List (Str × V)} {ys : List V} (hx : H x = some (.ins C dx fs)) (b : But x H H') (h : SqT K H p ys) : SqT K H' p ys :=
  h.elim (fun r => .inl (r.elim (fun e => .inl (b p _ (ne_of e hx (by intro z; cases z)) e)) (fun ⟨o, e⟩ => .inr ⟨o, b p _ (ne_of e hx (by intro z; cases z)) e⟩))) .inr
theorem tpAll_labs {H : Hp} : ∀ {us : List V} {Ls : List (List Int)}, TpAll H us (Ls.map dL) → us.map (labK H) = Ls ∧ ∀ u ∈ us, ∃ t, u = V.ref t ∧ H t = some (.tup ((labK H u).map V.int))
  | [], [], .nil => ⟨rfl, fun _ h => nomatch h⟩
  | _ :: _, L :: r, .cons h t => by
    obtain ⟨e1, e2⟩ := tpAll_labs t
    obtain ⟨a, rfl, ha⟩ := tpL_inv h
    have e3 := labK_at ha
    refine ⟨by rw [List.map_cons, e1, e3], fun u hu => ?_⟩
    rcases List.mem_cons.mp hu with h | h
    · rw [h]; exact ⟨a, rfl, by rw [e3]; exact ha⟩
    · exact e2 u h
theorem labs_tpAll {H : Hp} : ∀ {us : List V}, (∀ u ∈ us, ∃ t, u = V.ref t ∧ H t = some (.tup ((labK H u).map V.int))) → TpAll H us ((us.map (labK H)).map dL)
  | [], _ => .nil
  | u :: r, h => by
    obtain ⟨t, rfl, ht⟩ := h u (List.mem_cons_self ..)
    exact .cons (tpL ht) (labs_tpAll fun v hv => h v (List.mem_cons_of_mem _ hv))
theorem pn_Ls {Ls : List (List Int)} : SeqAt.shaped (.list (Ls.map dL)) = true := shaped_pnl (n := 1) (fun d hd => by obtain ⟨p, _, rfl⟩ := List.mem_map.mp hd; exact pn_L p) (by decide)
theorem shaped_L (L : List Int) : SeqAt.shaped (dL L) = true := shaped_pn (pn_L L) (by decide)
theorem in_L (L : List Int) (Ls : List (List Int)) : ((Ls.map dL).any fun z => PyData.eqv z (dL L)) = decide (L ∈ Ls) := by
  induction Ls with
  | nil => simp
  | cons q r ih =>
    rw [List.map_cons, List.any_cons, ih, eqv_L]
    by_cases h : q = L
    · subst h; simp
    · have : L ≠ q := fun z => h z.symm
      simp [h, this]
/-! ### data given as lists where it was tuples -/
def Pl : Nat → PyData → Prop
  | 0, _ => False
  | _ + 1, .int _ => True
  | n + 1, .tuple ds => ds.length ≤ 1000 ∧ ∀ d ∈ ds, Pl n d
  | _ + 1, _ => False
mutual
def toL : PyData → PyData
  | .tuple ds => .list (toLs ds)
  | d => d
def toLs : List PyData → List PyData
  | [] => []
  | d :: r => toL d :: toLs r
end
theorem toLs_map : ∀ ds : List PyData, toLs ds = ds.map toL
  | [] => rfl
  | d :: r => congrArg (toL d :: ·) (toLs_map r)
theorem toLs_ints (L : List Int) : toLs (L.map PyData.int) = L.map PyData.int := by
  induction L with
  | nil => rfl
  | cons i t ih => show PyData.int i :: toLs (t.map PyData.int) = _; rw [ih]; rfl
theorem lay_pl : ∀ (n : Nat) (d : PyData), Pl n d → (toL d).canLay0 = true ∧ (toL d).depth ≤ n
  | 0, _, h => h.elim
  | _ + 1, .int _, _ => ⟨rfl, Nat.zero_le _⟩
  | n + 1, .tuple ds, h => by
    have key : ∀ es : List PyData, (∀ d ∈ es, Pl n d) → PyData.canLayAll0 (toLs es) = true ∧ PyData.depthAll (toLs es) ≤ n := by
      intro es
      induction es with
      | nil => exact fun _ => ⟨rfl, Nat.zero_le _⟩
      | cons d r ih =>
        intro hh
        have h1 := lay_pl n d (hh d (List.mem_cons_self ..))
        have h2 := ih fun e he => hh e (List.mem_cons_of_mem _ he)
        refine ⟨?_, ?_⟩
        · show ((toL d).canLay0 && PyData.canLayAll0 (toLs r)) = true
          rw [h1.1, h2.1]
          rfl
        · show max (toL d).depth (PyData.depthAll (toLs r)) ≤ n
          omega
    have := key ds h.2
    exact ⟨this.1, Nat.succ_le_succ this.2⟩
  | _ + 1, .none, h => by simp [Pl] at h
  | _ + 1, .bool _, h => by simp [Pl] at h
  | _ + 1, .str _, h => by simp [Pl] at h
  | _ + 1, .list _, h => by simp [Pl] at h
  | _ + 1, .dict _, h => by simp [Pl] at h
theorem shaped_pl {n : Nat} {d : PyData} (h : Pl n d) (hn : n ≤ 64) : SeqAt.shaped (toL d) = true := by
  have := lay_pl n d h
  unfold SeqAt.shaped
  rw [Bool.and_eq_true]
  exact ⟨this.1, decide_eq_true (by omega)⟩
theorem eqv_pl {n : Nat} {d : PyData} (h : Pl n d) : PyData.eqv (toL d) (toL d) = true := SeqAt.eqv_refl _ (lay_pl n d h).1
theorem pl_dL {L : List Int} (h : L.length ≤ 1000) (n : Nat) : Pl (n + 2) (dL L) := ⟨by rw [List.length_map]; exact h, fun d hd => by
  obtain ⟨i, _, rfl⟩ := List.mem_map.mp hd
  exact trivial⟩
theorem pl_dP {p : Pg} (h : p.1.length ≤ 3) (n : Nat) : Pl (n + 3) (dP p) := ⟨(by show 2 ≤ 1000; decide), fun d hd => by
  rcases List.mem_cons.mp hd with rfl | hd
  · exact pl_dL (by omega) n
  · rw [List.mem_singleton.mp hd]; exact trivial⟩
theorem pl_dR' {r : Pg × Pg} (h : okP r.1 ∧ okP r.2) (n : Nat) : Pl (n + 4) (dR r) := ⟨(by show 2 ≤ 1000; decide), fun d hd => by
  rcases List.mem_cons.mp hd with rfl | hd
  · exact pl_dP h.1.1.1 n
  · rw [List.mem_singleton.mp hd]; exact pl_dP h.2.1.1 n⟩
theorem pl_tup {α : Type} {f : α → PyData} {n : Nat} {xs : List α} (h : ∀ x ∈ xs, Pl n (f x)) (hl : xs.length ≤ 1000) : Pl (n + 1) (.tuple (xs.map f)) := ⟨by rw [List.length_map]; exact hl, fun d hd => by
  obtain ⟨x, hx, rfl⟩ := List.mem_map.mp hd
  exact h x hx⟩
/-! ### list comprehensions whose turns change nothing that stood -/
theorem walkL {K : PySem.W.Frag} {a : Addr} {xs : List V} {n : Nat} (h : xs.length = n) : Walk (Itl K a) n (fun H => SqL K H a xs) (YAt xs) := h ▸ walk_list
theorem walkT {K : PySem.W.Frag} {a : Addr} {xs : List V} {n : Nat} (h : xs.length = n) : Walk (Itt K a) n (fun H => SqT K H a xs) (YAt xs) := h ▸ walk_tup
theorem walk_zipT {K : PySem.W.Frag} {a b : Addr} {xs ys : List V} {n : Nat} (hn : n = min xs.length ys.length) : Walk (RZ.ItzT K a b) n (fun H => SqT K H a xs ∧ SqT K H b ys) (YPair (fun i => xs[i]?) (fun i => ys[i]?)) := by
  subst hn
  refine ⟨fun i _ hi q => ?_, fun _ q => ⟨xs, ys, q.1, q.2, by omega⟩, fun i H v H' _ q y => ?_⟩
  · have h1 : i < xs.length := by omega
    have h2 : i < ys.length := by omega
    exact ⟨xs, ys, xs[i], ys[i], q.1, q.2, by simp [h1], by simp [h2]⟩
  · obtain ⟨p, x, z, h1, h2, h3, h4, h5⟩ := y
    exact ⟨p, x, z, h1, h2, h3, h4 xs q.1, h5 ys q.2⟩
section
variable {J : It} {G : Hp → Prop} {Y : Nat → Hp → V → Hp → Prop} {g : TG} {tt : TT} {te : TE} {vs : List Nat} {σ : L2.St} {H1 : Hp} {D : Addr} {Qd : Hp → Prop} {α : Type}
theorem fm_step {β : Type} {ds : List α} {f : α → Option β} {i : Nat} {d : α} (e : ds[i]? = some d) : (ds.take (i + 1)).filterMap f = (ds.take i).filterMap f ++ (f d).toList := by
  rw [List.take_add_one, e, List.filterMap_append, Option.toList_some, List.filterMap_cons, List.filterMap_nil]
  cases f d <;> rfl
theorem fm_len {β : Type} (ds : List α) (f : α → Option β) (i : Nat) : ((ds.take i).filterMap f).length ≤ ds.length := Nat.le_trans (List.length_filterMap_le ..) (by rw [List.length_take]; omega)
/-- the values are known -/
theorem lc_fm (ds : List α) (f : α → Option V) (w : Walk J ds.length G Y) (nD : H1 D = none) (hG : ∀ H, Same H1 H → G H) (hl : ds.length ≤ 100000)
    (hs : ∀ i d x H H', ds[i]? = some d → Same H1 H → Y i H x H' → ∀ (R : V → Hp → Prop) (N : Hp → Prop), (∀ v, f d = some v → ∀ H4, Same H H4 → R v H4) → (f d = none → ∀ H4, Same H H4 → N H4) →
      g x (wipe σ vs) H' fun σ2 H2 => wipe σ2 vs = wipe σ vs ∧ tt σ2 H2 fun b H3 => if b = true then te σ2 H3 R else N H3)
    (hd : ∀ H, Same H1 H → H D = some (.lst (ds.filterMap f)) → Qd H) :
    ∃ W : Nat → Nat → Hp → Prop, (∃ m, W 0 m (upd H1 D (.lst []))) ∧ ∀ i m H, W i m H →
      (J.stop i H ∧ Qd H) ∨ (J.go i H ∧ ∃ Nx : Hp → Prop, (∀ H', Nx H' → ∃ m', m' < m ∧ W (i + 1) m' H') ∧ ∀ x H', J.yld i H x H' → g x (wipe σ vs) H' fun σ2 H2 => wipe σ2 vs = wipe σ vs ∧ tt σ2 H2 fun b H3 =>
        if b = true then te σ2 H3 fun y H4 => ∃ acc, H4 D = some (.lst acc) ∧ acc.length < sizeLine ∧ Nx (upd H4 D (.lst (acc ++ [y]))) else Nx H3) := by
  refine lc_it w (fun i H => Same H1 H ∧ H D = some (.lst ((ds.take i).filterMap f))) ⟨same_upd nD, upd_same⟩ (fun i H _ h => hG H h.1) (fun i x H H' hi ⟨sm, eD⟩ y => ?_) (fun H ⟨sm, eD⟩ => hd H sm (by rw [List.take_length] at eD; exact eD))
  have ei := List.getElem?_eq_getElem hi
  refine hs i ds[i] x H H' ei sm y _ _ (fun v ev H4 s4 => ?_) (fun en H4 s4 => ?_)
  · refine ⟨_, s4 _ _ eD, ?_, same_put (sm.trans s4) nD _, ?_⟩
    · have := fm_len ds f i
      exact Nat.lt_of_le_of_lt (Nat.le_trans this hl) (by decide)
    · rw [upd_same, fm_step ei, ev]
      rfl
  · refine ⟨sm.trans s4, ?_⟩
    rw [fm_step ei, en, s4 _ _ eD]
    simp
/-- the data are known, all of tracked tuples -/
theorem lc_tp (ds : List α) (f : α → Option PyData) (w : Walk J ds.length G Y) (nD : H1 D = none) (hG : ∀ H, Same H1 H → G H) (hl : ds.length ≤ 100000)
    (hs : ∀ i d x H H', ds[i]? = some d → Same H1 H → Y i H x H' → ∀ (R : V → Hp → Prop) (N : Hp → Prop), (∀ v e, f d = some e → ∀ H4, Same H H4 → Tp H4 v e → R v H4) → (f d = none → ∀ H4, Same H H4 → N H4) →
      g x (wipe σ vs) H' fun σ2 H2 => wipe σ2 vs = wipe σ vs ∧ tt σ2 H2 fun b H3 => if b = true then te σ2 H3 R else N H3)
    (hd : ∀ H us, Same H1 H → H D = some (.lst us) → TpAll H us (ds.filterMap f) → Qd H) :
    ∃ W : Nat → Nat → Hp → Prop, (∃ m, W 0 m (upd H1 D (.lst []))) ∧ ∀ i m H, W i m H →
      (J.stop i H ∧ Qd H) ∨ (J.go i H ∧ ∃ Nx : Hp → Prop, (∀ H', Nx H' → ∃ m', m' < m ∧ W (i + 1) m' H') ∧ ∀ x H', J.yld i H x H' → g x (wipe σ vs) H' fun σ2 H2 => wipe σ2 vs = wipe σ vs ∧ tt σ2 H2 fun b H3 =>
        if b = true then te σ2 H3 fun y H4 => ∃ acc, H4 D = some (.lst acc) ∧ acc.length < sizeLine ∧ Nx (upd H4 D (.lst (acc ++ [y]))) else Nx H3) := by
  refine lc_it w (fun i H => Same H1 H ∧ ∃ us, H D = some (.lst us) ∧ TpAll H us ((ds.take i).filterMap f)) ⟨same_upd nD, [], upd_same, .nil⟩ (fun i H _ h => hG H h.1) (fun i x H H' hi ⟨sm, us, eD, tp⟩ y => ?_) (fun H ⟨sm, us, eD, tp⟩ => hd H us sm eD (by rw [List.take_length] at tp; exact tp))
  have ei := List.getElem?_eq_getElem hi
  refine hs i ds[i] x H H' ei sm y _ _ (fun v e ev H4 s4 tv => ?_) (fun en H4 s4 => ?_)
  · have e4 := s4 _ _ eD
    refine ⟨us, e4, ?_, same_put (sm.trans s4) nD _, us ++ [v], upd_same, ?_⟩
    · have := fm_len ds f i
      rw [← tp.len] at this
      exact Nat.lt_of_le_of_lt (Nat.le_trans this hl) (by decide)
    · rw [fm_step ei, ev]
      have m := (NL.refl H4).put e4 (.lst (us ++ [v]))
      exact ((tp.nl (NL.of s4)).nl m).snoc (tv.nl m)
  · refine ⟨sm.trans s4, us, s4 _ _ eD, ?_⟩
    rw [fm_step ei, en]
    simpa using tp.nl (NL.of s4)
end
theorem map_fm {α β : Type} (f : α → β) (ds : List α) : ds.filterMap (fun d => some (f d)) = ds.map f := by
  induction ds with
  | nil => rfl
  | cons d r ih => rw [List.filterMap_cons, ih]; rfl
theorem fm_filter {α β : Type} (p : α → Bool) (f : α → β) (ds : List α) : ds.filterMap (fun d => if p d = true then some (f d) else none) = (ds.filter p).map f := by
  induction ds with
  | nil => rfl
  | cons d r ih =>
    rw [List.filterMap_cons]
    cases e : p d with
    | true => rw [if_pos rfl, List.filter_cons_of_pos e, List.map_cons, ih]
    | false => rw [if_neg (by decide), List.filter_cons_of_neg (by rw [e]; decide), ih]
theorem all_map {α : Type} (p : α → Bool) (ds : List α) : (ds.map p).all id = ds.all p := by
  induction ds with
  | nil => rfl
  | cons d r ih => rw [List.map_cons, List.all_cons, List.all_cons, ih]; rfl
theorem any_map {α : Type} (p : α → Bool) (ds : List α) : (ds.map p).any id = ds.any p := by
  induction ds with
  | nil => rfl
  | cons d r ih => rw [List.map_cons, List.any_cons, List.any_cons, ih]; rfl
/-! ### two fors -/
section
variable {J J1 : It} {n n1 : Nat} {G G1 : Hp → Prop} {Y Y1 : Nat → Hp → V → Hp → Prop} {wi1 : TI} {g g1 : TG} {tt tt1 : TT} {te : TE} {vs vs1 : List Nat} {σ σ2 : L2.St} {H1 H4 : Hp} {D : Addr} {Qd Nx : Hp → Prop}
/-- the inner for, begun at H4 -/
theorem in2_it (w : Walk J1 n1 G1 Y1) (Pv : Nat → Hp → Prop) (h0 : Pv 0 H4) (hG : ∀ i H, i ≤ n1 → Pv i H → G1 H)
    (hs : ∀ i x H H', i < n1 → Pv i H → Y1 i H x H' → g1 x (wipe σ2 vs1) H' fun σ3 H5 => wipe σ3 vs1 = wipe σ2 vs1 ∧ tt1 σ3 H5 fun b H6 =>
      if b = true then te σ3 H6 fun y H7 => ∃ acc, H7 D = some (.lst acc) ∧ acc.length < sizeLine ∧ Pv (i + 1) (upd H7 D (.lst (acc ++ [y]))) else Pv (i + 1) H6) (hd : ∀ H, Pv n1 H → Nx H) :
    ∃ W1 : Nat → Nat → Hp → Prop, (∃ m, W1 0 m H4) ∧ ∀ j k H, W1 j k H →
      (J1.stop j H ∧ Nx H) ∨ (J1.go j H ∧ ∃ Nx1 : Hp → Prop, (∀ H', Nx1 H' → ∃ k', k' < k ∧ W1 (j + 1) k' H') ∧ ∀ x H', J1.yld j H x H' → g1 x (wipe σ2 vs1) H' fun σ3 H5 => wipe σ3 vs1 = wipe σ2 vs1 ∧ tt1 σ3 H5 fun b H6 =>
        if b = true then te σ3 H6 fun y H7 => ∃ acc, H7 D = some (.lst acc) ∧ acc.length < sizeLine ∧ Nx1 (upd H7 D (.lst (acc ++ [y]))) else Nx1 H6) := by
  refine ⟨fun i m H => m = n1 - i ∧ i ≤ n1 ∧ Pv i H, ⟨n1, by simp, Nat.zero_le _, h0⟩, ?_⟩
  rintro i m H ⟨rfl, hi, p⟩
  have q := hG i H hi p
  by_cases hlt : i < n1
  · exact .inr ⟨w.goes i H hlt q, Pv (i + 1), fun H' p' => ⟨n1 - (i + 1), by omega, rfl, hlt, p'⟩, fun x H' y => hs i x H H' hlt p (w.yields i H x H' hlt q y)⟩
  · have e : i = n1 := by omega
    subst e
    exact .inl ⟨w.stops H q, hd H p⟩
/-- the outer for: what the inner one is asked for, as it stands -/
theorem lc2_it (w : Walk J n G Y) (Pv : Nat → Hp → Prop) (h0 : Pv 0 (upd H1 D (.lst []))) (hG : ∀ i H, i ≤ n → Pv i H → G H)
    (hs : ∀ i x H H', i < n → Pv i H → Y i H x H' → g x (wipe σ vs) H' fun σ2 H2 => wipe σ2 vs = wipe σ vs ∧ tt σ2 H2 fun b H3 =>
      if b = true then wi1 σ2 H3 fun J1 H4 => ∃ W1 : Nat → Nat → Hp → Prop, (∃ m, W1 0 m H4) ∧ ∀ j k H, W1 j k H →
        (J1.stop j H ∧ Pv (i + 1) H) ∨ (J1.go j H ∧ ∃ Nx1 : Hp → Prop, (∀ H', Nx1 H' → ∃ k', k' < k ∧ W1 (j + 1) k' H') ∧ ∀ x H', J1.yld j H x H' → g1 x (wipe σ2 vs1) H' fun σ3 H5 => wipe σ3 vs1 = wipe σ2 vs1 ∧ tt1 σ3 H5 fun b H6 =>
          if b = true then te σ3 H6 fun y H7 => ∃ acc, H7 D = some (.lst acc) ∧ acc.length < sizeLine ∧ Nx1 (upd H7 D (.lst (acc ++ [y]))) else Nx1 H6)
      else Pv (i + 1) H3) (hd : ∀ H, Pv n H → Qd H) :
    ∃ W : Nat → Nat → Hp → Prop, (∃ m, W 0 m (upd H1 D (.lst []))) ∧ ∀ i m H, W i m H →
      (J.stop i H ∧ Qd H) ∨ (J.go i H ∧ ∃ Nx : Hp → Prop, (∀ H', Nx H' → ∃ m', m' < m ∧ W (i + 1) m' H') ∧ ∀ x H', J.yld i H x H' → g x (wipe σ vs) H' fun σ2 H2 => wipe σ2 vs = wipe σ vs ∧ tt σ2 H2 fun b H3 =>
        if b = true then wi1 σ2 H3 fun J1 H4 => ∃ W1 : Nat → Nat → Hp → Prop, (∃ m, W1 0 m H4) ∧ ∀ j k H, W1 j k H →
          (J1.stop j H ∧ Nx H) ∨ (J1.go j H ∧ ∃ Nx1 : Hp → Prop, (∀ H', Nx1 H' → ∃ k', k' < k ∧ W1 (j + 1) k' H') ∧ ∀ x H', J1.yld j H x H' → g1 x (wipe σ2 vs1) H' fun σ3 H5 => wipe σ3 vs1 = wipe σ2 vs1 ∧ tt1 σ3 H5 fun b H6 =>
            if b = true then te σ3 H6 fun y H7 => ∃ acc, H7 D = some (.lst acc) ∧ acc.length < sizeLine ∧ Nx1 (upd H7 D (.lst (acc ++ [y]))) else Nx1 H6)
        else Nx H3) := by
  refine ⟨fun i m H => m = n - i ∧ i ≤ n ∧ Pv i H, ⟨n, by simp, Nat.zero_le _, h0⟩, ?_⟩
  rintro i m H ⟨rfl, hi, p⟩
  have q := hG i H hi p
  by_cases hlt : i < n
  · exact .inr ⟨w.goes i H hlt q, Pv (i + 1), fun H' p' => ⟨n - (i + 1), by omega, rfl, hlt, p'⟩, fun x H' y => hs i x H H' hlt p (w.yields i H x H' hlt q y)⟩
  · have e : i = n := by omega
    subst e
    exact .inl ⟨w.stops H q, hd H p⟩
end
section
variable {K : PySem.W.Frag} {J : It} {G : Hp → Prop} {Y : Nat → Hp → V → Hp → Prop} {g : TG} {tt : TT} {te : TE} {vs : List Nat} {σ : L2.St} {H1 : Hp} {D : Addr} {Qd : Hp → Prop} {α : Type}
/-- the data are known, without lists -/
theorem lc_dp (ds : List α) (f : α → Option PyData) (hn : ∀ d e, f d = some e → ∃ n, Nl n e) (w : Walk J ds.length G Y) (nD : H1 D = none) (hG : ∀ H, Same H1 H → G H) (hl : ds.length ≤ 100000)
    (hs : ∀ i d x H H', ds[i]? = some d → Same H1 H → Y i H x H' → ∀ (R : V → Hp → Prop) (N : Hp → Prop), (∀ v e, f d = some e → ∀ H4, Same H H4 → Dp K H4 v e → R v H4) → (f d = none → ∀ H4, Same H H4 → N H4) →
      g x (wipe σ vs) H' fun σ2 H2 => wipe σ2 vs = wipe σ vs ∧ tt σ2 H2 fun b H3 => if b = true then te σ2 H3 R else N H3)
    (hd : ∀ H us, Same H1 H → H D = some (.lst us) → DpAll K H us (ds.filterMap f) → Qd H) :
    ∃ W : Nat → Nat → Hp → Prop, (∃ m, W 0 m (upd H1 D (.lst []))) ∧ ∀ i m H, W i m H →
      (J.stop i H ∧ Qd H) ∨ (J.go i H ∧ ∃ Nx : Hp → Prop, (∀ H', Nx H' → ∃ m', m' < m ∧ W (i + 1) m' H') ∧ ∀ x H', J.yld i H x H' → g x (wipe σ vs) H' fun σ2 H2 => wipe σ2 vs = wipe σ vs ∧ tt σ2 H2 fun b H3 =>
        if b = true then te σ2 H3 fun y H4 => ∃ acc, H4 D = some (.lst acc) ∧ acc.length < sizeLine ∧ Nx (upd H4 D (.lst (acc ++ [y]))) else Nx H3) := by
  refine lc_it w (fun i H => Same H1 H ∧ ∃ us, H D = some (.lst us) ∧ DpAll K H us ((ds.take i).filterMap f)) ⟨same_upd nD, [], upd_same, .nil⟩ (fun i H _ h => hG H h.1) (fun i x H H' hi ⟨sm, us, eD, tp⟩ y => ?_) (fun H ⟨sm, us, eD, tp⟩ => hd H us sm eD (by rw [List.take_length] at tp; exact tp))
  have ei := List.getElem?_eq_getElem hi
  refine hs i ds[i] x H H' ei sm y _ _ (fun v e ev H4 s4 tv => ?_) (fun en H4 s4 => ?_)
  · have e4 := s4 _ _ eD
    refine ⟨us, e4, ?_, same_put (sm.trans s4) nD _, us ++ [v], upd_same, ?_⟩
    · have := fm_len ds f i
      rw [← dpAll_len tp] at this
      exact Nat.lt_of_le_of_lt (Nat.le_trans this hl) (by decide)
    · rw [fm_step ei, ev]
      refine dpAll_snoc (dpAll_butN e4 (But.upd _) (dpAll_same s4 tp) fun d hd => ?_) (dp_butN e4 (But.upd _) tv (hn _ _ ev))
      obtain ⟨a, _, ea⟩ := List.mem_filterMap.mp hd
      exact hn _ _ ea
  · refine ⟨sm.trans s4, us, s4 _ _ eD, ?_⟩
    rw [fm_step ei, en]
    simpa using dpAll_same s4 tp
end
theorem nl_P (p : Pg) : ∃ n, Nl n (dP p) := ⟨2, fun d hd => by
  rcases List.mem_cons.mp hd with h | h
  · rw [h]
    exact fun e he => by
      obtain ⟨i, _, rfl⟩ := List.mem_map.mp he
      trivial
  · rw [List.mem_singleton.mp h]; trivial⟩
theorem nl_oP (o : Option Pg) : ∃ n, Nl n (oD dP o) := by
  cases o with
  | none => exact ⟨0, trivial⟩
  | some p => exact nl_P p
theorem in_P (p : Pg) (ps : List Pg) : ((ps.map dP).any fun z => PyData.eqv z (dP p)) = decide (p ∈ ps) := by
  induction ps with
  | nil => simp
  | cons q r ih =>
    rw [List.map_cons, List.any_cons, ih, eqv_P]
    by_cases h : q = p
    · subst h; simp
    · have : p ≠ q := fun z => h z.symm
      simp [h, this]
theorem shaped_P (p : Pg) : SeqAt.shaped (dP p) = true := shaped_pn (pn_P p) (by decide)
theorem shaped_Ps (ps : List Pg) : SeqAt.shaped (.list (ps.map dP)) = true := shaped_pnl (n := 2) (fun d hd => by obtain ⟨p, _, rfl⟩ := List.mem_map.mp hd; exact pn_P p) (by decide)
theorem nl_R (r : Pg × Pg) : ∃ n, Nl n (dR r) := ⟨3, fun d hd => by
  have two : ∀ p : Pg, Nl 2 (dP p) := fun p e he => by
    rcases List.mem_cons.mp he with h | h
    · rw [h]
      exact fun e he => by
        obtain ⟨i, _, rfl⟩ := List.mem_map.mp he
        trivial
    · rw [List.mem_singleton.mp h]; trivial
  rcases List.mem_cons.mp hd with h | h
  · rw [h]; exact two _
  · rw [List.mem_singleton.mp h]; exact two _⟩
/-! ### leaves and books in the heap -/
def gOr (a b : TG) : TG := fun v σ H Q => a v σ H Q ∨ b v σ H Q
abbrev Sk := (Int × Int × Int) × Str
def dSk (s : Sk) : PyData := .tuple [.int s.1.1, .int s.1.2.1, .int s.1.2.2, .str s.2]
def dPen (ss : List Sk) : PyData := .tuple (ss.map dSk)
def kSk (s : Sk) : List L2.Key := [.inl s.1.1, .inl s.1.2.1, .inl s.1.2.2]
def penT : List Sk → List (List L2.Key × V) := fun ss => ss.foldl (fun kvs s => putK kvs (kSk s) (.str s.2)) []
structure Lf where
  L : List Int
  fr : List Str
  bk : List Str
  pen : List Sk
def fLf (l f b p s : V) : List (Str × V) := [("label", l), ("front", f), ("back", b), ("pen", p), ("_strokes", s)]
def LfAt (C : Addr) (H : Hp) (v : V) (lf : Lf) : Prop := ∃ (x dx l f b p s : Addr), v = .ref x ∧ H x = some (.ins C dx (fLf (.ref l) (.ref f) (.ref b) (.ref p) (.ref s))) ∧ H l = some (.tup (lf.L.map V.int)) ∧
  H f = some (.tup (lf.fr.map V.str)) ∧ H b = some (.tup (lf.bk.map V.str)) ∧ Tp H (.ref p) (dPen lf.pen) ∧ H s = some (.dT (penT lf.pen))
inductive LfAll (C : Addr) (H : Hp) : List V → List Lf → Prop
  | nil : LfAll C H [] []
  | cons {v : V} {vs : List V} {l : Lf} {ls : List Lf} (h : LfAt C H v l) (r : LfAll C H vs ls) : LfAll C H (v :: vs) (l :: ls)
def fBk (l s : V) : List (Str × V) := [("leaves", l), ("_spots", s)]
/-- at each label the place of its leaf -/
def spots (ls : List Lf) : Nat → List (List L2.Key × V)
  | 0 => []
  | n + 1 => match ls[n]? with
    | some l => putK (spots ls n) (l.L.map Sum.inl) (.int (n : Nat))
    | none => spots ls n
def BkAt (C CB : Addr) (H : Hp) (v : V) (bk : List Lf) : Prop := ∃ (x dx l s : Addr) (vs : List V), v = .ref x ∧ H x = some (.ins CB dx (fBk (.ref l) (.ref s))) ∧ H l = some (.tup vs) ∧ LfAll C H vs bk ∧ H s = some (.dT (spots bk bk.length)) ∧ bk.length ≤ 60
theorem LfAt.nl {C : Addr} {H H' : Hp} {v : V} {lf : Lf} (m : NL H H') (h : LfAt C H v lf) : LfAt C H' v lf := by
  obtain ⟨x, dx, l, f, b, p, s, ev, h1, h2, h3, h4, h5, h6⟩ := h
  have k : ∀ {q : Addr} {o : HO}, H q = some o → (∀ ys, o ≠ .lst ys) → H' q = some o := fun e n => m _ _ e n
  exact ⟨x, dx, l, f, b, p, s, ev, k h1 (fun _ z => nomatch z), k h2 (fun _ z => nomatch z), k h3 (fun _ z => nomatch z), k h4 (fun _ z => nomatch z), h5.nl m, k h6 (fun _ z => nomatch z)⟩
theorem LfAll.nl {C : Addr} {H H' : Hp} (m : NL H H') : ∀ {vs : List V} {ls : List Lf}, LfAll C H vs ls → LfAll C H' vs ls
  | _, _, .nil => .nil
  | _, _, .cons h r => .cons (h.nl m) (LfAll.nl m r)
theorem LfAll.len {C : Addr} {H : Hp} : ∀ {vs : List V} {ls : List Lf}, LfAll C H vs ls → vs.length = ls.length
  | _, _, .nil => rfl
  | _, _, .cons _ r => congrArg (· + 1) (LfAll.len r)
theorem LfAll.snoc {C : Addr} {H : Hp} : ∀ {vs : List V} {ls : List Lf} {v : V} {l : Lf}, LfAll C H vs ls → LfAt C H v l → LfAll C H (vs ++ [v]) (ls ++ [l])
  | _, _, _, _, .nil, h => .cons h .nil
  | _, _, _, _, .cons k r, h => .cons k (LfAll.snoc r h)
theorem LfAll.get {C : Addr} {H : Hp} : ∀ {vs : List V} {ls : List Lf} {i : Nat} {v : V}, LfAll C H vs ls → vs[i]? = some v → ∃ l, ls[i]? = some l ∧ LfAt C H v l
  | _, _, _, _, .nil, e => nomatch e
  | _, _, 0, _, .cons h r, e => by
    injection e with e
    subst e
    exact ⟨_, rfl, h⟩
  | _, _, i + 1, _, .cons h r, e => by
    obtain ⟨d, e1, e2⟩ := LfAll.get (i := i) r e
    exact ⟨d, e1, e2⟩
theorem LfAll.get2 {C : Addr} {H : Hp} {vs : List V} {ls : List Lf} {i : Nat} {l : Lf} (h : LfAll C H vs ls) (e : ls[i]? = some l) : ∃ v, vs[i]? = some v ∧ LfAt C H v l := by
  have hi := (List.getElem?_eq_some_iff.mp e).1
  rw [← h.len] at hi
  have e1 := List.getElem?_eq_getElem hi
  obtain ⟨d', e2, e3⟩ := h.get e1
  rw [e] at e2
  injection e2 with e2
  subst e2
  exact ⟨_, e1, e3⟩
theorem BkAt.nl {C CB : Addr} {H H' : Hp} {v : V} {bk : List Lf} (m : NL H H') (h : BkAt C CB H v bk) : BkAt C CB H' v bk := by
  obtain ⟨x, dx, l, s, vs, ev, h1, h2, h3, h4, h5⟩ := h
  have k : ∀ {q : Addr} {o : HO}, H q = some o → (∀ ys, o ≠ .lst ys) → H' q = some o := fun e n => m _ _ e n
  exact ⟨x, dx, l, s, vs, ev, k h1 (fun _ z => nomatch z), k h2 (fun _ z => nomatch z), h3.nl m, k h4 (fun _ z => nomatch z), h5⟩
theorem spots_len (ls : List Lf) : ∀ n, (spots ls n).length ≤ n
  | 0 => Nat.le_refl _
  | n + 1 => by
    unfold spots
    cases ls[n]? with
    | none => exact Nat.le_succ_of_le (spots_len ls n)
    | some l => exact Nat.le_trans (length_putK _ _ _) (Nat.succ_le_succ (spots_len ls n))
theorem kL (L : List Int) : (L.map (Sum.inl : Int → L2.Key)).map kV = L.map V.int := by
  rw [List.map_map]
  rfl
theorem fLf_label {l f b p s : V} : (fLf l f b p s).lookup ("label" : Str) = some l := by
  have e : (("label" : Str) == ("label" : Str)) = true := beq_self_eq_true _
  simp only [fLf, List.lookup, e]
theorem fLf_front {l f b p s : V} : (fLf l f b p s).lookup ("front" : Str) = some f := by
  have e : (("front" : Str) == ("label" : Str)) = false := by decide +kernel
  have e2 : (("front" : Str) == ("front" : Str)) = true := beq_self_eq_true _
  simp only [fLf, List.lookup, e, e2]
theorem fLf_back {l f b p s : V} : (fLf l f b p s).lookup ("back" : Str) = some b := by
  have e : (("back" : Str) == ("label" : Str)) = false := by decide +kernel
  have e1 : (("back" : Str) == ("front" : Str)) = false := by decide +kernel
  have e2 : (("back" : Str) == ("back" : Str)) = true := beq_self_eq_true _
  simp only [fLf, List.lookup, e, e1, e2]
theorem fLf_pen {l f b p s : V} : (fLf l f b p s).lookup ("pen" : Str) = some p := by
  have e : (("pen" : Str) == ("label" : Str)) = false := by decide +kernel
  have e1 : (("pen" : Str) == ("front" : Str)) = false := by decide +kernel
  have e2 : (("pen" : Str) == ("back" : Str)) = false := by decide +kernel
  have e3 : (("pen" : Str) == ("pen" : Str)) = true := beq_self_eq_true _
  simp only [fLf, List.lookup, e, e1, e2, e3]
theorem fLf_strokes {l f b p s : V} : (fLf l f b p s).lookup ("_strokes" : Str) = some s := by
  have e : (("_strokes" : Str) == ("label" : Str)) = false := by decide +kernel
  have e1 : (("_strokes" : Str) == ("front" : Str)) = false := by decide +kernel
  have e2 : (("_strokes" : Str) == ("back" : Str)) = false := by decide +kernel
  have e3 : (("_strokes" : Str) == ("pen" : Str)) = false := by decide +kernel
  have e4 : (("_strokes" : Str) == ("_strokes" : Str)) = true := beq_self_eq_true _
  simp only [fLf, List.lookup, e, e1, e2, e3, e4]
theorem fLf_no {l f b p s : V} {m : Str} (h : ((m == ("label" : Str)) || (m == ("front" : Str)) || (m == ("back" : Str)) || (m == ("pen" : Str)) || (m == ("_strokes" : Str))) = false) : (fLf l f b p s).lookup m = none := by
  simp only [Bool.or_eq_false_iff] at h
  simp only [fLf, List.lookup, h.1.1.1.1, h.1.1.1.2, h.1.1.2, h.1.2, h.2]
theorem fBk_leaves {l s : V} : (fBk l s).lookup ("leaves" : Str) = some l := by
  have e : (("leaves" : Str) == ("leaves" : Str)) = true := beq_self_eq_true _
  simp only [fBk, List.lookup, e]
theorem fBk_spots {l s : V} : (fBk l s).lookup ("_spots" : Str) = some s := by
  have e : (("_spots" : Str) == ("leaves" : Str)) = false := by decide +kernel
  have e2 : (("_spots" : Str) == ("_spots" : Str)) = true := beq_self_eq_true _
  simp only [fBk, List.lookup, e, e2]
theorem fBk_no {l s : V} {m : Str} (h : ((m == ("leaves" : Str)) || (m == ("_spots" : Str))) = false) : (fBk l s).lookup m = none := by
  simp only [Bool.or_eq_false_iff] at h
  simp only [fBk, List.lookup, h.1, h.2]
/-- rows of words -/
def tokB (z : Str) : Bool := decide (1 ≤ z.length) && decide (z.length ≤ 20) && decide (32 ∉ z.cps.toList)
def rowB (z : Str) : Bool := decide (z.length ≤ 120) && decide ((Txt.split z " ").length ≤ 30) && (Txt.split z " ").all tokB
def rowsB (l : Nat) (zs : List Str) : Bool := decide (l ≤ zs.length) && decide (zs.length ≤ 12) && zs.all rowB
/-- the pages of a book -/
def allP (bk : List Lf) : List Pg := bk.flatMap fun l => [(l.L, 0), (l.L, 1)]
def sideP (l : Lf) : List Pg := (if l.fr = [] then [] else [(l.L, 0)]) ++ (if l.bk = [] then [] else [(l.L, 1)])
def shownP (bk : List Lf) : List Pg := bk.flatMap sideP
def dPs (ps : List Pg) : PyData := .tuple (ps.map dP)
/-- what is kept of a label, as a value -/
def KeptL (K : PySem.W.Frag) (H' : Hp) (v y : V) : Option (List Int) → Prop
  | none => y = .non
  | some L => (y = v ∧ ∃ a, v = .ref a ∧ SqT K H' a (L.map V.int)) ∨ ∃ b, y = .ref b ∧ H' b = some (.tup (L.map V.int))
theorem KeptL.dp {K : PySem.W.Frag} {H' : Hp} {v y : V} {o : Option (List Int)} (h : KeptL K H' v y o) : Dp K H' y (oD dL o) := by
  cases o with
  | none => cases h; exact .non
  | some L =>
    rcases h with ⟨rfl, a, rfl, h⟩ | ⟨b, rfl, h⟩
    · exact dpL h
    · exact dpL (.inl (.inl h))
/-- .. that was tracked -/
theorem KeptL.tup {K : PySem.W.Frag} {H H' : Hp} {a : Addr} {xs : List V} {y : V} {L : List Int} (m : NL H H') (e : H a = some (.tup xs)) (hx : xs = L.map V.int) (h : KeptL K H' (.ref a) y (some L)) : ∃ b, y = .ref b ∧ H' b = some (.tup (L.map V.int)) := by
  rcases h with ⟨rfl, _, _, _⟩ | h
  · exact ⟨a, rfl, by rw [← hx]; exact m _ _ e (fun _ z => nomatch z)⟩
  · exact h
/-- a page that is kept -/
def toI : PyData → Int
  | .int i => i
  | _ => 0
theorem kept_dL {L : List Int} (h : okL L) : keptD (dL L) = some L := by
  unfold keptD dL
  show keep ((L.map PyData.int).map toO) = some L
  rw [toO_ints h.2.2, keep_map, if_pos ⟨h.1, h.2.1⟩]
theorem kit_self {K : PySem.W.Frag} {C : Addr} : PySem.W.kitOne K (.ref C) (.ref C) = some true := if_pos (beq_self_eq_true _)
theorem NL.butI {H H' : Hp} {x C dx : Addr} (hx : H x = some (.ins C dx [])) (b : But x H H') {C' : Addr} {v : V} {lf : Lf} (h : LfAt C' H v lf) : LfAt C' H' v lf := by
  obtain ⟨y, dy, l, f, g, p, s, ev, h1, h2, h3, h4, h5, h6⟩ := h
  have k : ∀ {q : Addr} {o : HO}, H q = some o → o ≠ .ins C dx [] → H' q = some o := fun {q o} e n => b q o (fun z => n (by rw [z, hx] at e; exact (Option.some.inj e).symm)) e
  refine ⟨y, dy, l, f, g, p, s, ev, k h1 (by intro z; injection z with z1 z2 z3; cases z3), k h2 (fun z => nomatch z), k h3 (fun z => nomatch z), k h4 (fun z => nomatch z), ?_, k h6 (fun z => nomatch z)⟩
  have tp : ∀ {H1 : Hp}, (∀ q xs, H q = some (.tup xs) → H1 q = some (.tup xs)) → ∀ (ss : List Sk) {us : List V}, TpAll H us (ss.map dSk) → TpAll H1 us (ss.map dSk) := fun {H1} m ss => by
    induction ss with
    | nil => intro us t; cases t; exact .nil
    | cons q r ih =>
      intro us t
      cases t with
      | cons h0 t =>
        refine .cons ?_ (ih t)
        cases h0 with
        | tup e r4 =>
          refine .tup (m _ _ e) ?_
          cases r4 with
          | cons a1 r3 =>
            cases r3 with
            | cons a2 r2 =>
              cases r2 with
              | cons a3 r1 =>
                cases r1 with
                | cons a4 r0 =>
                  cases a1; cases a2; cases a3; cases a4; cases r0
                  exact .cons (.int _) (.cons (.int _) (.cons (.int _) (.cons (.str _) .nil)))
  cases h5 with
  | tup e r => exact .tup (k e (fun z => nomatch z)) (tp (fun q xs e => k e (fun z => nomatch z)) lf.pen r)
theorem LfAll.butI {H H' : Hp} {x C dx C' : Addr} (hx : H x = some (.ins C dx [])) (b : But x H H') : ∀ {vs : List V} {ls : List Lf}, LfAll C' H vs ls → LfAll C' H' vs ls
  | _, _, .nil => .nil
  | _, _, .cons h r => .cons (NL.butI hx b h) (LfAll.butI hx b r)
theorem allP_len : ∀ bk : List Lf, (allP bk).length = 2 * bk.length
  | [] => rfl
  | l :: r => by
    show ([(l.L, (0 : Int)), (l.L, 1)] ++ allP r).length = 2 * (r.length + 1)
    rw [List.length_append, allP_len r]
    show 2 + _ = _
    omega
def sideF (l : Lf) (s : Int) : Option Pg := if (if s = 1 then l.bk else l.fr) = [] then none else some (l.L, s)
theorem sideP_eq (l : Lf) : sideP l = [0, 1].filterMap (sideF l) := by
  unfold sideP sideF
  cases h1 : l.fr <;> cases h2 : l.bk <;> simp [h1, h2]
theorem shownP_snoc (bk : List Lf) (l : Lf) : shownP (bk ++ [l]) = shownP bk ++ sideP l := by
  unfold shownP
  rw [List.flatMap_append]
  simp
theorem shownP_len : ∀ bk : List Lf, (shownP bk).length ≤ 2 * bk.length
  | [] => Nat.le_refl _
  | l :: r => by
    show (sideP l ++ shownP r).length ≤ 2 * (r.length + 1)
    have := shownP_len r
    have h : (sideP l).length ≤ 2 := by
      rw [sideP_eq]
      exact List.length_filterMap_le ..
    rw [List.length_append]
    omega
theorem tru_tup {K : PySem.W.Frag} {H : Hp} {a : Addr} {xs : List V} (h : SqT K H a xs) : TruV K (.ref a) H (!xs.isEmpty) := .inr (.inl ⟨xs, h, rfl⟩)
theorem tru_lst {K : PySem.W.Frag} {H : Hp} {a : Addr} {xs : List V} (h : SqL K H a xs) : TruV K (.ref a) H (!xs.isEmpty) := .inl ⟨xs, h, rfl⟩
theorem sideF_none {l : Lf} {s : Int} (h : sideF l s = none) : (if s = 1 then l.bk else l.fr) = [] := by
  unfold sideF at h
  generalize (if s = 1 then l.bk else l.fr) = rs at h
  cases rs with
  | nil => rfl
  | cons u w => rw [if_neg (by simp)] at h; cases h
theorem sideF_some {l : Lf} {s : Int} {p : Pg} (h : sideF l s = some p) : (if s = 1 then l.bk else l.fr) ≠ [] ∧ p = (l.L, s) := by
  unfold sideF at h
  generalize (if s = 1 then l.bk else l.fr) = rs at h
  cases rs with
  | nil => rw [if_pos rfl] at h; cases h
  | cons u w => rw [if_neg (by simp)] at h; injection h with h; exact ⟨by simp, h.symm⟩
/-! ### a dict comprehension whose keys are tuples of ints and texts -/
section
variable {X : Cx} {D b : Addr} {kvs : List (List L2.Key × V)} {k : List L2.Key}
theorem put_tupkey {pins : List (Addr × Obj)} {σ : L2.St} {H : Hp} {s : Shared} {EE : Value → Shared → Prop} {v : V} {r : Value} {QQ : Unit → Shared → Prop} (hu : X.A.units + 1 < cLine) (I : Inv X pins σ H s) (hD : H D = some (.dT kvs)) (hb : H b = some (.tup (k.map kV)))
    (small : kvs.length < sizeLine) (rv : RelV v r) (go : ∀ s', Inv X pins σ (upd H D (.dT (putK kvs k v))) s' → QQ () s') : wpAny (model X.prog X.w) X.A (dictSet D (.ref b) r) QQ EE s := by
  obtain ⟨le, nsys, xs, rel, dd⟩ := dt_of I.hok hD
  have le2 : (putK kvs k v).length ≤ sizeLine := Nat.le_trans (length_putK kvs k v) small
  refine wpAny_dictSet_heap (knd := tupleKind (mixKind X.prog X.w)) (hsz := by rw [← Paired.length rel]; exact le) (show X.A.units < cLine by omega) (key_of I.hok hb) dd fun h' new only => go _ ?_
  obtain ⟨o, es, ep, at_, x1, x2, x3, _, x5⟩ := new
  refine d_write I (by rw [hD]; exact True.intro) only ⟨o, at_⟩ ⟨le2, nsys, _, (rel.put k hb rv).keeps fun c ys ec => ?_, o, es, ep, at_, x1, x2, x3, x5⟩
  exact (upd_ne (ne_of ec hD (by intro z; cases z))).trans ec
/-- {k: v for target in iter}: D the new dict -/
def tDcT (wi : TI) (g : TG) (tk tv : TE) (vs : List Nat) : TE := fun σ H Q => wi σ H fun J H1 => ∀ D, H1 D = Option.none → ∃ W : Nat → Nat → Hp → Prop, (∃ m, W 0 m (upd H1 D (.dT []))) ∧ ∀ i m H, W i m H →
  (J.stop i H ∧ Q (.ref D) H) ∨ (J.go i H ∧ ∃ Nx : Hp → Prop, (∀ H', Nx H' → ∃ m', m' < m ∧ W (i + 1) m' H') ∧ ∀ x H', J.yld i H x H' → g x (wipe σ vs) H' fun σ2 H2 => wipe σ2 vs = wipe σ vs ∧
    tk σ2 H2 fun y H4 => tv σ2 H4 fun z H5 => ∃ b kvs k, y = .ref b ∧ H5 D = some (.dT kvs) ∧ H5 b = some (.tup (k.map kV)) ∧ kvs.length < sizeLine ∧ Nx (upd H5 D (.dT (putK kvs k z))))
theorem pe_dcT {kx vx tg iter : Expr} {scope : Scope} {own : List (Str × Nat)} {pos : Pos} {wi : TI} {g : TG} {tk tv : TE} (hu : X.A.units + 1 < cLine) (hc : X.calm = true) (hN : X.N.Nodup) (hi : PI X tg iter wi) (ok : BlkOk X.N X.env.scope scope own)
    (hg : ∀ (s : Shared) (H : Hp) (C : Addr) (cl : List (Str × Addr)) (fp : List Addr), PG (X.blk s H scope (compEnvC scope cl C X.env) fp) tg g)
    (hk : ∀ (s : Shared) (H : Hp) (C : Addr) (cl : List (Str × Addr)) (fp : List Addr), PE (X.blk s H scope (compEnvC scope cl C X.env) fp) kx tk)
    (hv : ∀ (s : Shared) (H : Hp) (C : Addr) (cl : List (Str × Addr)) (fp : List Addr), PE (X.blk s H scope (compEnvC scope cl C X.env) fp) vx tv) (hs : ∀ x, foldedSetIterable iter X.env x = pure x := by intro _; rfl) :
    PE X (.DictComp kx vx [⟨tg, iter, [], 0⟩] scope pos) (tDcT wi g tk tv (own.map (·.2))) := by
  constructor
  intro pins s σ H Q I h
  rw [arm_eval_DictComp]
  have hfree : ∀ y ∈ scope.names, y.2 = .free → ∃ c, X.env.cells.lookup y.1 = some c := fun y hy e => (ok.free y hy e).elim (fun k => I.ok.has _ (.inl k)) (fun k => I.ok.has _ (.inr k))
  refine comprehension_at (use := Option.none) rfl hs (closure_ok hfree) ok.kind (fun y hy e => by rw [ok.uniq y hy, e]) (thn (hi.run pins s σ H _ I h) fun xv s1 hx => thn hx fun itv s2 h2 => ?_)
  obtain ⟨it, fp, tn, J, H2, rfl, I2, T, st2, f2, q⟩ := h2
  refine wpAny_newObj_type (newEnv_comp ?_)
  obtain ⟨D, hD⟩ : ∃ D, s2.heap.objs.size = D := ⟨_, rfl⟩
  obtain ⟨W, ⟨m0, w0⟩, turn⟩ := q D (I2.hok.fresh (Nat.le_of_eq hD))
  rw [hD]
  obtain ⟨s3, hs3⟩ : ∃ s3 : Shared, s3 = { s2 with heap := s2.heap.push { cls := .type "dict", data := .dict #[] } } := ⟨_, rfl⟩
  have h3 : s3.heap = s2.heap.push { cls := .type "dict", data := .dict #[] } := by rw [hs3]
  have I3 : Inv X pins σ (upd H2 D (.dT [])) s3 := by
    rw [hs3]
    refine I2.laid (t' := s2.toks) (fun b o e => Heap.get?_push_of_some _ e) (Nat.le_of_eq hD) ?_
    rw [← hD]
    exact dt_empty s2.heap I2.big
  have f3 : ∀ b ∈ fp, FpOk X pins (upd H2 D (.dT [])) b ∧ b < s3.heap.objs.size := fun b hb => by
    obtain ⟨o, e, _⟩ := T.obj _ _ st2 b hb
    have hlt := Heap.lt_size e
    refine ⟨⟨?_, (f2 b hb).2⟩, by rw [h3, Heap.size_push]; exact Nat.lt_succ_of_lt hlt⟩
    rw [upd_ne (by rw [← hD]; exact Nat.ne_of_lt hlt)]
    exact (f2 b hb).1
  have hch : ∀ b ∈ fp, (b ∈ X.ex ∨ X.s_0.heap.objs.size ≤ b) ∧ b ≠ X.env.locals ∧ (∀ x c, X.env.cells.lookup x = some c → c ≠ b) ∧ ∀ p ∈ X.pn ++ pins, p.1 ≠ b := fun b hb => ⟨(f3 b hb).1.2.2.2.1, (f3 b hb).1.2.1, (f3 b hb).1.2.2.2.2.1, (f3 b hb).1.2.2.2.2.2⟩
  have I4 := block_start I3 ok hN f3
  rw [← hs3]
  show codeAny _ _ (.compStart (.DictComp kx vx [⟨tg, iter, [], 0⟩] scope pos) 0 (.ref it) (.ref D) (compEnvC scope (cellsFrom (s3.heap.objs.size + 1) scope.names (cloFrom X.env.cells scope.names [])) s3.heap.objs.size X.env)) (compEnds (model X.prog X.w) X.A X.xe Option.none (EP X pins σ Q) (.ref D) (compEnvC scope (cellsFrom (s3.heap.objs.size + 1) scope.names (cloFrom X.env.cells scope.names [])) s3.heap.objs.size X.env)) { s3 with heap := pushCells (s3.heap.push { cls := .type "dict", data := .dict #[] }) scope.names }
  have pg := hg s3 (upd H2 D (.dT [])) s3.heap.objs.size (cellsFrom (s3.heap.objs.size + 1) scope.names (cloFrom X.env.cells scope.names [])) fp
  have pk := hk s3 (upd H2 D (.dT [])) s3.heap.objs.size (cellsFrom (s3.heap.objs.size + 1) scope.names (cloFrom X.env.cells scope.names [])) fp
  have pv := hv s3 (upd H2 D (.dT [])) s3.heap.objs.size (cellsFrom (s3.heap.objs.size + 1) scope.names (cloFrom X.env.cells scope.names [])) fp
  obtain ⟨ce, hce⟩ : ∃ ce, ce = compEnvC scope (cellsFrom (s3.heap.objs.size + 1) scope.names (cloFrom X.env.cells scope.names [])) s3.heap.objs.size X.env := ⟨_, rfl⟩
  have cL : ce.locals = s3.heap.objs.size := by rw [hce]; rfl
  rw [← hce] at I4 pg pk pv ⊢
  have nfp : ∀ b ∈ fp, (upd H2 D (.dT [])) b = Option.none := fun b hb => (f3 b hb).1.1
  have st4 : tn 0 (pushCells (s3.heap.push { cls := .type "dict", data := .dict #[] }) scope.names) := T.keep _ _ _ st2 fun b _ o e => pushCells_keeps _ _ _ _ (Heap.get?_push_of_some _ (by rw [h3]; exact Heap.get?_push_of_some _ e))
  generalize upd H2 D (.dT []) = H3 at I3 I4 pg pk pv w0 nfp f3
  have stat : ∀ {σ' : L2.St} {H' : Hp} {s' : Shared}, Inv (X.blk s3 H3 scope ce fp) [] σ' H' s' → (∀ b ∈ fp, H' b = Option.none) → ∀ b ∈ fp, FpOk (X.blk s3 H3 scope ce fp) [] H' b := fun {σ' H' s'} I' hn b hb =>
    ⟨hn b hb, (I'.ok.exf b hb).1, I'.ok.exfs b hb, .inl hb, fun x c e => (I'.ok.exf b hb).2 x c e, fun p hp => absurd (show p ∈ ([] : List (Addr × Obj)) ++ [] from hp) (by simp)⟩
  have loop : ∀ s4 : Shared, Inv (X.blk s3 H3 scope ce fp) [] (wipe σ (own.map (·.2))) H3 s4 → tn 0 s4.heap → codeAny (model X.prog X.w) X.A (.compLoop (.DictComp kx vx [⟨tg, iter, [], 0⟩] scope pos) 0 (.ref it) (.ref D) ce) (compEnds (model X.prog X.w) X.A X.xe Option.none (EP X pins σ Q) (.ref D) ce) s4 := by
    intro s4 I4 st4
    refine compLoop_anyD (fun n s' => ∃ i H', Inv (X.blk s3 H3 scope ce fp) [] (wipe σ (own.map (·.2))) H' s' ∧ tn i s'.heap ∧ (∀ b ∈ fp, H' b = Option.none) ∧ W i n H') ?_ m0 ⟨0, H3, I4, st4, nfp, w0⟩
    rintro n s5 ⟨i, H5, I5, st5, n5, w5⟩
    rcases turn i n H5 w5 with ⟨stop, qq⟩ | ⟨go, Nx, hNx, step⟩
    · refine thnF (T.done (X.blk s3 H3 scope ce fp) rfl rfl rfl hc i [] s5 _ H5 (fun _ _ => False) I5 (stat I5 n5) st5 stop) fun r s6 ⟨hr, I6⟩ => ?_
      subst hr
      have I7 : Inv X pins σ H5 s6 := I3.call' (ch := fp) I6.os I6.base I6.hok I6.bare hch
      have nC : H5 ce.locals = Option.none := I6.free
      obtain ⟨m, hn, _⟩ := I6.loc
      have f : FpOk X pins H5 ce.locals := by rw [cL] at nC ⊢; exact I3.fpOk (Nat.le_refl _) nC
      refine ⟨m, hn, fun h'' sb => ?_⟩
      obtain ⟨f0, f1, f2, f3, f4, f5⟩ := f
      exact ⟨.ref D, H5, I7.turned (t' := s6.toks) (fun b o hb e => (sb.2 b hb).trans e) f0 f1 f3 f4 f5, rfl, qq⟩
    · refine thnF (T.item (X.blk s3 H3 scope ce fp) rfl rfl rfl hc i [] s5 _ H5 (fun _ _ => False) I5 (stat I5 n5) st5 go) fun r s6 ⟨u, hr, h6⟩ => ?_
      subst hr
      refine thnF h6 fun _ s7 ⟨x, H7, I7, r7, y7, st7, n7⟩ => ?_
      refine thnF (pg.run _ s7 _ H7 x u _ (I7.pinned (stat I7 n7) (T.obj _ _ st7)) r7 (step x H7 y7)) fun _ s8 ⟨σ8, H8, I8, hw8, q8⟩ => ?_
      refine wpAny_tests_nil ?_
      have fin : ∀ {s' : Shared} {H' : Hp}, Inv (X.blk s3 H3 scope ce fp) ([] ++ pinsAt fp s7.heap) σ8 H' s' → Nx H' → ∃ m, m < n ∧ ∃ i H', Inv (X.blk s3 H3 scope ce fp) [] (wipe σ (own.map (·.2))) H' s' ∧ tn i s'.heap ∧ (∀ b ∈ fp, H' b = Option.none) ∧ W i m H' := fun {s' H'} I' nx => by
        obtain ⟨m', hm, w'⟩ := hNx H' nx
        have pin' : ∀ b ∈ fp, ∀ o, s7.heap.get? b = some o → s'.heap.get? b = some o ∧ H' b = Option.none := fun b hb o e =>
          let z := I'.pin (b, o) (List.mem_append_right _ (List.mem_append_right _ (mem_pinsAt hb e)))
          ⟨z.1, z.2.1⟩
        refine ⟨m', hm, i + 1, H', (I'.unpinned (pins := [])).weak (by rw [← hw8, wipe_length]) (fun j v e => ?_), T.keep _ _ _ st7 fun b hb o e => (pin' b hb o e).1, fun b hb => ?_, w'⟩
        · rw [← hw8] at e
          exact (wipe_some e).1
        · obtain ⟨o, e, _⟩ := T.obj _ _ st7 b hb
          exact (pin' b hb o e).2
      rw [if_pos rfl]
      refine thnF (pk.run _ s8 σ8 H8 _ I8 q8) fun z s10 ⟨yk, H10, I10, r10, q10⟩ => ?_
      refine thnF (pv.run _ s10 σ8 H10 _ I10 q10) fun z2 s11 ⟨yv, H11, I11, r11, b, kvs, k, ek, hD11, hb11, hz11, nx⟩ => ?_
      subst ek
      cases r10
      exact put_tupkey (X := X.blk s3 H3 scope ce fp) hu I11 hD11 hb11 hz11 r11 fun s12 I12 => fin I12 nx
  exact codeAny_compStart_dict (loop _ I4 st4) (T.self X.A 0 _ _ _ st4 (loop _ I4 st4))
end
/-! ### enumerate(t), t a tuple -/
section
variable {prog : Program} {w : World} {A : Around} {EE : Value → Shared → Prop} {s : Shared}
theorem meets_enum1 {v : Value} {o : Obj} {HH : Heap → Prop} (B : Begins v o HH) :
    Meets (Builtin.«enumerate.__new__» ⟨[.type "enumerate", v], []⟩) (fun _ R s => HH s.heap ∧
      R (.ok (.ret (.ref (s.heap.push o).objs.size))) { s with heap := (s.heap.push o).push { cls := .type "enumerate", data := .fields #[.none, .bool false, .ref s.heap.objs.size, rawInt 0, .none, .none] } }) :=
  .of_wp fun prog w A R s h => by
    obtain ⟨hp, g, d, tk, os⟩ := s
    obtain ⟨h1, h⟩ := h
    have hsub := sub_enumerate
    have begins : ∀ {A' : Around} {E : Value → Shared → Prop} {Q : Value → Shared → Prop}, Q (.ref hp.objs.size) ⟨hp.push o, g, d, tk, os⟩ → wpAny (model prog w) A' (pyIter v) Q E ⟨hp, g, d, tk, os⟩ := fun q => B.iter prog w _ _ ⟨hp, g, d, tk, os⟩ _ h1 q
    wp_walk using begins
    refine wpAny_stack_any fun st => wpAny_pure ?_
    split
    · rename_i c _ _ _ _ _
      cases (c == Value.type "enumerate") <;> (wp_walk using begins; exact ⟨_, rfl, h⟩)
    · wp_walk using begins
      exact ⟨_, rfl, h⟩
theorem call_enum1 {v : Value} {o : Obj} {HH : Heap → Prop} {QQ : Value → Shared → Prop} (B : Begins v o HH) (h1 : HH s.heap)
    (h : ∀ h', IsEnum h' (s.heap.objs.size + 1) s.heap.objs.size 0 .none → h'.get? s.heap.objs.size = some o → (∀ b u, s.heap.get? b = some u → h'.get? b = some u) → QQ (.ref (s.heap.objs.size + 1)) { s with heap := h' }) :
    wpAny (model prog w) A (call (.type "enumerate") [v]) QQ EE s := by
  refine callType_new F.called_enumerate (by decide) (F.typeCall_enumerate_1 _) (F.newCall_enumerate_1 _) (fun obj => F.args_object_init_2 obj _) F.entry_enumerate_new (meets_enum1 B) ⟨h1, ?_⟩
  have hz : (s.heap.push o).objs.size = s.heap.objs.size + 1 := Heap.size_push ..
  show _ ∧ _
  rw [hz]
  have at_ := Heap.get?_push_size (s.heap.push o) (o := { cls := .type "enumerate", data := .fields #[.none, .bool false, .ref s.heap.objs.size, rawInt 0, .none, .none] }) rfl
  rw [hz] at at_
  exact ⟨⟨_, at_, rfl⟩, h _ at_ (Heap.get?_push_of_some _ (Heap.get?_push_size _ B.free)) fun b u x => Heap.get?_push_of_some _ (Heap.get?_push_of_some _ x)⟩
end
def IteT (K : PySem.W.Frag) (a : Addr) : It :=
  ⟨fun i H => ∃ (xs : List V) (x : V), SqT K H a xs ∧ xs[i]? = some x, fun i H v H' => ∃ T x, v = .ref T ∧ H T = Option.none ∧ H' = upd H T (.tup [.int (i : Nat), x]) ∧ ∀ xs, SqT K H a xs → xs[i]? = some x, fun i H => ∃ xs : List V, SqT K H a xs ∧ xs.length = i⟩
theorem turn_enumT {P : Program} {w : World} {K : PySem.W.Frag} {elts : List Expr} {kk : Nat} {tpos : Pos} (a e it : Addr) :
    Turn P w K (.Tuple elts kk tpos) (IteT K a) [e, it] e (fun i h => (∃ old, IsEnum h e it ((i : Nat) : Int) old) ∧ h.IsTupleIter it a i ∧ e ≠ it) where
  mem := by simp
  obj := fun i h st b hb => by
    obtain ⟨⟨old, he⟩, ⟨o, ho, hc, hd⟩, _⟩ := st
    rcases List.mem_cons.mp hb with z | z
    · rw [z]; exact ⟨_, he, fun v q => nomatch q⟩
    · rw [List.mem_singleton.mp z]; exact ⟨o, ho, fun v q => by rw [hd] at q; cases q⟩
  keep := fun i h h' st k => let ⟨⟨old, he⟩, hi, hne⟩ := st; ⟨⟨old, k e (by simp) _ he⟩, hi.at fun o q => k it (by simp) o q, hne⟩
  item := by
    intro X hP hw hK hc i pins s σ H E I hf st hg
    subst hP hw hK
    obtain ⟨⟨old, he⟩, hit, hne⟩ := st
    obtain ⟨xs, x, hq, hx⟩ := hg
    obtain ⟨its, rv, p, hz⟩ := I.tuple hq
    obtain ⟨u, hu, ru⟩ := rv.get hx
    have tup : s.heap.IsTuple a its.toArray := p
    obtain ⟨oa, hoa, hca, na, hda⟩ := id tup
    obtain ⟨oi, hoi, hci, hdi⟩ := id hit
    have ea : a ≠ e := fun z => by rw [z, he] at hoa; cases hoa; exact absurd hca (show ¬ (Value.type "enumerate" = Value.type "tuple") by decide)
    have ia : a ≠ it := fun z => by
      rw [z, hoi] at hoa; cases hoa
      rw [hci] at hca; exact absurd hca (by decide)
    have hel : e < s.heap.objs.size := Heap.lt_size he
    have hil : it < s.heap.objs.size := Heap.lt_size hoi
    have hlt : i < its.toArray.size := by
      rw [List.size_toArray, ← rv.length]
      exact (List.getElem?_eq_some_iff.mp hx).1
    refine wpAny_pyNext_enum_itemC (Draws.tuple (A := X.A.in1) (show X.A.in1.handled = none from I.ok.hd hc) it a ia its.toArray) he ⟨hit, tup⟩ hlt hne (by simp [hne, Ne.symm ea]) fun u2 h' tk hP2 ho st' hT hsz hk => ?_
    have eu : u2 = u := by
      have z : its.toArray[i]? = some u2 := hP2
      rw [List.getElem?_toArray, hu] at z
      exact (Option.some.inj z).symm
    subst eu
    refine ⟨_, rfl, wpAny_letOwnedTupleGo_enum (s := { s with heap := h', toks := tk + 1 }) ho fun h'' he' sb => ?_⟩
    have hT2 : h''.get? s.heap.objs.size = some { cls := .type "tuple", data := .seq #[.int i tk, u2] } := (sb.2 _ (Nat.ne_of_gt hel)).trans hT
    have new : ObjOk X.prog X.w (upd H s.heap.objs.size (.tup [.int (i : Nat), x])) h'' s.heap.objs.size (.tup [.int (i : Nat), x]) :=
      ⟨by show 2 ≤ sizeLine; decide, [.int i tk, u2], .cons ⟨_, rfl⟩ (.cons ru .nil), ⟨_, hT2, rfl, _, rfl⟩⟩
    have I1 : Inv X pins σ (upd H s.heap.objs.size (.tup [.int (i : Nat), x])) { s with heap := h'', toks := tk + 1 } :=
      I.turnedNew (ch := [e, it]) (fun b ob hb q => (sb.2 b (fun z => hb (by simp [z]))).trans (hk b ob (fun z => hb (by simp [z])) (fun z => hb (by simp [z])) q)) hf (Nat.le_refl _) new
    refine ⟨.ref s.heap.objs.size, _, I1, rfl, ⟨_, x, rfl, I.hok.fresh (Nat.le_refl _), rfl, fun ys hy => by rw [I.tuple_inj hy hq]; exact hx⟩, ⟨⟨u2, ?_⟩, st'.1.at fun o q => (sb.2 it (Ne.symm hne)).trans q, hne⟩, fun b hb => ?_⟩
    · have e1 : ((i + 1 : Nat) : Int) = (i : Int) + 1 := by omega
      rw [e1]; exact he'
    · have hb' : b < s.heap.objs.size := by
        rcases List.mem_cons.mp hb with z | z
        · rw [z]; exact hel
        · rw [List.mem_singleton.mp z]; exact hil
      rw [upd_ne (Nat.ne_of_lt hb')]
      exact (hf b hb).1
  done := by
    intro X hP hw hK hc i pins s σ H E I hf st hg
    subst hP hw hK
    obtain ⟨⟨old, he⟩, hit, hne⟩ := st
    obtain ⟨xs, hq, hx⟩ := hg
    obtain ⟨its, rv, p, hz⟩ := I.tuple hq
    obtain ⟨f0, f1, f2, f3, f4, f5⟩ := hf it (by simp)
    have tup : s.heap.IsTuple a its.toArray := p
    obtain ⟨oa, hoa, hca, na, hda⟩ := id tup
    obtain ⟨oi, hoi, hci, hdi⟩ := id hit
    have ia : a ≠ it := fun z => by
      rw [z, hoi] at hoa; cases hoa
      rw [hci] at hca; exact absurd hca (by decide)
    have ez : its.toArray.size = i := by rw [List.size_toArray, ← rv.length]; exact hx
    refine wpAny_pyNext_enum_endD (Draws.tuple (A := X.A.in1) (show X.A.in1.handled = none from I.ok.hd hc) it a ia its.toArray) he (by rw [ez]; exact ⟨hit, tup⟩) fun h' eb => ⟨rfl, I.turned (t' := s.toks) (fun b o hb q => eb b o hb q) f0 f1 f3 f4 f5⟩
  self := fun A i s Q E st h => let ⟨⟨_, he⟩, _⟩ := st; wpAny_pyIter_enum he h
def iEnumT (K : PySem.W.Frag) (ta : TA) : TI := fun σ H R => ta σ H fun vs H1 => ∃ a xs, vs = [.ref a] ∧ SqT K H1 a xs ∧ R (IteT K a) H1
theorem pi_enumT {X : Cx} {e : Expr} {ta : TA} {p pos tpos : Pos} {elts : List Expr} {kk : Nat} (hg : Gl X "enumerate") (hm : X.mg "enumerate" = Option.none) (ha : PA X [e] ta) (hs : starEach [e] X.env = [(false, eval e X.env)] := by rfl) :
    PI X (.Tuple elts kk tpos) (.Call (.Name "enumerate" p) [e] [] pos) (iEnumT X.K ta) := by
  constructor
  intro pins s σ H R I h
  refine Call_ (ld_blt I hg hm boot_enumerate (PyProof.Rows.callWith_type1 (thn (ha.run pos pins s σ H _ I h) fun us s1 ⟨vs, H1, I1, r1, a, xs, ex, hq, q⟩ => ?_) hs rfl))
  subst ex
  obtain ⟨u, rfl, ru⟩ := vals1 r1
  cases ru
  obtain ⟨its, rv, p', hz⟩ := I1.tuple hq
  refine call_enum1 (begins_tuple a its.toArray) (show s1.heap.IsTuple a its.toArray from p') fun h' he hit hk => wpAny_pyIter_enum he ?_
  have I2 : Inv X pins σ H1 { s1 with heap := h' } := I1.kept (t' := s1.toks) hk
  refine ⟨s1.heap.objs.size + 1, [s1.heap.objs.size + 1, s1.heap.objs.size], _, _, H1, rfl, I2, turn_enumT a (s1.heap.objs.size + 1) s1.heap.objs.size, ⟨⟨.none, he⟩, ⟨_, hit, rfl, rfl⟩, Nat.succ_ne_self _⟩, fun b hb => ?_, q⟩
  have hle : s1.heap.objs.size ≤ b := by
    rcases List.mem_cons.mp hb with z | z
    · rw [z]; exact Nat.le_add_right _ _
    · rw [List.mem_singleton.mp z]; exact Nat.le_refl _
  exact I1.fpOk hle (I1.hok.fresh hle)
theorem walk_enumT {K : PySem.W.Frag} {a : Addr} {xs : List V} : Walk (IteT K a) xs.length (fun H => SqT K H a xs) (YPair (fun i => some (.int (i : Nat))) (fun i => xs[i]?)) := by
  refine ⟨fun i _ hi q => ⟨xs, xs[i], q, by simp [hi]⟩, fun _ q => ⟨xs, q, rfl⟩, fun i H v H' _ q y => ?_⟩
  obtain ⟨T, x, h1, h2, h3, h4⟩ := y
  exact ⟨T, .int (i : Nat), x, h1, h2, h3, rfl, h4 xs q⟩
/-- a dict comprehension over a walk -/
theorem dc_it {J : It} {n : Nat} {G : Hp → Prop} {Y : Nat → Hp → V → Hp → Prop} (w : Walk J n G Y) {g : TG} {tk tv : TE} {vs : List Nat} {σ : L2.St} {H1 : Hp} {D : Addr} {Qd : Hp → Prop} (Pv : Nat → Hp → Prop) (h0 : Pv 0 (upd H1 D (.dT []))) (hG : ∀ i H, i ≤ n → Pv i H → G H)
    (hs : ∀ i x H H', i < n → Pv i H → Y i H x H' → g x (wipe σ vs) H' fun σ2 H2 => wipe σ2 vs = wipe σ vs ∧ tk σ2 H2 fun y H4 => tv σ2 H4 fun z H5 => ∃ b kvs k, y = .ref b ∧ H5 D = some (.dT kvs) ∧ H5 b = some (.tup (k.map kV)) ∧ kvs.length < sizeLine ∧ Pv (i + 1) (upd H5 D (.dT (putK kvs k z)))) (hd : ∀ H, Pv n H → Qd H) :
    ∃ W : Nat → Nat → Hp → Prop, (∃ m, W 0 m (upd H1 D (.dT []))) ∧ ∀ i m H, W i m H →
      (J.stop i H ∧ Qd H) ∨ (J.go i H ∧ ∃ Nx : Hp → Prop, (∀ H', Nx H' → ∃ m', m' < m ∧ W (i + 1) m' H') ∧ ∀ x H', J.yld i H x H' → g x (wipe σ vs) H' fun σ2 H2 => wipe σ2 vs = wipe σ vs ∧
        tk σ2 H2 fun y H4 => tv σ2 H4 fun z H5 => ∃ b kvs k, y = .ref b ∧ H5 D = some (.dT kvs) ∧ H5 b = some (.tup (k.map kV)) ∧ kvs.length < sizeLine ∧ Nx (upd H5 D (.dT (putK kvs k z)))) := by
  refine ⟨fun i m H => m = n - i ∧ i ≤ n ∧ Pv i H, ⟨n, by simp, Nat.zero_le _, h0⟩, ?_⟩
  rintro i m H ⟨rfl, hi, p⟩
  have q := hG i H hi p
  by_cases hlt : i < n
  · exact .inr ⟨w.goes i H hlt q, Pv (i + 1), fun H' p' => ⟨n - (i + 1), by omega, rfl, hlt, p'⟩, fun x H' y => hs i x H H' hlt p (w.yields i H x H' hlt q y)⟩
  · have e : i = n := by omega
    subst e
    exact .inl ⟨w.stops H q, hd H p⟩
section
variable {K : PySem.W.Frag} {f : Addr} {fd : FuncData} {e : Addr}
abbrev LeafD (K : PySem.W.Frag) (e f : Addr) (fd : FuncData) : Prop := FunD K "__init__" "Leaf.__init__" (defArgs s_Leaf_init) (defBody s_Leaf_init) (defScope s_Leaf_init) [V.ref e] [] f fd
theorem leaf_b5 (F : LeafD K e f fd) : Binds K fd ["self", "label", "front", "back", "pen"] [] := by
  obtain ⟨ds, h1, h2⟩ := F.binds1 (ps := ["self", "label", "front", "back", "pen"]) 5 1 (by simp) rfl fun T kV doc pm an cdv ct us its hu hi => match us, its, hu, hi with
    | [_, _, _, _, _], [_], _, _ => ⟨_, rfl, rfl⟩
  cases h1
  exact h2
theorem leaf_b4 (F : LeafD K e f fd) : ∃ ds, Vals [V.ref e] ds ∧ Binds K fd ["self", "label", "front", "back", "pen"] ds :=
  F.binds1 (ps := ["self", "label", "front", "back", "pen"]) 4 0 (by simp) rfl fun T kV doc pm an cdv ct us its hu hi => match us, its, hu, hi with
    | [_, _, _, _], [_], _, _ => ⟨_, rfl, rfl⟩
theorem written_nil {ed : Option Addr} {en : Nat} {es : Array (Option Value)} {H : Hp} (h : K.lookup e = some ⟨.type "tuple", ed, .seq #[] en, es⟩) : SqT K H e [] :=
  .inr ⟨_, #[], _, h, rfl, rfl, Nat.zero_le _, .nil⟩
end
/-! ### what is told -/
def isR (bk : List Lf) (r : Pg × Pg) : Bool := decide (r.1 ∈ allP bk) && (decide (r.2 ∈ allP bk) && leP r.1 r.2)
def isG (bk : List Lf) (r : Pg × Pg) : Bool := decide (r.1 ∈ allP bk) && decide (r.2 ∈ allP bk)
def inR (p : Pg) (r : Pg × Pg) : Bool := leP r.1 p && leP p r.2
def toldP (bk : List Lf) (ps : List (Pg × Pg)) : List Pg := (shownP bk).filter fun p => (ps.filter (isR bk)).any (inR p)
def dueP (bk : List Lf) (ps : List (Pg × Pg)) : List Pg := (shownP bk).filter fun p => (ps.filter (isG bk)).any (inR p)
theorem told_due (bk : List Lf) (ps : List (Pg × Pg)) : toldP bk ps = dueP bk ps := by
  unfold toldP dueP
  refine List.filter_congr fun p _ => ?_
  rw [Bool.eq_iff_iff, List.any_eq_true, List.any_eq_true]
  constructor
  · rintro ⟨r, hr, h⟩
    obtain ⟨h1, h2⟩ := List.mem_filter.mp hr
    refine ⟨r, List.mem_filter.mpr ⟨h1, ?_⟩, h⟩
    unfold isR at h2
    unfold isG
    simp only [Bool.and_eq_true] at h2 ⊢
    exact ⟨h2.1, h2.2.1⟩
  · rintro ⟨r, hr, h⟩
    obtain ⟨h1, h2⟩ := List.mem_filter.mp hr
    refine ⟨r, List.mem_filter.mpr ⟨h1, ?_⟩, h⟩
    unfold isG at h2
    unfold isR
    unfold inR at h
    simp only [Bool.and_eq_true] at h2 h ⊢
    exact ⟨h2.1, h2.2, leP_trans h.1 h.2⟩
/-- a page as it is kept -/
def keptPD (d : PyData) : Option Pg := match items d with
  | some [x, y] => if wI 0 1 y = true then (match keptD x with | some L => some (L, toI y) | none => none) else none
  | _ => none
/-- a row of two things that are kept as pages -/
def RowAt (K : PySem.W.Frag) (H : Hp) (v : V) (r : Pg × Pg) : Prop := ∃ (a : Addr) (x y : V) (dx dy : PyData), v = .ref a ∧ Seq K H a [x, y] ∧ Dp K H x dx ∧ Dp K H y dy ∧ keptPD dx = some r.1 ∧ keptPD dy = some r.2
theorem RowAt.same {K : PySem.W.Frag} {H H' : Hp} {v : V} {r : Pg × Pg} (m : Same H H') (h : RowAt K H v r) : RowAt K H' v r := by
  obtain ⟨a, x, y, dx, dy, e, h1, h2, h3, h4, h5⟩ := h
  exact ⟨a, x, y, dx, dy, e, same_sq m h1, dp_same m h2, dp_same m h3, h4, h5⟩
inductive RowAll (K : PySem.W.Frag) (H : Hp) : List V → List (Pg × Pg) → Prop
  | nil : RowAll K H [] []
  | cons {v : V} {vs : List V} {r : Pg × Pg} {rs : List (Pg × Pg)} (h : RowAt K H v r) (t : RowAll K H vs rs) : RowAll K H (v :: vs) (r :: rs)
theorem RowAll.same {K : PySem.W.Frag} {H H' : Hp} (m : Same H H') : ∀ {vs : List V} {rs : List (Pg × Pg)}, RowAll K H vs rs → RowAll K H' vs rs
  | _, _, .nil => .nil
  | _, _, .cons h r => .cons (h.same m) (RowAll.same m r)
theorem RowAll.len {K : PySem.W.Frag} {H : Hp} : ∀ {vs : List V} {rs : List (Pg × Pg)}, RowAll K H vs rs → vs.length = rs.length
  | _, _, .nil => rfl
  | _, _, .cons _ r => congrArg (· + 1) (RowAll.len r)
theorem RowAll.get {K : PySem.W.Frag} {H : Hp} : ∀ {vs : List V} {rs : List (Pg × Pg)} {i : Nat} {v : V}, RowAll K H vs rs → vs[i]? = some v → ∃ r, rs[i]? = some r ∧ RowAt K H v r
  | _, _, _, _, .nil, e => nomatch e
  | _, _, 0, _, .cons h r, e => by
    injection e with e
    subst e
    exact ⟨_, rfl, h⟩
  | _, _, i + 1, _, .cons h r, e => by
    obtain ⟨d, e1, e2⟩ := RowAll.get (i := i) r e
    exact ⟨d, e1, e2⟩
/-- data all the way of the depth of a row of leaves -/
def dLf (l : Lf) : PyData := .tuple [dL l.L, dS l.fr, dS l.bk, .tuple []]
def okLf (l : Lf) : Prop := okL l.L ∧ rowsB 1 l.fr = true ∧ rowsB 0 l.bk = true ∧ l.pen = []
/-- a row of leaves of rising labels -/
def okBk (bk : List Lf) : Prop := bk.length ≤ 60 ∧ (∀ l ∈ bk, okLf l) ∧ bk.Pairwise fun a b => HT.lexLt a.L b.L = true
def okR (r : Pg × Pg) : Prop := okP r.1 ∧ okP r.2
def dRs (ps : List (Pg × Pg)) : PyData := .tuple (ps.map dR)
theorem dLf_inv {H : Hp} {v : V} {lf : Lf} (h : Tp H v (dLf lf)) : ∃ (t : Addr) (u1 u2 u3 u4 : V), v = .ref t ∧ H t = some (.tup [u1, u2, u3, u4]) ∧ Tp H u1 (dL lf.L) ∧ Tp H u2 (dS lf.fr) ∧ Tp H u3 (dS lf.bk) := by
  cases h with
  | tup h r =>
    cases r with
    | cons h1 r =>
      cases r with
      | cons h2 r =>
        cases r with
        | cons h3 r =>
          cases r with
          | cons h4 r => cases r; exact ⟨_, _, _, _, _, rfl, h, h1, h2, h3⟩
theorem allP_snoc (bk : List Lf) (l : Lf) : allP (bk ++ [l]) = allP bk ++ [(l.L, 0), (l.L, 1)] := by
  unfold allP
  rw [List.flatMap_append]
  rfl

theorem pl_dRs {ps : List (Pg × Pg)} (h : ∀ r ∈ ps, okR r) (hl : ps.length ≤ 1000) : Pl 5 (dRs ps) := pl_tup (fun r hr => pl_dR' (h r hr) 0) hl
theorem pl_dPs {ps : List Pg} (h : ∀ p ∈ ps, p.1.length ≤ 3) (hl : ps.length ≤ 1000) : Pl 5 (dPs ps) := pl_tup (fun p hp => pl_dP (h p hp) 1) hl
theorem told_mem {bk : List Lf} {ps : List (Pg × Pg)} (ok : okBk bk) : ∀ p ∈ toldP bk ps, p.1.length ≤ 3 := fun p hp => by
  obtain ⟨l, hl, h⟩ := List.mem_flatMap.mp (List.mem_filter.mp hp).1
  have e : p.1 = l.L := by
    rw [sideP_eq] at h
    obtain ⟨s, _, hs⟩ := List.mem_filterMap.mp h
    rw [(sideF_some hs).2]
  rw [e]
  exact (ok.2.1 l hl).1.1
theorem pl_told {bk : List Lf} {ps : List (Pg × Pg)} (ok : okBk bk) : Pl 5 (dPs (toldP bk ps)) := pl_dPs (told_mem ok) (by
  have h1 : (toldP bk ps).length ≤ (shownP bk).length := List.length_filter_le ..
  have h2 := shownP_len bk
  have := ok.1
  omega)
theorem kept_P {p : Pg} (h : okP p) : keptPD (dP p) = some p := by
  show (if wI 0 1 (.int p.2) = true then (match keptD (dL p.1) with | some L => some (L, toI (.int p.2)) | none => none) else none) = some p
  rw [if_pos (show wI 0 1 (.int p.2) = true from decide_eq_true (by have := h.2; omega)), kept_dL h.1]
  rfl
theorem kept_lP {p : Pg} (h : okP p) : keptPD (toL (dP p)) = some p := by
  have e : keptD (.list (toLs (p.1.map PyData.int))) = some p.1 := by
    rw [toLs_ints]
    exact kept_dL h.1
  show (if wI 0 1 (.int p.2) = true then (match keptD (.list (toLs (p.1.map PyData.int))) with | some L => some (L, toI (.int p.2)) | none => none) else none) = some p
  rw [if_pos (show wI 0 1 (.int p.2) = true from decide_eq_true (by have := h.2; omega)), e]
  rfl
theorem rowAll_tp {K : PySem.W.Frag} {H : Hp} : ∀ {us : List V} {ps : List (Pg × Pg)}, TpAll H us (ps.map dR) → (∀ r ∈ ps, okR r) → RowAll K H us ps
  | _, [], h, _ => by cases h; exact .nil
  | _, r :: ps, h, ok => by
    cases h with
    | cons h t =>
      obtain ⟨a, x, y, rfl, ha, h1, h2⟩ := tpR_inv h
      have o := ok r (List.mem_cons_self ..)
      exact .cons ⟨a, x, y, _, _, rfl, .inr (.inl (.inl ha)), h1.dp, h2.dp, kept_P o.1, kept_P o.2⟩ (rowAll_tp t fun q hq => ok q (List.mem_cons_of_mem _ hq))
theorem rowAll_dp {K : PySem.W.Frag} {H : Hp} : ∀ {us : List V} {ps : List (Pg × Pg)}, DpAll K H us (toLs (ps.map dR)) → (∀ r ∈ ps, okR r) → RowAll K H us ps
  | _, [], h, _ => by cases h; exact .nil
  | _, r :: ps, h, ok => by
    cases h with
    | cons h t =>
      have o := ok r (List.mem_cons_self ..)
      refine .cons ?_ (rowAll_dp t fun q hq => ok q (List.mem_cons_of_mem _ hq))
      have h : Dp K H _ (.list [toL (dP r.1), toL (dP r.2)]) := h
      cases h with
      | lst ha da =>
        cases da with
        | cons h1 da =>
          cases da with
          | cons h2 da =>
            cases da
            exact ⟨_, _, _, _, _, rfl, .inl ha, h1, h2, kept_lP o.1, kept_lP o.2⟩
theorem okBk_drop {bk : List Lf} (k : Nat) (h : okBk bk) : okBk (bk.take k ++ bk.drop (k + 1)) := by
  have s : (bk.take k ++ bk.drop (k + 1)).Sublist bk := by
    rw [← List.eraseIdx_eq_take_drop_succ]
    exact List.eraseIdx_sublist ..
  exact ⟨Nat.le_trans s.length_le h.1, fun l hl => h.2.1 l (s.subset hl), h.2.2.sublist s⟩
theorem okBk_set {bk : List Lf} {k : Nat} {lf new : Lf} (h : okBk bk) (e : bk[k]? = some lf) (o : okLf new) (eL : new.L = lf.L) : okBk ((bk.take k ++ [new]) ++ bk.drop (k + 1)) := by
  obtain ⟨hk, e⟩ := List.getElem?_eq_some_iff.mp e
  have m : ((bk.take k ++ [new]) ++ bk.drop (k + 1)).map (·.L) = bk.map (·.L) := by
    conv => rhs; rw [← List.take_append_drop k bk]
    rw [List.drop_eq_getElem_cons hk, e, List.append_assoc]
    simp only [List.map_append, List.map_cons, List.map_nil, List.singleton_append, eL]
  refine ⟨?_, ?_, ?_⟩
  · rw [← List.length_map (f := (·.L)), m, List.length_map]
    exact h.1
  · intro l hl
    rcases List.mem_append.mp hl with hl | hl
    · rcases List.mem_append.mp hl with hl | hl
      · exact h.2.1 l (List.mem_of_mem_take hl)
      · rw [List.mem_singleton.mp hl]; exact o
    · exact h.2.1 l (List.mem_of_mem_drop hl)
  · have p : (bk.map (·.L)).Pairwise fun a b => HT.lexLt a b = true := by
      rw [List.pairwise_map]
      exact h.2.2
    rw [← m, List.pairwise_map] at p
    exact p
/-! ### sorted of a list of data that are alike -/
section
variable {X : Cx}
/-- the items of a list, by the order of the data they stand for -/
def srtV (xs : List V) (ds : List PyData) : List (V × PyData) := (xs.zip ds).mergeSort (PySem.W.dataLe false Prod.snd)
def rSortedD (K : PySem.W.Frag) : List V → Hp → VK → Prop := fun vs H Q => ∃ (a : Addr) (xs : List V) (ds : List PyData), vs = [V.ref a] ∧ SqL K H a xs ∧ DpAll K H xs ds ∧ PySem.W.AllAlike ds ∧ PySem.W.Sortable ds ∧ (∀ d ∈ ds, d.depth ≤ 60) ∧
  ∀ p, H p = none → Q (.ref p) (upd H p (.lst ((srtV xs ds).map Prod.fst)))
theorem dpAll_zip {K : PySem.W.Frag} {H : Hp} : ∀ {xs : List V} {ds : List PyData}, DpAll K H xs ds → (xs.zip ds).map Prod.snd = ds ∧ (xs.zip ds).map Prod.fst = xs
  | _, _, .nil => ⟨rfl, rfl⟩
  | x :: xs, d :: ds, .cons _ t => by
    obtain ⟨h1, h2⟩ := dpAll_zip t
    exact ⟨congrArg (d :: ·) h1, congrArg (x :: ·) h2⟩
theorem vals_each : ∀ {xs : List V} {its : List Value} {ds : List PyData}, Vals xs its → ds.length = xs.length → PySem.W.EachIs (fun (v : Value) (b : V × PyData) => RelV b.1 v) its (xs.zip ds)
  | _, _, [], .nil, _ => .nil
  | _, _, d :: ds, .cons r t, h => .cons r (vals_each t (Nat.succ.inj h))
  | _, _, d :: ds, .nil, h => nomatch h
  | _, _, [], .cons _ _, h => nomatch h
theorem reads_each {pins : List (Addr × Obj)} {σ : L2.St} {H : Hp} {s : Shared} (I : Inv X pins σ H s) : ∀ {xs : List V} {its : List Value} {ds : List PyData}, Vals xs its → DpAll X.K H xs ds → PySem.W.EachIs (fun (v : Value) (b : V × PyData) => ∃ as, Reads s.heap v b.2 as) its (xs.zip ds)
  | _, _, _, .nil, .nil => .nil
  | _, _, _, .cons r t, .cons h u => .cons (Dp.reads I _ _ _ h r) (reads_each I t u)
theorem each_vals : ∀ {its : List Value} {bs : List (V × PyData)}, PySem.W.EachIs (fun (v : Value) (b : V × PyData) => RelV b.1 v) its bs → Vals (bs.map Prod.fst) its
  | _, _, .nil => .nil
  | _, _, .cons h t => .cons h (each_vals t)
theorem cr_sortedD (hu : X.A.units + 65 < cLine) : CallR X (.builtin "sorted") (rSortedD X.K) := by
  intro pins s σ H vs us Q I r h
  obtain ⟨a, xs, ds, rfl, hs, hd, al, so, dep, q⟩ := h
  obtain ⟨its, rv, hl, hz⟩ := I.list hs
  obtain ⟨u, rfl, ru⟩ := vals1 r
  obtain rfl : u = Value.ref a := ru
  obtain ⟨z1, z2⟩ := dpAll_zip hd
  have hlen := dpAll_len hd
  have lz : (xs.zip ds).length = xs.length := by rw [← List.length_map (f := Prod.fst), z2]
  refine PySem.W.sorted_data (enc := Prod.snd) hl.isList (vals_each rv hlen.symm) (reads_each I rv hd) (by rw [z1]; exact al) (by rw [z1]; exact so) (by rw [lz]; exact hz) (fun b hb => ?_) fun out ho he => ?_
  · have hb2 : b.2 ∈ ds := by rw [← z1]; exact List.mem_map_of_mem hb
    have := dep _ hb2
    omega
  · obtain ⟨n, hn⟩ := sortedAll_at s.heap its out.toArray
    have ol : ((srtV xs ds).map Prod.fst).length ≤ sizeLine := by
      unfold srtV
      rw [List.length_map, (List.mergeSort_perm ..).length_eq, lz]
      exact hz
    exact ⟨.ref (s.heap.objs.size + 1), upd H (s.heap.objs.size + 1) (.lst ((srtV xs ds).map Prod.fst)), I.laid (t' := s.toks) (fun b o e => sortedAll_old e) (Nat.le_succ _) ⟨ol, out, n, each_vals he, hn⟩, rfl, q _ (I.hok.fresh (Nat.le_succ _))⟩
end
/-- .. of pages -/
theorem alike_Ps (ps : List Pg) : PySem.W.AllAlike (ps.map dP) := PySem.W.AllAlike.of alike_P
theorem sortable_Ps (ps : List Pg) : PySem.W.Sortable (ps.map dP) := PySem.W.Sortable.tuples fun _ => ⟨_, _, rfl⟩
theorem tpAll_mem {H : Hp} : ∀ {xs : List V} {ds : List PyData}, TpAll H xs ds → ∀ b ∈ xs.zip ds, Tp H b.1 b.2
  | _, _, .nil, b, hb => nomatch hb
  | _, _, .cons h t, b, hb => by
    rcases List.mem_cons.mp hb with rfl | hb
    · exact h
    · exact tpAll_mem t b hb
theorem tpAll_of {H : Hp} : ∀ (bs : List (V × PyData)), (∀ b ∈ bs, Tp H b.1 b.2) → TpAll H (bs.map Prod.fst) (bs.map Prod.snd)
  | [], _ => .nil
  | b :: r, h => .cons (h b (List.mem_cons_self ..)) (tpAll_of r fun c hc => h c (List.mem_cons_of_mem _ hc))
theorem perm_of_map {α β : Type} {f : α → β} : ∀ {l : List β} {ps : List α}, l.Perm (ps.map f) → ∃ qs : List α, l = qs.map f ∧ qs.Perm ps := by
  intro l ps h
  have key : ∀ {l m : List β}, l.Perm m → ∀ ps : List α, m = ps.map f → ∃ qs : List α, l = qs.map f ∧ qs.Perm ps := by
    intro l m h
    induction h with
    | nil => intro ps e; exact ⟨[], rfl, by cases ps with | nil => exact .nil | cons _ _ => cases e⟩
    | cons x _ ih =>
      intro ps e
      cases ps with
      | nil => cases e
      | cons p r =>
        injection e with e1 e2
        obtain ⟨qs, e3, hp⟩ := ih r e2
        exact ⟨p :: qs, by rw [e1, e3]; rfl, hp.cons p⟩
    | swap x y l =>
      intro ps e
      match ps, e with
      | p :: q :: r, e =>
        injection e with e1 e2
        injection e2 with e2 e3
        exact ⟨q :: p :: r, by rw [e1, e2, e3]; rfl, .swap ..⟩
    | trans _ _ ih1 ih2 =>
      intro ps e
      obtain ⟨qs, e1, h1⟩ := ih2 ps e
      obtain ⟨rs, e2, h2⟩ := ih1 qs e1
      exact ⟨rs, e2, h2.trans h1⟩
  exact key h ps rfl
theorem srt_Ps {H : Hp} {xs : List V} {ps : List Pg} (h : TpAll H xs (ps.map dP)) : ∃ qs : List Pg, qs.Perm ps ∧ TpAll H ((srtV xs (ps.map dP)).map Prod.fst) (qs.map dP) := by
  have hp : (srtV xs (ps.map dP)).Perm (xs.zip (ps.map dP)) := List.mergeSort_perm ..
  have hm : ∀ b ∈ srtV xs (ps.map dP), Tp H b.1 b.2 := fun b hb => tpAll_mem h b (hp.mem_iff.mp hb)
  have h2 := tpAll_of _ hm
  have z : (xs.zip (ps.map dP)).map Prod.snd = ps.map dP := by
    rw [List.map_snd_zip]
    rw [h.len]
    exact Nat.le_refl _
  have h3 : ((srtV xs (ps.map dP)).map Prod.snd).Perm (ps.map dP) := by
    have := hp.map Prod.snd
    rwa [z] at this
  obtain ⟨qs, e, hq⟩ : ∃ qs : List Pg, (srtV xs (ps.map dP)).map Prod.snd = qs.map dP ∧ qs.Perm ps := perm_of_map h3
  exact ⟨qs, hq, by rw [← e]; exact h2⟩
/-! ### rows of pages -/
inductive PgAll (K : PySem.W.Frag) (H : Hp) : List V → List Pg → Prop
  | nil : PgAll K H [] []
  | cons {v : V} {vs : List V} {p : Pg} {ps : List Pg} {d : PyData} (h : Dp K H v d) (e : keptPD d = some p) (t : PgAll K H vs ps) : PgAll K H (v :: vs) (p :: ps)
theorem PgAll.same {K : PySem.W.Frag} {H H' : Hp} (m : Same H H') : ∀ {vs : List V} {ps : List Pg}, PgAll K H vs ps → PgAll K H' vs ps
  | _, _, .nil => .nil
  | _, _, .cons h e t => .cons (dp_same m h) e (PgAll.same m t)
theorem PgAll.len {K : PySem.W.Frag} {H : Hp} : ∀ {vs : List V} {ps : List Pg}, PgAll K H vs ps → vs.length = ps.length
  | _, _, .nil => rfl
  | _, _, .cons _ _ t => congrArg (· + 1) (PgAll.len t)
theorem PgAll.get {K : PySem.W.Frag} {H : Hp} : ∀ {vs : List V} {ps : List Pg} {i : Nat} {v : V}, PgAll K H vs ps → vs[i]? = some v → ∃ p d, ps[i]? = some p ∧ Dp K H v d ∧ keptPD d = some p
  | _, _, _, _, .nil, e => nomatch e
  | _, _, 0, _, .cons h k t, e => by
    injection e with e
    subst e
    exact ⟨_, _, rfl, h, k⟩
  | _, _, i + 1, _, .cons h k t, e => PgAll.get (i := i) t e
theorem pgAll_tp {K : PySem.W.Frag} {H : Hp} : ∀ {us : List V} {ps : List Pg}, TpAll H us (ps.map dP) → (∀ p ∈ ps, okP p) → PgAll K H us ps
  | _, [], h, _ => by cases h; exact .nil
  | _, p :: ps, h, ok => by
    cases h with
    | cons h t => exact .cons h.dp (kept_P (ok p (List.mem_cons_self ..))) (pgAll_tp t fun q hq => ok q (List.mem_cons_of_mem _ hq))
theorem pgAll_dp {K : PySem.W.Frag} {H : Hp} : ∀ {us : List V} {ps : List Pg}, DpAll K H us (toLs (ps.map dP)) → (∀ p ∈ ps, okP p) → PgAll K H us ps
  | _, [], h, _ => by cases h; exact .nil
  | _, p :: ps, h, ok => by
    cases h with
    | cons h t => exact .cons h (kept_lP (ok p (List.mem_cons_self ..))) (pgAll_dp t fun q hq => ok q (List.mem_cons_of_mem _ hq))
theorem eqvAll_P : ∀ ps qs : List Pg, PyData.eqvAll (ps.map dP) (qs.map dP) = decide (ps = qs)
  | [], [] => rfl
  | [], _ :: _ => rfl
  | _ :: _, [] => rfl
  | p :: ps, q :: qs => by
    show (PyData.eqv (dP p) (dP q) && PyData.eqvAll (ps.map dP) (qs.map dP)) = _
    rw [eqv_dP, eqvAll_P ps qs, Bool.eq_iff_iff]
    simp
theorem shown_okP {bk : List Lf} (ok : okBk bk) : ∀ p ∈ shownP bk, okP p := fun p hp => by
  obtain ⟨l, hl, h⟩ := List.mem_flatMap.mp hp
  rw [sideP_eq] at h
  obtain ⟨s, hs, hf⟩ := List.mem_filterMap.mp h
  obtain ⟨_, rfl⟩ := sideF_some hf
  refine ⟨(ok.2.1 l hl).1, ?_⟩
  rcases List.mem_cons.mp hs with h | h
  · exact .inl h
  · exact .inr (List.mem_singleton.mp h)
theorem all_okP {bk : List Lf} (ok : okBk bk) : ∀ p ∈ allP bk, okP p := fun p hp => by
  obtain ⟨l, hl, h⟩ := List.mem_flatMap.mp hp
  rcases List.mem_cons.mp h with rfl | h
  · exact ⟨(ok.2.1 l hl).1, .inl rfl⟩
  · rw [List.mem_singleton.mp h]; exact ⟨(ok.2.1 l hl).1, .inr rfl⟩
theorem ltP_leP (p q : Pg) : PySem.W.dataLt (dP p) (dP q) = !leP q p := by
  unfold leP ltP
  rw [Bool.not_not]
/-- when all are ranges of the book, what is told needs no more asking -/
theorem told_all {bk : List Lf} {ps : List (Pg × Pg)} (h : ps.all (isR bk) = true) : toldP bk ps = (shownP bk).filter fun p => ps.any (inR p) := by
  unfold toldP
  rw [List.filter_eq_self.mpr (List.all_eq_true.mp h)]
theorem pn_Ps (ps : List Pg) : Pn 3 (dPs ps) := fun d hd => by
  obtain ⟨p, _, rfl⟩ := List.mem_map.mp hd
  exact pn_P p
/-- one of the leaves' data -/
theorem lv_get {H : Hp} {vs : List V} {bk : List Lf} {i : Nat} {v : V} (tp : TpAll H vs (bk.map dLf)) (hx : vs[i]? = some v) : ∃ lf, bk[i]? = some lf ∧ Tp H v (dLf lf) := by
  obtain ⟨d, ed, td⟩ := tp.get hx
  rw [List.getElem?_map] at ed
  cases e : bk[i]? with
  | none => rw [e] at ed; cases ed
  | some l => rw [e] at ed; cases ed; exact ⟨l, rfl, td⟩
theorem nodup_sub {α : Type} [DecidableEq α] : ∀ {l m : List α}, l.Nodup → (∀ x ∈ l, x ∈ m) → l.length ≤ m.length
  | [], _, _, _ => Nat.zero_le _
  | x :: l, m, n, s => by
    obtain ⟨hx, hl⟩ := List.nodup_cons.mp n
    have hm := s x (List.mem_cons_self ..)
    have h := nodup_sub (m := m.erase x) hl fun y hy => (List.mem_erase_of_ne (fun e : y = x => hx (by rw [← e]; exact hy))).mpr (s y (List.mem_cons_of_mem _ hy))
    rw [List.length_erase_of_mem hm] at h
    have := List.length_pos_of_mem hm
    show l.length + 1 ≤ m.length
    omega
def freeK (Ls : List (List Int)) (n : Nat) : List Nat := (List.range n).filter fun i => decide ([(99 : Int) - (i : Int)] ∉ Ls)
theorem freeK_succ (Ls : List (List Int)) (n : Nat) : freeK Ls (n + 1) = freeK Ls n ++ (if decide ([(99 : Int) - (n : Int)] ∉ Ls) = true then [n] else []) := by
  unfold freeK
  rw [List.range_succ, List.filter_append, List.filter_cons, List.filter_nil]
theorem freeK_ne {Ls : List (List Int)} (h : Ls.length ≤ 60) : freeK Ls 99 ≠ [] := fun e => by
  have hall : ∀ x ∈ (List.range 99).map (fun (i : Nat) => [(99 : Int) - (i : Int)]), x ∈ Ls := fun x hx => by
    obtain ⟨i, hi, rfl⟩ := List.mem_map.mp hx
    have := List.filter_eq_nil_iff.mp e i hi
    simpa using this
  have nd : ((List.range 99).map (fun (i : Nat) => [(99 : Int) - (i : Int)])).Nodup := List.Pairwise.map _ (fun x y h e => h (by injection e with e; omega)) List.nodup_range
  have := nodup_sub nd hall
  rw [List.length_map, List.length_range] at this
  omega
theorem freeK_mem {Ls : List (List Int)} {n i : Nat} (h : i ∈ freeK Ls n) : i < n := List.mem_range.mp (List.mem_filter.mp h).1
theorem tpAll_snoc_inv {H : Hp} : ∀ {ws : List V} {ds : List PyData} {d : PyData}, TpAll H ws (ds ++ [d]) → ∃ W v, ws = W ++ [v] ∧ TpAll H W ds ∧ Tp H v d
  | _, [], d, h => by
    cases h with
    | cons h t => cases t; exact ⟨[], _, rfl, .nil, h⟩
  | _, e :: ds, d, h => by
    cases h with
    | cons h t =>
      obtain ⟨W, v, rfl, h1, h2⟩ := tpAll_snoc_inv t
      exact ⟨_ :: W, v, rfl, .cons h h1, h2⟩
theorem pg_inv {H : Hp} {v : V} {p : Pg} (h : Tp H v (dP p)) : ∃ a l, v = .ref a ∧ H a = some (.tup [.ref l, .int p.2]) ∧ H l = some (.tup (p.1.map V.int)) := by
  cases h with
  | tup h r =>
    cases r with
    | cons h1 r =>
      cases r with
      | cons h2 r =>
        cases r
        cases h2
        obtain ⟨l, rfl, hl⟩ := tpL_inv h1
        exact ⟨_, l, rfl, h, hl⟩
theorem first_at {p : Pg} : ∀ {ps : List Pg}, p ∈ ps → ∃ j, j < ps.length ∧ ps[j]? = some p ∧ ∀ m p', m < j → ps[m]? = some p' → p' ≠ p
  | q :: ps, h => by
    by_cases e : q = p
    · exact ⟨0, Nat.succ_pos _, by rw [e]; rfl, fun m _ h => absurd h (Nat.not_lt_zero _)⟩
    · have h2 : p ∈ ps := by
        rcases List.mem_cons.mp h with h | h
        · exact absurd h.symm e
        · exact h
      obtain ⟨j, h1, h3, h4⟩ := first_at h2
      refine ⟨j + 1, Nat.succ_lt_succ h1, h3, fun m p' hm hp => ?_⟩
      cases m with
      | zero => cases hp; exact e
      | succ m => exact h4 m p' (Nat.lt_of_succ_lt_succ hm) hp
theorem first_d {ps : List Pg} {p : Pg} {j : Nat} (e : ps[j]? = some p) : (ps.map dP)[j]? = some (dP p) := by rw [List.getElem?_map, e]; rfl
theorem first_no {ps : List Pg} {p : Pg} {j : Nat} (h : ∀ m p', m < j → ps[m]? = some p' → p' ≠ p) : ∀ (m : Nat) (z : PyData), m < j → (ps.map dP)[m]? = some z → PyData.eqv z (dP p) = false := fun m z hm hz => by
  rw [List.getElem?_map] at hz
  cases e : ps[m]? with
  | none => rw [e] at hz; cases hz
  | some p' =>
    rw [e] at hz
    cases hz
    rw [eqv_dP]
    exact decide_eq_false (h m p' hm e)
theorem eqv_Pself (p : Pg) : PyData.eqv (dP p) (dP p) = true := by rw [eqv_dP]; exact decide_eq_true rfl
theorem TpAll.rev {H : Hp} : ∀ {vs : List V} {ds : List PyData}, TpAll H vs ds → TpAll H vs.reverse ds.reverse
  | _, _, .nil => .nil
  | _, _, .cons h t => by
    rw [List.reverse_cons, List.reverse_cons]
    exact (TpAll.rev t).snoc h
/-- a list of one or two pairs, laid apart from the source -/
def Good (a : Addr) (H H' : Hp) (G : Addr) : Prop := Src H' a ∧ But a H H' ∧ G ≠ a ∧ ∃ (gs : List V) (ns : List (Pg × Pg)), H' G = some (.lst gs) ∧ TpAll H' gs (ns.map dR) ∧ (∀ r ∈ ns, okR r) ∧ ns.length ≤ 2
theorem srcS {Ha Hb : Hp} {a : Addr} (s : Same Ha Hb) (h : Src Ha a) : Src Hb a := by
  obtain ⟨g, x, c, e⟩ := h
  exact ⟨g, x, c, s _ _ e⟩
theorem good1 {a : Addr} {H Hn : Hp} {x y : V} {p p' : Pg} (sn : Src Hn a) (bn : But a H Hn) (hx : Tp Hn x (dP p)) (hy : Tp Hn y (dP p')) (o : okP p) (o' : okP p') {t : Addr} (nt : Hn t = none) {g : Addr} (ng : upd Hn t (.tup [x, y]) g = none) : Good a H (upd (upd Hn t (.tup [x, y])) g (.lst [.ref t])) g := by
  have s1 := same_upd (o := .tup [x, y]) nt
  have s2 := same_upd (o := .lst [.ref t]) ng
  have s := s1.trans s2
  have sg := srcS s1 sn
  refine ⟨srcS s sn, bn.trans (But.of s), (sg.ne ng).symm, _, [(p, p')], upd_same, .cons (.tup (s2 _ _ upd_same) (.cons (hx.nl (NL.of s)) (.cons (hy.nl (NL.of s)) .nil))) .nil, fun r hr => ?_, (by show 1 ≤ 2; decide)⟩
  rw [List.mem_singleton.mp hr]
  exact ⟨o, o'⟩
theorem good0 {a : Addr} {H Hn : Hp} {v : V} {r : Pg × Pg} (sn : Src Hn a) (bn : But a H Hn) (hv : Tp Hn v (dR r)) (o : okR r) {g : Addr} (ng : Hn g = none) : Good a H (upd Hn g (.lst [v])) g := by
  have s := same_upd (o := .lst [v]) ng
  refine ⟨srcS s sn, bn.trans (But.of s), (sn.ne ng).symm, _, [r], upd_same, .cons (hv.nl (NL.of s)) .nil, fun q hq => ?_, (by show 1 ≤ 2; decide)⟩
  rw [List.mem_singleton.mp hq]
  exact o
theorem page_at {H : Hp} {ks : List V} {bk : List Lf} (ok : okBk bk) (tk : TpAll H ks ((allP bk).map dP)) {c : Int} (h0 : 0 ≤ c) (h1 : c < ks.length) : ∃ x p, atI ks c = some x ∧ Tp H x (dP p) ∧ okP p := by
  obtain ⟨x, ex⟩ : ∃ x, ks[c.toNat]? = some x := ⟨_, List.getElem?_eq_getElem (by omega)⟩
  obtain ⟨d, ed, tx⟩ := tk.get ex
  rw [List.getElem?_map] at ed
  cases e : (allP bk)[c.toNat]? with
  | none => rw [e] at ed; cases ed
  | some p =>
    rw [e] at ed
    cases ed
    exact ⟨x, p, at_of' (Int.toNat_of_nonneg h0).symm ex, tx, all_okP ok p (List.mem_of_getElem? e)⟩
theorem good2 {a : Addr} {H Hn : Hp} {v1 v2 : V} {r1 r2 : Pg × Pg} (sn : Src Hn a) (bn : But a H Hn) (h1 : Tp Hn v1 (dR r1)) (h2 : Tp Hn v2 (dR r2)) (o1 : okR r1) (o2 : okR r2) {g : Addr} (ng : Hn g = none) : Good a H (upd Hn g (.lst [v1, v2])) g := by
  have s := same_upd (o := .lst [v1, v2]) ng
  refine ⟨srcS s sn, bn.trans (But.of s), (sn.ne ng).symm, _, [r1, r2], upd_same, .cons (h1.nl (NL.of s)) (.cons (h2.nl (NL.of s)) .nil), fun q hq => ?_, (by show 2 ≤ 2; decide)⟩
  rcases List.mem_cons.mp hq with h | h
  · rw [h]; exact o1
  · rw [List.mem_singleton.mp h]; exact o2
/-! ### xs[i::k], xs a list -/
section
variable {X : Cx} {e lw stp : Expr} {te : TE} {tl tq : L2.TO} {p2 pos : Pos}
def stepV (xs : List V) (lo st : Option Int) : List V := (sliceRange (sliceBounds lo none st xs.length).1 (sliceBounds lo none st xs.length).2.1 (sliceBounds lo none st xs.length).2.2).filterMap (xs[·]?)
theorem stepV_mem {xs : List V} {lo st : Option Int} {v : V} (h : v ∈ stepV xs lo st) : v ∈ xs := by
  obtain ⟨i, _, e⟩ := List.mem_filterMap.mp h
  exact List.mem_of_getElem? e
theorem vals_pick {xs : List V} {us : List Value} (r : Vals xs us) : ∀ is : List Nat, Vals (is.filterMap (xs[·]?)) (is.filterMap (us[·]?))
  | [] => .nil
  | i :: is => by
    have ih := vals_pick r is
    cases e : xs[i]? with
    | none =>
      have e2 : us[i]? = none := by
        rw [List.getElem?_eq_none_iff] at e ⊢
        rw [← r.length]
        exact e
      rw [List.filterMap_cons_none e, List.filterMap_cons_none e2]
      exact ih
    | some x =>
      obtain ⟨u, e2, rx⟩ := r.get e
      rw [List.filterMap_cons_some e, List.filterMap_cons_some e2]
      exact .cons rx ih
def tStepL (K : PySem.W.Frag) (te : TE) (tl tq : L2.TO) : TE := fun σ H Q => te σ H fun x H1 => tl σ H1 fun lo H2 => tq σ H2 fun k H3 => ∃ a xs, k ≠ some 0 ∧ x = .ref a ∧ SqL K H3 a xs ∧ (stepV xs lo k).length ≤ sizeLine ∧ ∀ p, H3 p = none → Q (.ref p) (upd H3 p (.lst (stepV xs lo k)))
theorem pe_stepL (he : PE X e te) (hl : PO X (some lw) tl) (hk : PO X (some stp) tq) : PE X (.Subscript e (.Slice (some lw) none (some stp) p2) pos) (tStepL X.K te tl tq) := by
  constructor
  intro pins s σ H Q I h
  refine Subscript_ (thn (he.run pins s σ H _ I h) ?_)
  rintro v s1 ⟨x, H1, I1, r1, q1⟩
  refine wpAny_Slice ?_
  refine thn (hl.run pins s1 σ H1 _ I1 q1) ?_
  rintro vl s1' ⟨lo, H1', I1', pl, q1'⟩
  rw [evalPart_none]
  refine wpAny_pure (thn (hk.run pins s1' σ H1' _ I1' q1') ?_)
  rintro vk s2 ⟨k, H2, I2, pk, a, xs, k0, rfl, hx, hlen, q⟩
  cases r1
  have J : Inv X pins σ H2 { s2 with heap := s2.heap.push { cls := .type "slice", data := .fields #[vl, .none, vk] } } := I2.kept (t' := s2.toks) (fun b ob q => Heap.get?_push_of_some _ q)
  obtain ⟨its, r, isl, hz⟩ := J.list hx
  have hl2 := r.length
  have step : wpAny (model X.prog X.w) X.A (getItem (.ref a) (.ref s2.heap.objs.size)) (EP X pins σ Q) X.xe { s2 with heap := s2.heap.push { cls := .type "slice", data := .fields #[vl, .none, vk] } } := by
    refine wpAny_getItem_list_slice isl.isList (Heap.IsSliceOf.new ..) pl .none pk k0 ?_ (by rw [List.size_toArray]; omega)
    have rp : Vals (stepV xs lo k) (slicePick its.toArray lo none k).toList := by
      unfold stepV slicePick
      rw [hl2, List.size_toArray]
      have := vals_pick r (sliceRange (sliceBounds lo none k its.length).1 (sliceBounds lo none k its.length).2.1 (sliceBounds lo none k its.length).2.2)
      simpa using this
    refine ⟨.ref (s2.heap.push { cls := .type "slice", data := .fields #[vl, .none, vk] }).objs.size, _, J.laid (t' := s2.toks) (o := .lst (stepV xs lo k)) (fun b ob q => Heap.get?_push_of_some _ q) (Nat.le_refl _) ?_, rfl, q _ (J.hok.fresh (Nat.le_refl _))⟩
    exact ⟨hlen, _, 0, rp, Heap.get?_push_size _ rfl⟩
  exact tail_any (ops := [.ref a, .ref s2.heap.objs.size]) isl.isList.typeIs slot_list_getitem.lookup step (by with_unfolding_all rfl)
end
/-! ### the words of places -/
/-- the page that faces: i is the place of the page's label -/
def facP (Ls : List (List Int)) (i : Nat) (s : Int) : Option Pg := if s = 1 then (Ls[i + 1]?).map (·, 0) else if i = 0 then none else (Ls[i - 1]?).map (·, 1)
def nxtB (Ls : List (List Int)) (a b : List Int) : Bool := (Ls.zip (Ls.drop 1)).any fun q => decide (q = (a, b))
def facesB (Ls : List (List Int)) (o g : Pg) : Bool := decide (o.2 ≠ g.2) && nxtB Ls (if o.2 = 1 then o.1 else g.1) (if o.2 = 1 then g.1 else o.1)
def headW (n : Bool) (o g : Pg) (f : Bool) : List Str := if n && decide (o = g) then ["here"] else if n && decide (o.1 = g.1) then ["overleaf"] else if n && f then ["facing"] else []
def wordsT (n : Bool) (o g : Pg) (f : Bool) : List Str := headW n o g f ++ [fP g]
def placeT (n : Bool) (o g : Pg) (f : Bool) (w : Str) : Bool := if w = "here" then n && decide (o = g) else if w = "overleaf" then n && (decide (o.1 = g.1) && decide (o.2 ≠ g.2)) else if w = "facing" then n && f else decide (w = fP g)
def placeW (n : Bool) (o g : Pg) (f : Bool) : Str := (((["here", "overleaf", "facing", fP g] : List Str).filter (placeT n o g f)).head?).getD "here"
theorem inl_inj {L M : List Int} (h : L.map (Sum.inl : Int → L2.Key) = M.map Sum.inl) : L = M := by
  induction L generalizing M with
  | nil => cases M with
    | nil => rfl
    | cons _ _ => cases h
  | cons x r ih => cases M with
    | nil => cases h
    | cons y s =>
      injection h with h1 h2
      injection h1 with h1
      rw [h1, ih h2]
theorem spots_get (bk : List Lf) (L : List Int) : ∀ n, n ≤ bk.length → (∃ i, i < n ∧ (bk.map (·.L))[i]? = some L) → ∃ i : Nat, i < n ∧ valV (spots bk n) (L.map Sum.inl) = some (.int (i : Nat)) ∧ (bk.map (·.L))[i]? = some L
  | 0, _, h => by
    obtain ⟨i, hi, _⟩ := h
    exact absurd hi (Nat.not_lt_zero _)
  | n + 1, hn, h => by
    obtain ⟨l, el⟩ : ∃ l, bk[n]? = some l := ⟨_, List.getElem?_eq_getElem hn⟩
    have e : spots bk (n + 1) = putK (spots bk n) (l.L.map Sum.inl) (.int (n : Nat)) := by
      show (match bk[n]? with | some l => putK (spots bk n) (l.L.map Sum.inl) (.int (n : Nat)) | none => spots bk n) = _
      rw [el]
    have em : (bk.map (·.L))[n]? = some l.L := by rw [List.getElem?_map, el]; rfl
    rw [e, valV_put]
    by_cases c : L = l.L
    · refine ⟨n, Nat.lt_succ_self _, if_pos (by rw [c]), by rw [em, c]⟩
    · obtain ⟨i, hi, ei⟩ := h
      have hne : i ≠ n := fun z => by rw [z, em] at ei; exact c (Option.some.inj ei).symm
      obtain ⟨i, h1, h2, h3⟩ := spots_get bk L n (Nat.le_of_succ_le hn) ⟨i, by omega, ei⟩
      exact ⟨i, Nat.lt_succ_of_lt h1, by rw [if_neg (fun z => c (inl_inj z))]; exact h2, h3⟩
theorem nd_ix {α : Type} {Ls : List α} (nd : Ls.Nodup) {i j : Nat} {L : α} (h1 : Ls[i]? = some L) (h2 : Ls[j]? = some L) : i = j := by
  obtain ⟨a1, b1⟩ := List.getElem?_eq_some_iff.mp h1
  obtain ⟨a2, b2⟩ := List.getElem?_eq_some_iff.mp h2
  have pw := List.pairwise_iff_getElem.mp nd
  rcases Nat.lt_trichotomy i j with h | h | h
  · exact absurd (b1.trans b2.symm) (pw i j a1 a2 h)
  · exact h
  · exact absurd (b2.trans b1.symm) (pw j i a2 a1 h)
theorem facP_none {Ls : List (List Int)} {i : Nat} {s : Int} (hs : s = 0 ∨ s = 1) (h : ¬ (0 ≤ (i : Int) + (if s = 1 then 1 else -1) ∧ (i : Int) + (if s = 1 then 1 else -1) < Ls.length)) (hi : i < Ls.length) : facP Ls i s = none := by
  unfold facP
  rcases hs with rfl | rfl
  · rw [if_neg (by decide)] at h ⊢
    by_cases h0 : i = 0
    · rw [if_pos h0]
    · exact absurd ⟨by omega, by omega⟩ h
  · rw [if_pos rfl] at h ⊢
    rw [List.getElem?_eq_none (by omega)]
    rfl
theorem facP_some {Ls : List (List Int)} {i k : Nat} {s : Int} {L : List Int} (hs : s = 0 ∨ s = 1) (h : (i : Int) + (if s = 1 then 1 else -1) = (k : Int)) (e : Ls[k]? = some L) : facP Ls i s = some (L, 1 - s) := by
  unfold facP
  rcases hs with rfl | rfl
  · rw [if_neg (by decide)] at h ⊢
    rw [if_neg (by omega), show i - 1 = k by omega, e]
    rfl
  · rw [if_pos rfl] at h ⊢
    rw [show i + 1 = k by omega, e]
    rfl
theorem nxt_iff {Ls : List (List Int)} {a b : List Int} : nxtB Ls a b = true ↔ ∃ k, Ls[k]? = some a ∧ Ls[k + 1]? = some b := by
  unfold nxtB
  rw [List.any_eq_true]
  constructor
  · rintro ⟨q, hq, e⟩
    obtain ⟨k, hk, e2⟩ := List.mem_iff_getElem.mp hq
    have e3 : (Ls.zip (Ls.drop 1))[k]? = some (a, b) := by rw [List.getElem?_eq_getElem hk, e2, of_decide_eq_true e]
    rw [List.getElem?_zip_eq_some, List.getElem?_drop, Nat.add_comm] at e3
    exact ⟨k, e3.1, e3.2⟩
  · rintro ⟨k, h1, h2⟩
    refine ⟨(a, b), ?_, decide_eq_true rfl⟩
    refine List.mem_of_getElem? (i := k) ?_
    rw [List.getElem?_zip_eq_some, List.getElem?_drop, Nat.add_comm]
    exact ⟨h1, h2⟩
theorem fac_iff {Ls : List (List Int)} (nd : Ls.Nodup) {i : Nat} {o g : Pg} (e : Ls[i]? = some o.1) (ho : o.2 = 0 ∨ o.2 = 1) (hg : g.2 = 0 ∨ g.2 = 1) : decide (facP Ls i o.2 = some g) = facesB Ls o g := by
  obtain ⟨oL, oS⟩ := o
  obtain ⟨gL, gS⟩ := g
  simp only at e ho hg
  rw [Bool.eq_iff_iff, decide_eq_true_iff]
  unfold facP facesB
  rw [Bool.and_eq_true, decide_eq_true_iff, nxt_iff]
  rcases ho with rfl | rfl
  · simp only [if_neg (show ¬ (0 : Int) = 1 by decide)]
    constructor
    · intro h
      by_cases h0 : i = 0
      · rw [if_pos h0] at h; cases h
      · rw [if_neg h0] at h
        cases e2 : Ls[i - 1]? with
        | none => rw [e2] at h; cases h
        | some L =>
          rw [e2] at h
          cases h
          exact ⟨by decide, i - 1, e2, by rw [show i - 1 + 1 = i by omega]; exact e⟩
    · rintro ⟨h1, k, h2, h3⟩
      have := nd_ix nd h3 e
      have hg1 : gS = 1 := by rcases hg with h | h; exact absurd h.symm h1; exact h
      subst this hg1
      rw [if_neg (by omega), Nat.add_sub_cancel, h2]
      rfl
  · simp only [if_pos rfl]
    constructor
    · intro h
      cases e2 : Ls[i + 1]? with
      | none => rw [e2] at h; cases h
      | some L =>
        rw [e2] at h
        cases h
        exact ⟨by decide, i, e, e2⟩
    · rintro ⟨h1, k, h2, h3⟩
      have := nd_ix nd h2 e
      have hg0 : gS = 0 := by rcases hg with h | h; exact h; exact absurd h.symm h1
      subst this hg0
      rw [h3]
      rfl
theorem faces_ne {Ls : List (List Int)} (nd : Ls.Nodup) {o g : Pg} (h : facesB Ls o g = true) : o.1 ≠ g.1 := by
  intro e
  unfold facesB at h
  rw [Bool.and_eq_true, nxt_iff] at h
  obtain ⟨_, k, h2, h3⟩ := h
  rw [e] at h2 h3
  simp only [ite_self] at h2 h3
  have := nd_ix nd h2 h3
  omega
theorem eqv_oP (o : Option Pg) (r : Pg) : PyData.eqv (oD dP o) (dP r) = decide (o = some r) := by
  cases o with
  | none => rfl
  | some q =>
    show PyData.eqv (dP q) (dP r) = _
    rw [eqv_dP, Bool.eq_iff_iff]
    simp
theorem fP_last (p : Pg) : (fP p).cps.toList.getLast? = some 97 ∨ (fP p).cps.toList.getLast? = some 98 := by
  have ap : ∀ x y : Str, (x ++ y).cps.toList = x.cps.toList ++ y.cps.toList := fun x y => by
    show (x.cps ++ y.cps).toList = _
    rw [Array.toList_append]
  unfold fP
  rw [ap]
  by_cases h : p.2 = 0
  · rw [if_pos h, List.getLast?_append]
    exact .inl rfl
  · rw [if_neg h, List.getLast?_append]
    exact .inr rfl
theorem fP_ne {p : Pg} : fP p ≠ "here" ∧ fP p ≠ "overleaf" ∧ fP p ≠ "facing" := by
  have h := fP_last p
  refine ⟨fun e => ?_, fun e => ?_, fun e => ?_⟩ <;> rw [e] at h <;> rcases h with h | h <;> exact absurd h (by decide +kernel)
theorem inV_strs (z : Str) : ∀ zs : List Str, inV (.str z) (zs.map V.str) = decide (z ∈ zs)
  | [] => rfl
  | y :: r => by
    show ((y == z) || inV (.str z) (r.map V.str)) = _
    rw [inV_strs z r, Bool.eq_iff_iff, Bool.or_eq_true, beq_iff_eq, decide_eq_true_iff, decide_eq_true_iff, List.mem_cons]
    exact ⟨fun h => h.imp Eq.symm id, fun h => h.imp Eq.symm id⟩
theorem flat_strs (zs : List Str) : (zs.map V.str).all flatV = true := by
  rw [List.all_eq_true]
  intro x hx
  obtain ⟨z, _, rfl⟩ := List.mem_map.mp hx
  rfl
theorem ho_ : ("here" : Str) ≠ "overleaf" ∧ ("here" : Str) ≠ "facing" ∧ ("overleaf" : Str) ≠ "facing" := ⟨by decide +kernel, by decide +kernel, by decide +kernel⟩
theorem side_ne {o g : Pg} (h : ¬ o = g) (e : o.1 = g.1) : o.2 ≠ g.2 := fun e2 => h (Prod.ext e e2)
/-- a word stands there when it is true -/
theorem in_words {n : Bool} {o g : Pg} {f : Bool} (hf : f = true → o.1 ≠ g.1) (z : Str) : decide (z ∈ wordsT n o g f) = placeT n o g f z := by
  obtain ⟨p1, p2, p3⟩ := fP_ne (p := g)
  obtain ⟨q1, q2, q3⟩ := ho_
  unfold wordsT headW placeT
  by_cases z1 : z = "here"
  · subst z1
    rw [if_pos rfl]
    cases n <;> by_cases c1 : o = g <;> by_cases c2 : o.1 = g.1 <;> cases f <;> simp_all [Ne.symm p1]
  · rw [if_neg z1]
    by_cases z2 : z = "overleaf"
    · subst z2
      rw [if_pos rfl]
      by_cases c1 : o = g
      · subst c1
        cases n <;> cases f <;> simp_all [Ne.symm p2]
      · have := side_ne c1
        cases n <;> by_cases c2 : o.1 = g.1 <;> cases f <;> simp_all [Ne.symm p2]
    · rw [if_neg z2]
      by_cases z3 : z = "facing"
      · subst z3
        rw [if_pos rfl]
        cases n <;> by_cases c1 : o = g <;> by_cases c2 : o.1 = g.1 <;> cases f <;> simp_all [Ne.symm p3]
      · rw [if_neg z3]
        cases n <;> by_cases c1 : o = g <;> by_cases c2 : o.1 = g.1 <;> cases f <;> simp_all
theorem pref_word {n : Bool} {o g : Pg} {f : Bool} (hf : f = true → o.1 ≠ g.1) : (wordsT n o g f)[0]? = some (placeW n o g f) ∧ ∃ r, (["here", "overleaf", "facing", fP g] : List Str).filter (placeT n o g f) = placeW n o g f :: r := by
  obtain ⟨p1, p2, p3⟩ := fP_ne (p := g)
  obtain ⟨q1, q2, q3⟩ := ho_
  have t1 : placeT n o g f "here" = (n && decide (o = g)) := if_pos rfl
  have t2 : placeT n o g f "overleaf" = (n && (decide (o.1 = g.1) && decide (o.2 ≠ g.2))) := by
    unfold placeT
    rw [if_neg q1.symm, if_pos rfl]
  have t3 : placeT n o g f "facing" = (n && f) := by
    unfold placeT
    rw [if_neg q2.symm, if_neg q3.symm, if_pos rfl]
  have t4 : placeT n o g f (fP g) = true := by
    unfold placeT
    rw [if_neg p1, if_neg p2, if_neg p3]
    exact decide_eq_true rfl
  unfold placeW wordsT headW
  rw [List.filter_cons, List.filter_cons, List.filter_cons, List.filter_cons, List.filter_nil, t1, t2, t3, t4]
  by_cases c1 : o = g
  · subst c1
    cases n <;> cases f <;> simp_all
  · have := side_ne c1
    cases n <;> by_cases c2 : o.1 = g.1 <;> cases f <;> simp_all
def dLL (q : List Int × List Int) : PyData := .tuple [dL q.1, dL q.2]
theorem pn_LL (q : List Int × List Int) : Pn 2 (dLL q) := fun d hd => by
  rcases List.mem_cons.mp hd with rfl | hd
  · exact pn_L q.1
  · rw [List.mem_singleton.mp hd]; exact pn_L q.2
theorem eqv_LL (q s : List Int × List Int) : PyData.eqv (dLL q) (dLL s) = decide (q = s) := by
  show (PyData.eqv (dL q.1) (dL s.1) && (PyData.eqv (dL q.2) (dL s.2) && true)) = _
  rw [eqv_L, eqv_L, Bool.and_true, Bool.eq_iff_iff, Bool.and_eq_true, decide_eq_true_iff, decide_eq_true_iff, decide_eq_true_iff]
  exact ⟨fun h => Prod.ext h.1 h.2, fun h => by rw [h]; exact ⟨rfl, rfl⟩⟩
theorem any_LL (qs : List (List Int × List Int)) (s : List Int × List Int) : ((qs.map dLL).any fun z => PyData.eqv z (dLL s)) = qs.any fun q => decide (q = s) := by
  induction qs with
  | nil => rfl
  | cons q r ih => rw [List.map_cons, List.any_cons, List.any_cons, ih, eqv_LL]
theorem lx_trans : ∀ {a b c : List Int}, HT.lexLt a b = true → HT.lexLt b c = true → HT.lexLt a c = true
  | [], [], _, h, _ => nomatch h
  | [], _ :: _, [], _, h => nomatch h
  | [], _ :: _, _ :: _, _, _ => rfl
  | _ :: _, [], _, h, _ => nomatch h
  | _ :: _, _ :: _, [], _, h => nomatch h
  | x :: xs, y :: ys, z :: zs, h, k => by
    rw [HT.lexLt_cons] at h k ⊢
    by_cases c1 : x = y
    · subst c1
      rw [if_pos rfl] at h
      by_cases c2 : x = z
      · subst c2
        rw [if_pos rfl] at k ⊢
        exact lx_trans h k
      · rw [if_neg c2] at k ⊢
        exact k
    · rw [if_neg c1] at h
      have h1 := of_decide_eq_true h
      by_cases c2 : y = z
      · subst c2
        rw [if_neg c1]
        exact h
      · rw [if_neg c2] at k
        have h2 := of_decide_eq_true k
        rw [if_neg (by omega)]
        exact decide_eq_true (by omega)
theorem lx_head {x y : Int} {r s : List Int} (h : x < y) : HT.lexLt (x :: r) (y :: s) = true := by
  rw [HT.lexLt_cons, if_neg (by omega)]
  exact decide_eq_true h
theorem lx_app : ∀ (L : List Int) (x : Int), HT.lexLt L (L ++ [x]) = true
  | [], _ => rfl
  | y :: r, x => by
    show HT.lexLt (y :: r) (y :: (r ++ [x])) = true
    rw [HT.lexLt_cons, if_pos rfl]
    exact lx_app r x
theorem lx_up : ∀ (R : List Int) (z : Int), HT.lexLt (R ++ [z]) (R ++ [z + 1]) = true
  | [], z => lx_head (by omega)
  | y :: r, z => by
    show HT.lexLt (y :: (r ++ [z])) (y :: (r ++ [z + 1])) = true
    rw [HT.lexLt_cons, if_pos rfl]
    exact lx_up r z
/-- a label behind all others -/
theorem rise_snoc {Ls : List (List Int)} {M N : List Int} (p : (Ls ++ [M]).Pairwise fun a b => HT.lexLt a b = true) (h : HT.lexLt M N = true) : ((Ls ++ [M]) ++ [N]).Pairwise fun a b => HT.lexLt a b = true := by
  rw [List.pairwise_append]
  refine ⟨p, List.pairwise_singleton _ _, fun a ha b hb => ?_⟩
  rw [List.mem_singleton.mp hb]
  rcases List.mem_append.mp ha with e | e
  · exact lx_trans ((List.pairwise_append.mp p).2.2 a e M (List.mem_singleton.mpr rfl)) h
  · rw [List.mem_singleton.mp e]; exact h
/-- the labels drawn so far: m is the bound of their parts, c the head of the last one -/
def LbOk (m c : Int) (Ls : List (List Int)) : Prop := Ls.Pairwise (fun a b => HT.lexLt a b = true) ∧ (∀ L ∈ Ls, 1 ≤ L.length ∧ L.length ≤ 3 ∧ ∀ i ∈ L, 1 ≤ i ∧ i ≤ m) ∧ (Ls ≠ [] → ∃ Q r, Ls = Q ++ [c :: r]) ∧ 0 ≤ c ∧ c ≤ m
theorem lb_step {m c : Int} {Ls : List (List Int)} (h : LbOk m c Ls) {Q : List (List Int)} {M : List Int} (e : Ls = Q ++ [M]) {c' : Int} {r' : List Int} (lt : HT.lexLt M (c' :: r') = true) (l3 : (c' :: r').length ≤ 3) (b : ∀ i ∈ c' :: r', 1 ≤ i ∧ i ≤ m + 3) : LbOk (m + 3) c' (Ls ++ [c' :: r']) := by
  subst e
  have hc := b c' (List.mem_cons_self ..)
  refine ⟨rise_snoc h.1 lt, fun L hL => ?_, fun _ => ⟨_, r', rfl⟩, by omega, by omega⟩
  rcases List.mem_append.mp hL with e | e
  · have := h.2.1 L e
    exact ⟨this.1, this.2.1, fun i hi => by have := this.2.2 i hi; omega⟩
  · rw [List.mem_singleton.mp e]
    exact ⟨Nat.succ_pos _, l3, b⟩
theorem lb_new {m c : Int} {Ls : List (List Int)} (h : LbOk m c Ls) {k : Int} (h1 : 1 ≤ k) (h3 : k ≤ 3) : LbOk (m + 3) (c + k) (Ls ++ [[c + k]]) := by
  have b : ∀ i ∈ [c + k], 1 ≤ i ∧ i ≤ m + 3 := fun i hi => by
    rw [List.mem_singleton.mp hi]
    have := h.2.2.2
    omega
  by_cases e : Ls = []
  · subst e
    have hc := b (c + k) (List.mem_cons_self ..)
    refine ⟨List.pairwise_singleton _ _, fun L hL => ?_, fun _ => ⟨[], [], rfl⟩, by omega, by omega⟩
    rw [List.mem_singleton.mp hL]
    exact ⟨Nat.le_refl _, (by show 1 ≤ 3; decide), b⟩
  · obtain ⟨Q, r, rfl⟩ := h.2.2.1 e
    exact lb_step h rfl (lx_head (by omega)) (by show 1 ≤ 3; decide) b
theorem lb_down {m c : Int} {Ls : List (List Int)} (h : LbOk m c Ls) {Q : List (List Int)} {r : List Int} (e : Ls = Q ++ [c :: r]) (l : (c :: r).length < 3) {k : Int} (h1 : 1 ≤ k) (h3 : k ≤ 3) : LbOk (m + 3) c (Ls ++ [c :: r ++ [k]]) := by
  have h0 := h.2.2.2
  refine lb_step h e (lx_app (c :: r) k) (by show (r ++ [k]).length + 1 ≤ 3; rw [List.length_append]; exact l) fun i hi => ?_
  rcases List.mem_append.mp (show i ∈ (c :: r) ++ [k] from hi) with g | g
  · have := (h.2.1 (c :: r) (by rw [e]; simp)).2.2 i g
    omega
  · rw [List.mem_singleton.mp g]; omega
/-- the last part raised -/
theorem lb_up {m c : Int} {Ls : List (List Int)} (h : LbOk m c Ls) {Q : List (List Int)} {R : List Int} {z : Int} (e : Ls = Q ++ [R ++ [z]]) : ∃ c' r', R ++ [z + 1] = c' :: r' ∧ LbOk (m + 3) c' (Ls ++ [R ++ [z + 1]]) := by
  have hM := h.2.1 (R ++ [z]) (by rw [e]; simp)
  have key : ∀ c' r', R ++ [z + 1] = c' :: r' → LbOk (m + 3) c' (Ls ++ [R ++ [z + 1]]) := fun c' r' g => by
    rw [g]
    refine lb_step h e (by rw [← g]; exact lx_up R z) ?_ fun i hi => ?_
    · rw [← g]
      have := hM.2.1
      rw [List.length_append] at this ⊢
      exact this
    · rw [← g] at hi
      rcases List.mem_append.mp hi with g | g
      · have := hM.2.2 i (List.mem_append_left _ g)
        omega
      · have := hM.2.2 z (by simp)
        rw [List.mem_singleton.mp g]; omega
  cases R with
  | nil => exact ⟨_, _, rfl, key _ _ rfl⟩
  | cons x t => exact ⟨_, _, rfl, key _ _ rfl⟩
theorem lb_okL {m c : Int} {Ls : List (List Int)} (h : LbOk m c Ls) (hm : m ≤ 99) : ∀ L ∈ Ls, L.length ≤ 3 ∧ L.getLastD 0 ≠ 0 ∧ ∀ i ∈ L, 0 ≤ i ∧ i ≤ 99 := fun L hL => by
  obtain ⟨h1, h3, hb⟩ := h.2.1 L hL
  refine ⟨h3, ?_, fun i hi => by have := hb i hi; omega⟩
  have hne : L ≠ [] := fun e => by rw [e] at h1; cases h1
  rw [List.getLastD_eq_getLast?, List.getLast?_eq_some_getLast hne]
  have := hb _ (List.getLast_mem hne)
  show L.getLast hne ≠ 0
  omega
def lab60 : List (List Int) := (List.range 60).map fun (k : Nat) => [(k : Int) / 9, 1 + (k : Int) % 9]
theorem lab60_ok : lab60.Pairwise (fun a b => HT.lexLt a b = true) ∧ ∀ L ∈ lab60, L.length ≤ 3 ∧ L.getLastD 0 ≠ 0 ∧ ∀ i ∈ L, 0 ≤ i ∧ i ≤ 99 := by
  constructor
  · decide +kernel
  · decide +kernel
theorem lx_irr : ∀ L : List Int, HT.lexLt L L = false
  | [] => rfl
  | x :: r => by rw [HT.lexLt_cons, if_pos rfl, lx_irr r]
theorem stepV_len {xs : List V} (h : xs.length ≤ 8) {w : Int} (hw : 0 ≤ w) : (stepV xs (some w) (some 2)).length ≤ 100 := by
  unfold stepV
  refine Nat.le_trans (List.length_filterMap_le ..) ?_
  unfold sliceRange
  rw [List.length_map, List.length_range]
  show (if (2 : Int) > 0 then (if max 0 (min (if w < 0 then w + (xs.length : Int) else w) (xs.length : Int)) < (xs.length : Int) then ((xs.length : Int) - max 0 (min (if w < 0 then w + (xs.length : Int) else w) (xs.length : Int)) + 2 - 1) / 2 else 0) else _).toNat ≤ 100
  rw [if_pos (by decide)]
  split <;> omega
theorem dLf_inv4 {H : Hp} {v : V} {lf : Lf} (h : Tp H v (dLf lf)) : ∃ (t l f g p : Addr), v = .ref t ∧ H t = some (.tup [.ref l, .ref f, .ref g, .ref p]) ∧ H l = some (.tup (lf.L.map V.int)) ∧ H f = some (.tup (lf.fr.map V.str)) ∧ H g = some (.tup (lf.bk.map V.str)) ∧ H p = some (.tup []) := by
  cases h with
  | tup h r =>
    cases r with
    | cons h1 r =>
      cases r with
      | cons h2 r =>
        cases r with
        | cons h3 r =>
          cases r with
          | cons h4 r =>
            cases r
            obtain ⟨l, rfl, hl⟩ := tpL_inv h1
            obtain ⟨f, rfl, hf⟩ := tpS_inv h2
            obtain ⟨g, rfl, hg⟩ := tpS_inv h3
            cases h4 with
            | tup hp rp =>
              cases rp
              exact ⟨_, l, f, g, _, rfl, h, hl, hf, hg, hp⟩
section
variable {P : Program} {w : World} {K : PySem.W.Frag} {mg : Str → Option Value} {base : Heap}
/-! ### the promises -/
def sp_is_integer (K : PySem.W.Frag) : Sp := fun vs H Q _ => ∃ (v : V) (d : PyData), vs = [v] ∧ Dp K H v d ∧ Q (.bl (isI d)) H
def sp_is_within (K : PySem.W.Frag) : Sp := fun vs H Q _ => ∃ (v : V) (d : PyData) (l m : Int), vs = [v, .int l, .int m] ∧ Dp K H v d ∧ Q (.bl (wI l m d)) H
def sp_is_tuple (K : PySem.W.Frag) : Sp := fun vs H Q _ => ∃ (v : V) (d : PyData), vs = [v] ∧ ((Dp K H v d ∧ ∀ H', Same H H' → Q (.bl (items d).isSome) H') ∨ ∃ a xs, v = .ref a ∧ Seq K H a xs ∧ ∀ H', Same H H' → Q (.bl true) H')
def sz (l m : Int) (d : PyData) : Bool := match items d with
  | some ds => decide (l ≤ (ds.length : Int) ∧ (ds.length : Int) ≤ m)
  | none => false
def sp_is_sized (K : PySem.W.Frag) : Sp := fun vs H Q _ => ∃ (v : V) (d : PyData) (l m : Int), vs = [v, .int l, .int m] ∧ Dp K H v d ∧ ∀ H', Same H H' → Q (.bl (sz l m d)) H'
def sp_is_token (K : PySem.W.Frag) : Sp := fun vs H Q _ => ∃ z : Str, vs = [.str z] ∧ z.length ≤ 200 ∧ Q (.bl (tokB z)) H
def sp_is_row (K : PySem.W.Frag) : Sp := fun vs H Q _ => ∃ z : Str, vs = [.str z] ∧ z.length ≤ 1000 ∧ ∀ H', Same H H' → Q (.bl (rowB z)) H'
def sp_judged_rows (K : PySem.W.Frag) : Sp := fun vs H Q _ => ∃ (a : Addr) (zs : List Str) (l : Nat) (u : Str), vs = [.ref a, .int l, .str u] ∧ H a = some (.tup (zs.map V.str)) ∧ rowsB l zs = true ∧ ∀ H', Same H H' → Q (.ref a) H'
def sp_kept_strokes (K : PySem.W.Frag) : Sp := fun vs H Q _ => ∃ a : Addr, vs = [.ref a] ∧ SqT K H a [] ∧ ∀ p H', Same H H' → H' p = some (.tup []) → Q (.ref p) H'
def sp_judged_pen (K : PySem.W.Frag) : Sp := fun vs H Q _ => ∃ (f b : V) (a : Addr), vs = [f, b, .ref a] ∧ SqT K H a [] ∧ ∀ p H', Same H H' → H' p = some (.tup []) → Q (.ref p) H'
def sp_is_stroke (K : PySem.W.Frag) : Sp := fun vs H Q _ => vs = [.non] ∧ False
def sp_is_place (K : PySem.W.Frag) : Sp := fun vs H Q _ => vs = [.non, .non, .non] ∧ False
def sp_wall (K : PySem.W.Frag) : Sp := fun vs H Q _ => vs = [.non] ∧ False
def sp_Leaf_init (K : PySem.W.Frag) (C : Addr) : Sp := fun vs H Q _ => ∃ (x dx l f b p : Addr) (lf : Lf), vs = [.ref x, .ref l, .ref f, .ref b, .ref p] ∧ H x = some (.ins C dx []) ∧ H l = some (.tup (lf.L.map V.int)) ∧ H f = some (.tup (lf.fr.map V.str)) ∧ H b = some (.tup (lf.bk.map V.str)) ∧ SqT K H p [] ∧ okLf lf ∧
  ∀ H', LfAt C H' (.ref x) lf → (∀ b o, b ≠ x → H b = some o → H' b = some o) → Q .non H'
def sp_judged_leaves (K : PySem.W.Frag) (C : Addr) : Sp := fun vs H Q _ => ∃ (a : Addr) (xs : List V) (bk : List Lf), vs = [.ref a] ∧ H a = some (.lst xs) ∧ LfAll C H xs bk ∧ okBk bk ∧ ∀ p H', Same H H' → H' p = some (.tup xs) → Q (.ref p) H'
def sp_Book_init (K : PySem.W.Frag) (C CB : Addr) : Sp := fun vs H Q _ => ∃ (x dx a : Addr) (xs : List V) (bk : List Lf), vs = [.ref x, .ref a] ∧ H x = some (.ins CB dx []) ∧ H a = some (.lst xs) ∧ LfAll C H xs bk ∧ okBk bk ∧ ∀ H', BkAt C CB H' (.ref x) bk → (∀ b o, b ≠ x → H b = some o → H' b = some o) → Q .non H'
def sp_source (K : PySem.W.Frag) : Sp := fun vs H Q _ => ∃ (a : Addr) (ns : List Int) (k : Nat), vs = [.ref a, .int k] ∧ SqL K H a (ns.map V.int) ∧ ∀ p H', Same H H' → H p = none → Src H' p → Q (.ref p) H'
def sp_pick (K : PySem.W.Frag) : Sp := fun vs H Q _ => ∃ (a : Addr) (m : Int), vs = [.ref a, .int m] ∧ Src H a ∧ 0 ≤ m ∧ m ≤ 1000000 ∧ ∀ r H', Src H' a → But a H H' → 0 ≤ r → (r < m ∨ r = 0 ∧ m = 0) → Q (.int r) H'
def LvAt (H : Hp) (p : Addr) (bk : List Lf) : Prop := ∃ vs, H p = some (.lst vs) ∧ TpAll H vs (bk.map dLf)
def sp_law_is_integer (K : PySem.W.Frag) : Sp := fun vs H Q _ => ∃ i : Int, vs = [.int i] ∧ Q (.bl true) H
/-- a label handed in as a tuple or a list -/
def IL (K : PySem.W.Frag) (H : Hp) (x : V) (L : List Int) : Prop := ∃ l, x = .ref l ∧ (H l = some (.tup (L.map V.int)) ∨ SqL K H l (L.map V.int))
def TL (H : Hp) (x : V) (L : List Int) : Prop := ∃ l, x = .ref l ∧ H l = some (.tup (L.map V.int))
def IP (K : PySem.W.Frag) (H : Hp) (v : V) (p : Pg) : Prop := ∃ a u, v = .ref a ∧ Seq K H a [u, .int p.2] ∧ IL K H u p.1
theorem ip_tp {K : PySem.W.Frag} {H : Hp} {v : V} {p : Pg} (h : Tp H v (dP p)) : IP K H v p := by
  obtain ⟨a, l, rfl, h1, h2⟩ := pg_inv h
  exact ⟨a, _, rfl, .inr (.inl (.inl h1)), l, rfl, .inl h2⟩
def sp_kept_label (K : PySem.W.Frag) : Sp := fun vs H Q _ => ∃ (x : V) (L : List Int), vs = [x] ∧ IL K H x L ∧ okL L ∧ ∀ y H', Same H H' → TL H' y L → Q y H'
def sp_judged_label (K : PySem.W.Frag) : Sp := fun vs H Q _ => ∃ (x : V) (L : List Int), vs = [x] ∧ IL K H x L ∧ okL L ∧ ∀ y H', Same H H' → TL H' y L → Q y H'
def sp_kept_page (K : PySem.W.Frag) : Sp := fun vs H Q _ => ∃ (v : V) (p : Pg), vs = [v] ∧ IP K H v p ∧ okP p ∧ ∀ y H', Same H H' → Tp H' y (dP p) → Q y H'
def sp_write_label (K : PySem.W.Frag) : Sp := fun vs H Q _ => ∃ (x : V) (L : List Int), vs = [x] ∧ IL K H x L ∧ okL L ∧ ∀ H', Same H H' → Q (.str (fL L)) H'
def sp_write_page (K : PySem.W.Frag) : Sp := fun vs H Q _ => ∃ (v : V) (p : Pg), vs = [v] ∧ Tp H v (dP p) ∧ okP p ∧ ∀ H', Same H H' → Q (.str (fP p)) H'
def sp_Book_judged_page (K : PySem.W.Frag) (C CB : Addr) : Sp := fun vs H Q _ => ∃ (v w : V) (bk : List Lf) (p : Pg), vs = [v, w] ∧ BkAt C CB H v bk ∧ IP K H w p ∧ okP p ∧ p.1 ∈ bk.map (·.L) ∧ ∀ y H', Same H H' → Tp H' y (dP p) → Q y H'
def sp_Book_facing (K : PySem.W.Frag) (C CB : Addr) : Sp := fun vs H Q _ => ∃ (v w : V) (bk : List Lf) (p : Pg) (i : Nat), vs = [v, w] ∧ BkAt C CB H v bk ∧ (bk.map (·.L)).Nodup ∧ IP K H w p ∧ okP p ∧ (bk.map (·.L))[i]? = some p.1 ∧ ∀ y H', Same H H' → Dp K H' y (oD dP (facP (bk.map (·.L)) i p.2)) → Q y H'
def sp_true_words (K : PySem.W.Frag) (C CB : Addr) : Sp := fun vs H Q _ => ∃ (v o g : V) (n : Bool) (bk : List Lf) (p r : Pg), vs = [v, o, g, .bl n] ∧ BkAt C CB H v bk ∧ (bk.map (·.L)).Nodup ∧ IP K H o p ∧ IP K H g r ∧ okP p ∧ okP r ∧ p.1 ∈ bk.map (·.L) ∧
  ∀ t H', Same H H' → H' t = some (.tup ((wordsT n p r (facesB (bk.map (·.L)) p r)).map V.str)) → Q (.ref t) H'
def sp_place_word_true (K : PySem.W.Frag) (C CB : Addr) : Sp := fun vs H Q _ => ∃ (v o g : V) (z : Str) (n : Bool) (bk : List Lf) (p r : Pg), vs = [v, o, g, .str z, .bl n] ∧ BkAt C CB H v bk ∧ (bk.map (·.L)).Nodup ∧ IP K H o p ∧ IP K H g r ∧ okP p ∧ okP r ∧ p.1 ∈ bk.map (·.L) ∧
  ∀ H', Same H H' → Q (.bl (placeT n p r (facesB (bk.map (·.L)) p r) z)) H'
def sp_preferred_place (K : PySem.W.Frag) (C CB : Addr) : Sp := fun vs H Q _ => ∃ (v o g : V) (n : Bool) (bk : List Lf) (p r : Pg), vs = [v, o, g, .bl n] ∧ BkAt C CB H v bk ∧ (bk.map (·.L)).Nodup ∧ IP K H o p ∧ IP K H g r ∧ okP p ∧ okP r ∧ p.1 ∈ bk.map (·.L) ∧
  ∀ H', Same H H' → Q (.str (placeW n p r (facesB (bk.map (·.L)) p r))) H'
def LbAt (H : Hp) (a : Addr) (Ls : List (List Int)) : Prop := ∃ vs, H a = some (.lst vs) ∧ TpAll H vs (Ls.map dL)
def sp_label_word (K : PySem.W.Frag) : Sp := fun vs H Q _ => ∃ (a : Addr) (L : List Int), vs = [.ref a] ∧ SqT K H a (L.map V.int) ∧ okL L ∧ ∀ H', Same H H' → Q (.str (fL L)) H'
def sp_page_word (K : PySem.W.Frag) : Sp := fun vs H Q _ => ∃ (v : V) (p : Pg), vs = [v] ∧ Dp K H v (dP p) ∧ okP p ∧ ∀ H', Same H H' → Q (.str (fP p)) H'
def sp_faces (K : PySem.W.Frag) : Sp := fun vs H Q _ => ∃ (a : Addr) (o g : V) (Ls : List (List Int)) (p r : Pg), vs = [.ref a, o, g] ∧ LbAt H a Ls ∧ Ls ≠ [] ∧ Ls.length ≤ 60 ∧ Tp H o (dP p) ∧ Tp H g (dP r) ∧ okP p ∧ okP r ∧ ∀ H', Same H H' → Q (.bl (facesB Ls p r)) H'
def sp_place_true (K : PySem.W.Frag) : Sp := fun vs H Q _ => ∃ (a : Addr) (o g : V) (z : Str) (n : Bool) (Ls : List (List Int)) (p r : Pg), vs = [.ref a, o, g, .str z, .bl n] ∧ LbAt H a Ls ∧ Ls ≠ [] ∧ Ls.length ≤ 60 ∧ Tp H o (dP p) ∧ Tp H g (dP r) ∧ okP p ∧ okP r ∧ ∀ H', Same H H' → Q (.bl (placeT n p r (facesB Ls p r) z)) H'
def sp_place_word (K : PySem.W.Frag) : Sp := fun vs H Q _ => ∃ (a : Addr) (o g : V) (n : Bool) (Ls : List (List Int)) (p r : Pg), vs = [.ref a, o, g, .bl n] ∧ LbAt H a Ls ∧ Ls ≠ [] ∧ Ls.length ≤ 60 ∧ Ls.Nodup ∧ Tp H o (dP p) ∧ Tp H g (dP r) ∧ okP p ∧ okP r ∧ ∀ H', Same H H' → Q (.str (placeW n p r (facesB Ls p r))) H'
def sp_book_labels (K : PySem.W.Frag) : Sp := fun vs H Q _ => ∃ (a : Addr) (m : Int), vs = [.ref a, .int m] ∧ Src H a ∧ 1 ≤ m ∧ m ≤ 4 ∧ ∀ p Ls H', Src H' a → But a H H' → H p = none → LbAt H' p Ls → Ls.Pairwise (fun a b => HT.lexLt a b = true) → (∀ L ∈ Ls, okL L) → Ls ≠ [] → Ls.length ≤ 4 → Q (.ref p) H'
def sp_all_pages (K : PySem.W.Frag) : Sp := fun vs H Q _ => ∃ (a : Addr) (bk : List Lf), vs = [.ref a] ∧ LvAt H a bk ∧ bk.length ≤ 60 ∧ ∀ p vs H', Same H H' → H p = none → H' p = some (.lst vs) → TpAll H' vs ((allP bk).map dP) → Q (.ref p) H'
def Pd : Nat → PyData → Prop
  | 0, _ => False
  | _ + 1, .int _ => True
  | _ + 1, .str z => PyData.strOk z = true
  | n + 1, .tuple ds => ds.length ≤ 1000 ∧ ∀ d ∈ ds, Pd n d
  | _ + 1, _ => False
theorem lay_pd : ∀ (n : Nat) (d : PyData), Pd n d → d.canLay0 = true ∧ d.depth ≤ n
  | 0, _, h => h.elim
  | _ + 1, .int _, _ => ⟨rfl, Nat.zero_le _⟩
  | _ + 1, .str z, h => ⟨h, Nat.zero_le _⟩
  | n + 1, .tuple ds, h => by
    have key : ∀ es : List PyData, (∀ d ∈ es, Pd n d) → PyData.canLayAll0 es = true ∧ PyData.depthAll es ≤ n := by
      intro es
      induction es with
      | nil => exact fun _ => ⟨rfl, Nat.zero_le _⟩
      | cons d r ih =>
        intro hh
        have h1 := lay_pd n d (hh d (List.mem_cons_self ..))
        have h2 := ih fun e he => hh e (List.mem_cons_of_mem _ he)
        refine ⟨?_, ?_⟩
        · show (d.canLay0 && PyData.canLayAll0 r) = true
          rw [h1.1, h2.1]
          rfl
        · show max d.depth (PyData.depthAll r) ≤ n
          omega
    have := key ds h.2
    exact ⟨this.1, Nat.succ_le_succ this.2⟩
  | _ + 1, .none, h => by simp [Pd] at h
  | _ + 1, .bool _, h => by simp [Pd] at h
  | _ + 1, .list _, h => by simp [Pd] at h
  | _ + 1, .dict _, h => by simp [Pd] at h
theorem layl_pd {n : Nat} {ds : List PyData} (h : ∀ d ∈ ds, Pd n d) : (PyData.list ds).canLay0 = true ∧ (PyData.list ds).depth ≤ n + 1 := by
  induction ds with
  | nil => exact ⟨rfl, Nat.succ_le_succ (Nat.zero_le _)⟩
  | cons d r ih =>
    have h1 := lay_pd n d (h d (List.mem_cons_self ..))
    have h2 := ih fun e he => h e (List.mem_cons_of_mem _ he)
    refine ⟨?_, ?_⟩
    · show (d.canLay0 && (PyData.list r).canLay0) = true
      rw [h1.1, h2.1]
      rfl
    · have h3 : PyData.depthAll r + 1 ≤ n + 1 := h2.2
      show max d.depth (PyData.depthAll r) + 1 ≤ n + 1
      omega
theorem shaped_pdl {n : Nat} {ds : List PyData} (h : ∀ d ∈ ds, Pd n d) (hn : n ≤ 60) : SeqAt.shaped (.list ds) = true := by
  have := layl_pd h
  unfold SeqAt.shaped
  rw [Bool.and_eq_true]
  exact ⟨this.1, decide_eq_true (by omega)⟩
theorem eqv_pdl {n : Nat} {ds : List PyData} (h : ∀ d ∈ ds, Pd n d) : PyData.eqv (.list ds) (.list ds) = true := SeqAt.eqv_refl _ (layl_pd h).1
def SokL (l : Lf) : Prop := (∀ z ∈ l.fr, PyData.strOk z = true) ∧ ∀ z ∈ l.bk, PyData.strOk z = true
theorem pd_strs {zs : List Str} (h : ∀ z ∈ zs, PyData.strOk z = true) (l : zs.length ≤ 1000) (n : Nat) : Pd (n + 2) (dS zs) := ⟨by rw [List.length_map]; exact l, fun d hd => by
  obtain ⟨z, hz, rfl⟩ := List.mem_map.mp hd
  exact h z hz⟩
theorem pd_ints {L : List Int} (l : L.length ≤ 1000) (n : Nat) : Pd (n + 2) (dL L) := ⟨by rw [List.length_map]; exact l, fun d hd => by
  obtain ⟨i, _, rfl⟩ := List.mem_map.mp hd
  exact trivial⟩
theorem rowsB_len {m : Nat} {zs : List Str} (h : rowsB m zs = true) : zs.length ≤ 12 := by
  unfold rowsB at h
  simp only [Bool.and_eq_true, decide_eq_true_eq] at h
  exact h.1.2
theorem pd_Lf {l : Lf} (o : okLf l) (s : SokL l) : Pd 3 (dLf l) := by
  have l1 := o.1.1
  have l2 := rowsB_len o.2.1
  have l3 := rowsB_len o.2.2.1
  refine ⟨(by show 4 ≤ 1000; decide), fun d hd => ?_⟩
  rcases List.mem_cons.mp hd with rfl | hd
  · exact pd_ints (by omega) 0
  rcases List.mem_cons.mp hd with rfl | hd
  · exact pd_strs s.1 (by omega) 0
  rcases List.mem_cons.mp hd with rfl | hd
  · exact pd_strs s.2 (by omega) 0
  rw [List.mem_singleton.mp hd]
  exact ⟨Nat.zero_le _, fun _ h => nomatch h⟩
theorem pd_Lfs {bk : List Lf} (ok : okBk bk) (s : ∀ l ∈ bk, SokL l) : ∀ d ∈ bk.map dLf, Pd 3 d := fun d hd => by
  obtain ⟨l, hl, rfl⟩ := List.mem_map.mp hd
  exact pd_Lf (ok.2.1 l hl) (s l hl)
theorem pd_bk {bk : List Lf} (ok : okBk bk) (s : ∀ l ∈ bk, SokL l) : Pd 4 (.tuple (bk.map dLf)) := by
  have := ok.1
  exact ⟨by rw [List.length_map]; omega, pd_Lfs ok s⟩
theorem none_of {H H' : Hp} (s : Same H H') {p : Addr} (n : H' p = none) : H p = none := by
  cases e : H p with
  | none => rfl
  | some o => rw [s _ _ e] at n; cases n
def sp_is_book (K : PySem.W.Frag) (C CB : Addr) : Sp := fun vs H Q _ => ∃ (v : V) (l : Addr) (bk : List Lf), vs = [v, .ref l] ∧ BkAt C CB H v bk ∧ LvAt H l bk ∧ okBk bk ∧ (∀ l ∈ bk, SokL l) ∧ ∀ H', Same H H' → Q (.bl true) H'
def sp_deep_tuple (K : PySem.W.Frag) (n : Nat) : Sp := fun vs H Q _ => ∃ (x : V) (d : PyData), vs = [x] ∧ Dp K H x d ∧ Pd n d ∧ ∀ H', Same H H' → Q (.bl true) H'
def sp_leaves_in (K : PySem.W.Frag) (C CB : Addr) : Sp := fun vs H Q _ => ∃ (v : V) (bk : List Lf), vs = [v] ∧ BkAt C CB H v bk ∧ (∀ l ∈ bk, l.pen = []) ∧ ∀ p us H', Same H H' → H' p = some (.lst us) → TpAll H' us (bk.map dLf) → Q (.ref p) H'
def sp_draw_leaves (K : PySem.W.Frag) : Sp := fun vs H Q _ => ∃ a : Addr, vs = [.ref a] ∧ Src H a ∧ ∀ p bk H', Src H' a → But a H H' → H p = none → LvAt H' p bk → okBk bk → (∀ l ∈ bk, SokL l) → bk ≠ [] → Q (.ref p) H'
def sp_some_spots (K : PySem.W.Frag) : Sp := fun vs H Q _ => ∃ (a b : Addr) (us : List V), vs = [.ref a, .ref b] ∧ Src H a ∧ b ≠ a ∧ H b = some (.lst us) ∧ 1 ≤ us.length ∧ us.length ≤ 1000 ∧ ∀ p (ks : List Int) H', Src H' a → But a H H' → H p = none → H' p = some (.lst (ks.map V.int)) → (∀ i ∈ ks, 0 ≤ i ∧ i < us.length) → ks.length ≤ 8 → Q (.ref p) H'
def sp_goals (K : PySem.W.Frag) : Sp := fun vs H Q _ => ∃ (b : Addr) (us : List V) (i : Int), vs = [.ref b, .int i] ∧ H b = some (.lst us) ∧ us.length ≤ 1000 ∧ 0 ≤ i ∧ i ≤ 1000 ∧ ∀ p ws H', Same H H' → H p = none → H' p = some (.lst ws) → (∀ w ∈ ws, w ∈ us) → Q (.ref p) H'
def sp_words (K : PySem.W.Frag) : Sp := fun vs H Q _ => ∃ (a b : Addr) (us : List V) (g : V) (pgs : List Pg) (r : Pg), vs = [.ref a, .ref b, g] ∧ Src H a ∧ b ≠ a ∧ H b = some (.lst us) ∧ TpAll H us (pgs.map dP) ∧ (∀ p ∈ pgs, okP p) ∧ 1 ≤ pgs.length ∧ pgs.length ≤ 1000 ∧ Tp H g (dP r) ∧ okP r ∧ ∀ p (zs : List Str) H', Src H' a → But a H H' → H p = none → H' p = some (.lst (zs.map V.str)) → Q (.ref p) H'
def sp_pair_right (K : PySem.W.Frag) (C CB : Addr) : Sp := fun vs H Q _ => ∃ (a l : Addr) (v o g : V) (bk : List Lf) (p r : Pg), vs = [.ref a, v, .ref l, o, g] ∧ Src H a ∧ BkAt C CB H v bk ∧ l ≠ a ∧ LvAt H l bk ∧ okBk bk ∧ Tp H o (dP p) ∧ Tp H g (dP r) ∧ p ∈ allP bk ∧ r ∈ allP bk ∧ ∀ H', Src H' a → But a H H' → Q (.bl true) H'
/-- a world: a book and its leaves, laid apart from the source p0 and the row W -/
def WAt (C CB p0 W : Addr) (H : Hp) (v : V) : Prop := ∃ (u l : Addr) (b : V) (bk : List Lf), v = .ref u ∧ (u ≠ p0 ∧ u ≠ W) ∧ (l ≠ p0 ∧ l ≠ W) ∧ H u = some (.lst [b, .ref l]) ∧ BkAt C CB H b bk ∧ LvAt H l bk ∧ okBk bk ∧ (∀ y ∈ bk, SokL y) ∧ bk ≠ []
theorem WAt.put {C CB p0 W : Addr} {H H' : Hp} {v : V} {o : HO} {ws : List V} (s : Same H H') (hW : H' W = some (.lst ws)) (h : WAt C CB p0 W H v) : WAt C CB p0 W (upd H' W o) v := by
  obtain ⟨u, l, b, bk, e, h1, h2, h3, h4, ⟨vs, h5, h6⟩, h7⟩ := h
  have m := (NL.of s).put hW o
  exact ⟨u, l, b, bk, e, h1, h2, by rw [upd_ne h1.2]; exact s _ _ h3, h4.nl m, ⟨vs, by rw [upd_ne h2.2]; exact s _ _ h5, h6.nl m⟩, h7⟩
theorem WAt.but {C CB p0 W : Addr} {H H' : Hp} {v : V} (src : Src H p0) (s : But p0 H H') (h : WAt C CB p0 W H v) : WAt C CB p0 W H' v := by
  obtain ⟨u, l, b, bk, e, h1, h2, h3, h4, ⟨vs, h5, h6⟩, h7⟩ := h
  have n := src.nl s
  exact ⟨u, l, b, bk, e, h1, h2, s _ _ h1.1 h3, h4.nl n, ⟨vs, s _ _ h2.1 h5, h6.nl n⟩, h7⟩
def sp_law (K : PySem.W.Frag) : Sp := fun vs H Q _ => ∃ (a : Addr) (ns : List Int), vs = [.ref a] ∧ SqL K H a (ns.map V.int) ∧ ns.length ≤ 63 ∧ ∀ H', Q (.bl true) H'
theorem ok_wall (T : Tab K mg) : FnOk P w K mg base CX0 1 T.f_wall T.d_wall ["k"] (sp_wall K) := by
  refine T.F_wall.ok sc_wall (fun vs H Q E h => ?_) (fun cdv A outer s H vs Q E hr h => ?_)
  · obtain ⟨rfl, _⟩ := h
    rfl
  · exact h.2.elim
theorem ok_is_integer (T : Tab K mg) : FnOk P w K mg base CX0 1 T.f_is_integer T.d_is_integer ["thing"] (sp_is_integer K) := by
  refine T.F_is_integer.ok sc_is_integer (fun vs H Q E h => ?_) (fun cdv A outer s H vs Q E hr h => ?_)
  · obtain ⟨v, d, rfl, _⟩ := h
    rfl
  · obtain ⟨v, d, rfl, hd, q⟩ := h
    refine ⟨_, (pss_one (ps_ret (pe_and (pe_callB call_isi (by rfl) T.m_isinstance (by decide +kernel) (pa_cons (pv 0) (pa_cons (pe_bltn (v := .ty "int") (u := .type "int") (by rfl) T.m_int (by decide +kernel) rfl) pa_nil))) (pe_one (pe_not (pe_callB call_isi (by rfl) T.m_isinstance (by decide +kernel) (pa_cons (pv 0) (pa_cons (pe_bltn (v := .ty "bool") (u := .type "bool") (by rfl) T.m_bool (by decide +kernel) rfl) pa_nil)))))))), ?_⟩
    cases hd with
    | non => exact ⟨_, rfl, _, _, _, _, _, rfl, .ty "int", .base .non, kit_ty (r := false) (by decide +kernel), false, rfl, q⟩
    | bl b =>
      refine ⟨_, rfl, _, _, _, _, _, rfl, .ty "int", .base (.bl b), kit_ty (by decide +kernel), true, rfl, iteT ?_⟩
      exact ⟨_, rfl, _, _, _, _, _, rfl, .ty "bool", .base (.bl b), kit_ty (r := true) (by decide +kernel), true, rfl, q⟩
    | int i =>
      refine ⟨_, rfl, _, _, _, _, _, rfl, .ty "int", .base (.int i), kit_ty (by decide +kernel), true, rfl, iteT ?_⟩
      exact ⟨_, rfl, _, _, _, _, _, rfl, .ty "bool", .base (.int i), kit_ty (r := false) (by decide +kernel), false, rfl, q⟩
    | str z => exact ⟨_, rfl, _, _, _, _, _, rfl, .ty "int", .base (.str z), kit_ty (r := false) (by decide +kernel), false, rfl, q⟩
    | lst h _ => exact ⟨_, rfl, _, _, _, _, _, rfl, .ty "int", ty_L h, kit_ty (r := false) (by decide +kernel), false, rfl, q⟩
    | tup h _ => exact ⟨_, rfl, _, _, _, _, _, rfl, .ty "int", ty_T h, kit_ty (r := false) (by decide +kernel), false, rfl, q⟩
theorem ok_is_tuple (T : Tab K mg) : FnOk P w K mg base CX0 1 T.f_is_tuple T.d_is_tuple ["thing"] (sp_is_tuple K) := by
  refine T.F_is_tuple.ok sc_is_tuple (fun vs H Q E h => ?_) (fun cdv A outer s H vs Q E hr h => ?_)
  · obtain ⟨v, d, rfl, _⟩ := h
    rfl
  · obtain ⟨v, d, rfl, hq⟩ := h
    refine ⟨_, (pss_one (ps_ret (pe_callB call_isiT (by rfl) T.m_isinstance (by decide +kernel) (pa_cons (pv 0) (pa_cons (pe_tup (pa_cons (pe_bltn (v := .ty "tuple") (u := .type "tuple") (by rfl) T.m_tuple (by decide +kernel) rfl) (pa_cons (pe_bltn (v := .ty "list") (u := .type "list") (by rfl) T.m_list (by decide +kernel) rfl) pa_nil))) pa_nil))))), ?_⟩
    refine ⟨_, rfl, (by show 2 ≤ sizeLine; decide), fun tp ntp => ?_⟩
    have s1 := same_upd (o := .tup [.ty "tuple", .ty "list"]) ntp
    rcases hq with ⟨hd, q⟩ | ⟨a, xs, rfl, hs, q⟩
    · have q1 := q _ s1
      cases hd with
      | lst h _ => exact ⟨_, tp, _, _, _, true, rfl, upd_same, .cons (.ty "tuple") (.cons (.ty "list") .nil), ty_L (s1.seq h), kit2_L, q1⟩
      | tup h _ => exact ⟨_, tp, _, _, _, true, rfl, upd_same, .cons (.ty "tuple") (.cons (.ty "list") .nil), ty_T (same_seqT s1 h), kit2_T, q1⟩
      | non => exact ⟨_, tp, _, _, _, false, rfl, upd_same, .cons (.ty "tuple") (.cons (.ty "list") .nil), .base .non, kit2_no (by decide +kernel) (by decide +kernel), q1⟩
      | bl b => exact ⟨_, tp, _, _, _, false, rfl, upd_same, .cons (.ty "tuple") (.cons (.ty "list") .nil), .base (.bl b), kit2_no (by decide +kernel) (by decide +kernel), q1⟩
      | int i => exact ⟨_, tp, _, _, _, false, rfl, upd_same, .cons (.ty "tuple") (.cons (.ty "list") .nil), .base (.int i), kit2_no (by decide +kernel) (by decide +kernel), q1⟩
      | str z => exact ⟨_, tp, _, _, _, false, rfl, upd_same, .cons (.ty "tuple") (.cons (.ty "list") .nil), .base (.str z), kit2_no (by decide +kernel) (by decide +kernel), q1⟩
    · have q1 := q _ s1
      rcases hs with h | h
      · exact ⟨_, tp, _, _, _, true, rfl, upd_same, .cons (.ty "tuple") (.cons (.ty "list") .nil), ty_L (s1.seq h), kit2_L, q1⟩
      · exact ⟨_, tp, _, _, _, true, rfl, upd_same, .cons (.ty "tuple") (.cons (.ty "list") .nil), ty_T (same_seqT s1 h), kit2_T, q1⟩
theorem ok_is_token (T : Tab K mg) : FnOk P w K mg base CX0 1 T.f_is_token T.d_is_token ["thing"] (sp_is_token K) := by
  refine T.F_is_token.ok sc_is_token (fun vs H Q E h => ?_) (fun cdv A outer s H vs Q E hr h => ?_)
  · obtain ⟨z, rfl, _⟩ := h
    rfl
  · obtain ⟨z, rfl, hz, q⟩ := h
    refine ⟨_, (pss_one (ps_ret (pe_and (pe_callB call_isi (by rfl) T.m_isinstance (by decide +kernel) (pa_cons (pv 0) (pa_cons (pe_bltn (v := .ty "str") (u := .type "str") (by rfl) T.m_str (by decide +kernel) rfl) pa_nil))) (pe_and (pe_chain op_le op_le pe_int (pe_callB call_len_str (by rfl) T.m_len PySem.boot_len (pa_cons (pv 0) pa_nil)) (pe_glob (v := .int 20) (by rfl) T.c_MOST_SIGNS ⟨_, rfl⟩)) (pe_one (pe_cmpR op_notIn_sign pe_str (pv 0) rfl)))))), ?_⟩
    refine ⟨_, rfl, _, _, _, _, _, rfl, .ty "str", .base (.str z), kit_ty (by decide +kernel), true, rfl, iteT ?_⟩
    have no : ∀ (P : Prop) [Decidable P], tokB z = decide P → ¬ P → Q (.bl false) H := fun P _ e n => by rw [e, decide_eq_false n] at q; exact q
    have tk : tokB z = decide (1 ≤ z.length ∧ z.length ≤ 20 ∧ 32 ∉ z.cps.toList) := by
      unfold tokB
      rw [Bool.eq_iff_iff]
      simp only [Bool.and_eq_true, decide_eq_true_eq, and_assoc]
    refine ⟨_, rfl, z, rfl, Nat.le_of_lt (small1000 (by omega)), _, _, rfl, rfl, _, rfl, ite2 (fun e => ?_) (fun e => ?_)⟩
    · have e1 : (1 : Int) ≤ z.length := of_decide_eq_true e
      refine ⟨_, _, rfl, rfl, _, rfl, ite2 (fun e2 => ?_) (fun e2 => ?_)⟩
      · have e2' : (z.length : Int) ≤ 20 := of_decide_eq_true e2
        refine ⟨_, rfl, 32, z, (by rfl), rfl, ?_⟩
        rw [tk] at q
        have ee : (!decide (32 ∈ z.cps.toList)) = decide (1 ≤ z.length ∧ z.length ≤ 20 ∧ 32 ∉ z.cps.toList) := by
          rw [← decide_not]
          exact decide_eq_decide.mpr ⟨fun h => ⟨by omega, by omega, h⟩, fun h => h.2.2⟩
        rw [ee]
        exact q
      · exact no _ tk fun h => e2 (decide_eq_true (by have := h.2.1; omega))
    · exact ⟨_, rfl, iteF (no _ tk fun h => e (decide_eq_true (by have := h.1; omega)))⟩
theorem ok_is_place (T : Tab K mg) : FnOk P w K mg base CX0 1 T.f_is_place T.d_is_place ["front", "back", "place"] (sp_is_place K) := by
  refine T.F_is_place.ok sc_is_place (fun vs H Q E h => ?_) (fun cdv A outer s H vs Q E hr h => ?_)
  · obtain ⟨rfl, _⟩ := h
    rfl
  · exact h.2.elim
theorem ok_source (T : Tab K mg) : FnOk P w K mg base CX0 1 T.f_source T.d_source ["_law_script", "_law_k"] (sp_source K) := by
  refine T.F_source.ok sc_source (fun vs H Q E h => ?_) (fun cdv A outer s H vs Q E hr h => ?_)
  · obtain ⟨a, ns, k, rfl, _⟩ := h
    rfl
  · obtain ⟨a, ns, k, rfl, hS, q⟩ := h
    refine ⟨_, (C8.pss_cut (ps_set (i := 2) sc_source.nd rfl (.inl rfl) (pe_ifExp (pt_cmpR op_lt (pv 1) (pe_callB call_len_seq (by rfl) T.m_len PySem.boot_len (pa_cons (pv 0) pa_nil)) (nomark _)) (pe_ix ix_list (pv 0) (pv 1) (fun _ _ => rfl)) (pe_op op_add (pe_op op_mod (pe_callTy call_int1 (by rfl) T.m_int (by decide +kernel) (pa_cons (pe_op op_add (pe_callB (cr_sum rfl) (by rfl) T.m_sum (by decide +kernel) (pa_cons (pe_slice sl_list (pv 0) po_none (po_some pe_int)) pa_nil)) (pe_op op_mul pe_int (pe_callB (cr_sum rfl) (by rfl) T.m_sum (by decide +kernel) (pa_cons (pe_slice sl_list (pv 0) (po_some pe_int) (po_some pe_int)) pa_nil)))) pa_nil)) pe_int) (pe_op op_mul pe_int (pv 1)))))
      (pss_cons (ps_set (i := 3) sc_source.nd rfl (.inl rfl) (pe_callB call_abs (by rfl) T.m_abs (by decide +kernel) (pa_cons (pv 2) pa_nil)))
      (C8.pss_cut (ps_set (i := 4) sc_source.nd rfl (.inl rfl) (pe_ifExp (pt_cmpR op_ge (pv 3) pe_int (nomark _)) (pv 3) pe_int))
      (pss_one (ps_ret (pe_lst (pa_cons (pv 4) (pa_cons (pe_op op_mod (pe_callTy call_int1 (by rfl) T.m_int (by decide +kernel) (pa_cons (pe_op op_add (pe_op op_add (pe_op op_add (pe_op op_mul (pv 3) pe_int) (pe_callTy call_int1 (by rfl) T.m_int (by decide +kernel) (pa_cons (pe_cmpR op_lt (pv 2) pe_int (nomark _)) pa_nil))) (pe_op op_mul pe_int (pv 1))) pe_int) pa_nil)) pe_int) (pa_cons pe_int pa_nil))))))))), ?_⟩
    refine ⟨fun σ' H' => ∃ c : Int, σ' = [some (.ref a), some (.int k), some (.int c), none, none] ∧ Same H H', ?_, ?_⟩
    · refine ⟨_, rfl, _, rfl, _, _, rfl, .inl hS, _, _, rfl, rfl, _, rfl, ite2 (fun e => ?_) (fun e => ?_)⟩
      · have e1 : (k : Int) < ((ns.map V.int).length : Int) := of_decide_eq_true e
        rw [List.length_map] at e1
        have hk : k < ns.length := by omega
        have g : (ns.map V.int)[k]? = some (.int ns[k]) := by
          rw [List.getElem?_map, List.getElem?_eq_getElem hk]
          rfl
        exact ⟨_, rfl, _, rfl, _, _, _, _, rfl, rfl, hS, atI_nat g, _, rfl, Same.refl H⟩
      · refine ⟨_, rfl, 1, rfl, _, _, rfl, hS, fun p1 n1 => ?_⟩
        obtain ⟨m1, c1⟩ := cut_map ns none (some 1)
        rw [c1]
        have s1 : Same H (upd H p1 (.lst (m1.map V.int))) := same_upd n1
        refine ⟨_, m1, rfl, .inl (.inl upd_same), _, rfl, 1, rfl, 2, rfl, _, _, rfl, s1.seq hS, fun p2 n2 => ?_⟩
        obtain ⟨m2, c2⟩ := cut_map ns (some 1) (some 2)
        rw [c2]
        refine ⟨_, m2, rfl, .inl (.inl upd_same), _, _, rfl, rfl, .inl ⟨by decide, by decide⟩, _, _, rfl, rfl, .inl ⟨_, rfl, _, _, rfl, rfl, (by show (0 : Int) < 1000003; decide), _, rfl, _, _, rfl, rfl, .inl ⟨by decide, by decide⟩, _, _, rfl, rfl, _, rfl, s1.trans (same_upd n2)⟩⟩
    · rintro σ' H1 ⟨c, rfl, s1⟩
      refine ⟨_, rfl, _, rfl, ?_⟩
      refine ⟨fun σ' H' => ∃ n g : Int, σ' = [some (.ref a), some (.int k), some (.int c), some (.int n), some (.int g)] ∧ H' = H1, ?_, ?_⟩
      · refine ⟨_, rfl, _, _, rfl, rfl, _, rfl, ite2 (fun e => ?_) (fun e => ?_)⟩
        · exact ⟨_, rfl, _, _, rfl, rfl⟩
        · exact ⟨_, _, rfl, rfl⟩
      · rintro σ' H' ⟨n, g, rfl, rfl⟩
        refine ⟨_, rfl, _, rfl, _, _, rfl, rfl, .inr ⟨by decide, by decide⟩, _, rfl, _, _, rfl, rfl, .inr ⟨_, rfl, _, _, rfl, rfl, _, rfl, _, _, rfl, rfl, .inl ⟨by decide, by decide⟩, _, _, rfl, rfl, _, _, rfl, rfl, .inl ⟨_, rfl, _, _, rfl, rfl, (by show (0 : Int) < 2147483647; decide), ?_⟩⟩⟩
        refine ⟨(by show 3 ≤ sizeLine; decide), fun p np => ?_⟩
        exact q p _ (s1.trans (same_upd np)) (s1.free np) ⟨_, _, _, upd_same⟩
theorem ok_pick (T : Tab K mg) : FnOk P w K mg base CX0 1 T.f_pick T.d_pick ["_law_source_here", "_law_many"] (sp_pick K) := by
  refine T.F_pick.ok sc_pick (fun vs H Q E h => ?_) (fun cdv A outer s H vs Q E hr h => ?_)
  · obtain ⟨a, m, rfl, _⟩ := h
    rfl
  · obtain ⟨a, m, rfl, ⟨g, x, c, hs⟩, h1, h2, q⟩ := h
    refine ⟨_, (pss_cons (ps_if (pt_cmpR op_lt (pv 1) pe_int (nomark _))
      (pss_one (ps_ret pe_int))
      pss_nil)
      (pss_cons (ps_if (pt_cmpR op_gt (pe_ix ix_list (pv 0) pe_int (fun _ _ => rfl)) pe_int (nomark _))
      (pss_cons (ps_set (i := 2) sc_pick.nd rfl (.inl rfl) (pe_op op_mod (pe_callTy call_int1 (by rfl) T.m_int (by decide +kernel) (pa_cons (pe_ix ix_list (pv 0) pe_int (fun _ _ => rfl)) pa_nil)) (pv 1)))
        (pss_cons (ps_asg (pe_op op_fdiv (pe_ix ix_list (pv 0) pe_int (fun _ _ => rfl)) (pv 1)) (pg_sub (pv 0) pe_int set_list))
        (pss_one (ps_ret (pv 2)))))
      pss_nil)
      (pss_cons (ps_asg (pe_op op_add (pe_ix ix_list (pv 0) pe_int (fun _ _ => rfl)) pe_int) (pg_sub (pv 0) pe_int set_list))
      (pss_cons (ps_asg (pe_op op_mod (pe_callTy call_int1 (by rfl) T.m_int (by decide +kernel) (pa_cons (pe_op op_add (pe_op op_add (pe_op op_mul (pe_ix ix_list (pv 0) pe_int (fun _ _ => rfl)) pe_int) (pe_op op_mul (pe_ix ix_list (pv 0) pe_int (fun _ _ => rfl)) pe_int)) pe_int) pa_nil)) pe_int) (pg_sub (pv 0) pe_int set_list))
      (pss_one (ps_ret (pe_op op_mod (pe_callTy call_int1 (by rfl) T.m_int (by decide +kernel) (pa_cons (pe_op op_fdiv (pe_op op_mod (pe_callTy call_int1 (by rfl) T.m_int (by decide +kernel) (pa_cons (pe_op op_add (pe_op op_add (pe_op op_mul (pe_ix ix_list (pv 0) pe_int (fun _ _ => rfl)) pe_int) (pe_op op_mul (pe_ix ix_list (pv 0) pe_int (fun _ _ => rfl)) pe_int)) pe_int) pa_nil)) pe_int) pe_int) pa_nil)) (pv 1)))))))), ?_⟩
    refine ⟨_, rfl, _, _, rfl, rfl, _, rfl, ite2 (fun e => ?_) (fun e => ?_)⟩
    · exact q 0 H ⟨g, x, c, hs⟩ (But.refl a H) (by decide) (by omega)
    · have hm : ¬ m < 2 := fun z => e (decide_eq_true z)
      refine ⟨_, rfl, _, _, _, _, rfl, rfl, .inl (.inl hs), rfl, _, _, rfl, rfl, _, rfl, ite2 (fun e => ?_) (fun e => ?_)⟩
      · refine ⟨_, rfl, _, _, _, _, rfl, rfl, .inl (.inl hs), rfl, .inl ⟨_, rfl, _, rfl, _, _, rfl, rfl, (by omega), ?_⟩⟩
        refine ⟨_, rfl, _, _, _, _, rfl, rfl, .inl (.inl hs), rfl, _, rfl, _, _, rfl, rfl, ⟨by omega, by omega⟩, ?_⟩
        refine ⟨_, rfl, _, _, _, _, rfl, rfl, hs, rfl, ?_⟩
        refine ⟨_, rfl, ?_⟩
        exact q _ _ ⟨_, _, _, upd_same⟩ (But.upd _) (Int.emod_nonneg _ (by omega)) (.inl (Int.emod_lt_of_pos _ (by omega)))
      · refine ⟨_, rfl, _, _, _, _, rfl, rfl, .inl (.inl hs), rfl, _, _, rfl, rfl, _, rfl, _, _, _, _, rfl, rfl, hs, rfl, ?_⟩
        refine ⟨_, rfl, _, _, _, _, rfl, rfl, .inl (.inl upd_same), rfl, _, _, rfl, rfl, .inr ⟨by decide, by decide⟩, _, rfl, _, _, _, _, rfl, rfl, .inl (.inl upd_same), rfl, _, _, rfl, rfl, .inr ⟨by decide, by decide⟩, _, _, rfl, rfl, _, _, rfl, rfl, .inl ⟨_, rfl, _, _, rfl, rfl, (by show (0 : Int) < 2147483647; decide), ?_⟩⟩
        refine ⟨_, rfl, _, _, _, _, rfl, rfl, upd_same, rfl, ?_⟩
        refine ⟨_, rfl, _, _, _, _, rfl, rfl, .inl (.inl upd_same), rfl, _, _, rfl, rfl, .inr ⟨by decide, by decide⟩, _, rfl, _, _, _, _, rfl, rfl, .inl (.inl upd_same), rfl, _, _, rfl, rfl, .inr ⟨by decide, by decide⟩, _, _, rfl, rfl, _, _, rfl, rfl, .inl ⟨_, rfl, _, _, rfl, rfl, (by show (0 : Int) < 2147483629; decide), _, _, rfl, rfl, ⟨by decide, by decide⟩, .inl ⟨_, rfl, _, rfl, _, _, rfl, rfl, (by omega), ?_⟩⟩⟩
        exact q _ _ ⟨_, _, _, upd_same⟩ (((But.upd _).trans (But.upd _))) (Int.emod_nonneg _ (by omega)) (.inl (Int.emod_lt_of_pos _ (by omega)))
theorem ok_law_is_integer (T : Tab K mg) : FnOk P w K mg base CX0 1 T.f_law_is_integer T.d_law_is_integer ["_law_actual"] (sp_law_is_integer K) := by
  refine T.F_law_is_integer.ok sc_law_is_integer (fun vs H Q E h => ?_) (fun cdv A outer s H vs Q E hr h => ?_)
  · obtain ⟨i, rfl, _⟩ := h
    rfl
  · obtain ⟨i, rfl, q⟩ := h
    refine ⟨_, (pss_one (ps_ret (pe_and (pe_callB call_isi (by rfl) T.m_isinstance (by decide +kernel) (pa_cons (pv 0) (pa_cons (pe_bltn (v := .ty "int") (u := .type "int") (by rfl) T.m_int (by decide +kernel) rfl) pa_nil))) (pe_one (pe_not (pe_callB call_isi (by rfl) T.m_isinstance (by decide +kernel) (pa_cons (pv 0) (pa_cons (pe_bltn (v := .ty "bool") (u := .type "bool") (by rfl) T.m_bool (by decide +kernel) rfl) pa_nil)))))))), ?_⟩
    refine ⟨_, rfl, _, _, _, _, _, rfl, .ty "int", .base (.int i), kit_ty (by decide +kernel), true, rfl, iteT ?_⟩
    exact ⟨_, rfl, _, _, _, _, _, rfl, .ty "bool", .base (.int i), kit_ty (r := false) (by decide +kernel), false, rfl, q⟩
theorem ok_label_word (T : Tab K mg) : FnOk P w K mg base CX0 1 T.f_label_word T.d_label_word ["_law_label"] (sp_label_word K) := by
  refine T.F_label_word.ok sc_label_word (fun vs H Q E h => ?_) (fun cdv A outer s H vs Q E hr h => ?_)
  · obtain ⟨a, L, rfl, _⟩ := h
    rfl
  · obtain ⟨a, L, rfl, hp, hL, q⟩ := h
    refine ⟨_, (pss_one (ps_ret (pe_join pe_str (pe_lc (own := [("_law_part", 1)]) (g := gName 1) (by rfl) sc_label_word.nd (pi_tup (pv 0)) (blkOk_by (own := [("_law_part", 1)]) (N := N_label_word) (sc := defScope s_label_word) (by decide +kernel)) (fun _ _ _ _ _ => pg_name (i := 1) sc_label_word.nd rfl (.inl rfl)) (fun _ _ _ _ _ => pts_nil) (fun _ _ _ _ _ => (pe_callTy call_str_int (by rfl) T.m_str (by decide +kernel) (pa_cons (pv 1) pa_nil))))))), ?_⟩
    have s1 := Same.refl H
    refine ⟨⟨_, rfl⟩, _, rfl, a, rfl, ⟨_, hp⟩, fun D nD => ?_⟩
    refine lc_tup (xs := L.map V.int) (fun i H' => Same _ H' ∧ H' D = some (.lst (((L.take i).map fun i => (toString i : Str)).map V.str))) ⟨same_upd nD, upd_same⟩ (fun i H' _ hh => same_seqT hh.1 hp) ?_ ?_
    · rintro i x H' hx ⟨sm, eD⟩
      obtain ⟨n, rfl, hn⟩ : ∃ n, x = V.int n ∧ L[i]? = some n := by
        rw [List.getElem?_map] at hx
        cases e : L[i]? with
        | none => rw [e] at hx; cases hx
        | some n => rw [e] at hx; exact ⟨n, (Option.some.inj hx).symm, rfl⟩
      have hb := hL.2.2 n (List.mem_of_getElem? hn)
      have hl := hL.1
      refine ⟨rfl, ?_⟩
      refine ⟨_, rfl, n, rfl, log_small (by omega), _, eD, ?_, same_put sm nD _, ?_⟩
      · rw [List.length_map, List.length_map, List.length_take]; exact small1000 (by omega)
      · rw [upd_same, List.take_add_one, hn, List.map_append, List.map_append]; rfl
    rintro H' ⟨sm, eD⟩
    rw [List.length_map, List.take_length] at eD
    refine ⟨_, D, _, rfl, rfl, .inl (.inl (.inl eD)), ?_, q H' (s1.trans sm)⟩
    exact num_fit hL
theorem ok_faces (T : Tab K mg) : FnOk P w K mg base CX0 1 T.f_faces T.d_faces ["_law_labels", "_law_one", "_law_other"] (sp_faces K) := by
  refine T.F_faces.ok sc_faces (fun vs H Q E h => ?_) (fun cdv A outer s H vs Q E hr h => ?_)
  · obtain ⟨a, o, g, Ls, p, r, rfl, _⟩ := h
    rfl
  · obtain ⟨a, o, g, Ls, p, r, rfl, ⟨us, ha, tu⟩, ne, h60, ho, hg, okp, okr, q⟩ := h
    refine ⟨_, (C8.pss_cut (ps_set (i := 3) sc_faces.nd rfl (.inl rfl) (pe_ifExp (pt_cmpR op_eq (pe_ix ix_tup (pv 1) pe_int (fun _ _ => rfl)) pe_int (nomark _)) (pv 1) (pv 2)))
      (C8.pss_cut (ps_set (i := 4) sc_faces.nd rfl (.inl rfl) (pe_ifExp (pt_cmpR op_eq (pe_ix ix_tup (pv 1) pe_int (fun _ _ => rfl)) pe_int (nomark _)) (pv 2) (pv 1)))
      (pss_cons (ps_setLc (i := 5) (own := [("_law_k", 6)]) (g := gName 6) (by rfl) sc_faces.nd rfl rfl (sw_true rfl rfl rfl (by decide +kernel)) (pi_range1 (by rfl) T.m_range (pa_cons (pe_op op_sub (pe_callB call_len_seq (by rfl) T.m_len PySem.boot_len (pa_cons (pv 0) pa_nil)) pe_int) pa_nil)) (blkOk_by (own := [("_law_k", 6)]) (N := N_faces) (sc := defScope s_faces) (by decide +kernel)) (fun _ _ _ _ _ => pg_name (i := 6) sc_faces.nd rfl (.inl rfl)) (fun _ _ _ _ _ => pts_nil) (fun _ _ _ _ _ => (pe_tup (pa_cons (pe_ix (ix_listK (K := K) rfl) (pv 0) (pv 6) (fun _ _ => rfl)) (pa_cons (pe_ix (ix_listK (K := K) rfl) (pv 0) (pe_op op_add (pv 6) pe_int) (fun _ _ => rfl)) pa_nil)))))
      (pss_one (ps_ret (pe_and (pe_cmpR op_ne (pe_ix ix_tup (pv 1) pe_int (fun _ _ => rfl)) (pe_ix ix_tup (pv 2) pe_int (fun _ _ => rfl)) (nomark _)) (pe_one (pe_cmpR (op_inDD (un2 hr)) (pe_tup (pa_cons (pe_ix ix_tup (pv 3) pe_int (fun _ _ => rfl)) (pa_cons (pe_ix ix_tup (pv 4) pe_int (fun _ _ => rfl)) pa_nil))) (pv 5) (by rfl))))))))), ?_⟩
    have len := tu.len
    rw [List.length_map] at len
    obtain ⟨a1, b1, rfl, ha1, hb1⟩ := pg_inv ho
    obtain ⟨a2, b2, rfl, ha2, hb2⟩ := pg_inv hg
    refine ⟨fun σ' H' => ∃ (x : Addr) (l : Addr) (L : List Int) (s : Int), σ' = [some (.ref a), some (.ref a1), some (.ref a2), some (.ref x), none, none, none] ∧ H = H' ∧ H x = some (.tup [.ref l, .int s]) ∧ H l = some (.tup (L.map V.int)) ∧ L = (if p.2 = 1 then p.1 else r.1), ?_, ?_⟩
    · refine ⟨_, rfl, a1, _, 1, _, rfl, rfl, .inl (.inl ha1), rfl, rfl, _, rfl, ite2 (fun e => ?_) (fun e => ?_)⟩
      · have e1 : p.2 = 1 := V.int.inj (of_decide_eq_true e)
        exact ⟨_, rfl, a1, b1, p.1, p.2, rfl, rfl, ha1, hb1, by rw [if_pos e1]⟩
      · have e1 : ¬ p.2 = 1 := fun h => e (decide_eq_true (congrArg V.int h))
        exact ⟨_, rfl, a2, b2, r.1, r.2, rfl, rfl, ha2, hb2, by rw [if_neg e1]⟩
    rintro σ' H' ⟨x, xl, xL, xs, rfl, rfl, hx, hxl, exL⟩
    refine ⟨fun σ' H' => ∃ (y : Addr) (l : Addr) (L : List Int) (s : Int), σ' = [some (.ref a), some (.ref a1), some (.ref a2), some (.ref x), some (.ref y), none, none] ∧ H = H' ∧ H y = some (.tup [.ref l, .int s]) ∧ H l = some (.tup (L.map V.int)) ∧ L = (if p.2 = 1 then r.1 else p.1), ?_, ?_⟩
    · refine ⟨_, rfl, a1, _, 1, _, rfl, rfl, .inl (.inl ha1), rfl, rfl, _, rfl, ite2 (fun e => ?_) (fun e => ?_)⟩
      · have e1 : p.2 = 1 := V.int.inj (of_decide_eq_true e)
        exact ⟨_, rfl, a2, b2, r.1, r.2, rfl, rfl, ha2, hb2, by rw [if_pos e1]⟩
      · have e1 : ¬ p.2 = 1 := fun h => e (decide_eq_true (congrArg V.int h))
        exact ⟨_, rfl, a1, b1, p.1, p.2, rfl, rfl, ha1, hb1, by rw [if_neg e1]⟩
    rintro σ' H'' ⟨y, yl, yL, ys, rfl, rfl, hy, hyl, eyL⟩
    refine ⟨_, rfl, a, us, rfl, .inl (.inl (.inl ha)), _, _, rfl, rfl, _, rfl, by omega, by omega, fun D nD => ?_⟩
    refine lc_range (lo := 0) (n := ((us.length : Int) - 1).toNat) (fun j H' => Same H H' ∧ ∃ ws, H' D = some (.lst ws) ∧ TpAll H' ws (((Ls.zip (Ls.drop 1)).take j).map dLL)) ⟨same_upd nD, [], upd_same, .nil⟩ ?_ ?_
    · rintro j H1 hj ⟨s1, ws, eD, tw⟩
      have hjn : j + 1 < us.length := by omega
      obtain ⟨v1, ev1⟩ : ∃ v, us[j]? = some v := ⟨_, List.getElem?_eq_getElem (by omega)⟩
      obtain ⟨v2, ev2⟩ : ∃ v, us[j + 1]? = some v := ⟨_, List.getElem?_eq_getElem hjn⟩
      obtain ⟨d1, ed1, td1⟩ := tu.get ev1
      obtain ⟨d2, ed2, td2⟩ := tu.get ev2
      obtain ⟨L1, e1, rfl⟩ : ∃ L, Ls[j]? = some L ∧ d1 = dL L := by
        rw [List.getElem?_map] at ed1
        cases e : Ls[j]? with
        | none => rw [e] at ed1; cases ed1
        | some l => rw [e] at ed1; exact ⟨l, rfl, (Option.some.inj ed1).symm⟩
      obtain ⟨L2, e2, rfl⟩ : ∃ L, Ls[j + 1]? = some L ∧ d2 = dL L := by
        rw [List.getElem?_map] at ed2
        cases e : Ls[j + 1]? with
        | none => rw [e] at ed2; cases ed2
        | some l => rw [e] at ed2; exact ⟨l, rfl, (Option.some.inj ed2).symm⟩
      have lw : ws.length ≤ 60 := by rw [tw.len, List.length_map, List.length_take]; omega
      refine ⟨rfl, ?_⟩
      refine ⟨_, rfl, _, rfl, a, us, _, v1, rfl, rfl, .inl (.inl (s1 _ _ ha)), at_of' (Int.zero_add _) ev1, _, rfl, _, rfl, _, _, rfl, rfl, a, us, _, v2, rfl, rfl, .inl (.inl (s1 _ _ ha)), at_of' (j := j + 1) (by omega) ev2, (by show 2 ≤ sizeLine; decide), fun t nt => ?_⟩
      have s2 := same_upd (o := .tup [v1, v2]) nt
      have e3 := s2 _ _ eD
      have m := (NL.refl _).put e3 (.lst (ws ++ [.ref t]))
      have ez : (Ls.zip (Ls.drop 1))[j]? = some (L1, L2) := by
        rw [List.getElem?_zip_eq_some, List.getElem?_drop, Nat.add_comm]
        exact ⟨e1, e2⟩
      refine ⟨ws, e3, small1000 (by omega), same_put (s1.trans s2) nD _, ws ++ [.ref t], upd_same, ?_⟩
      rw [List.take_add_one, ez, List.map_append]
      exact ((tw.nl (NL.of s2)).nl m).snoc (Tp.nl m (.tup upd_same (.cons (td1.nl (NL.of (s1.trans s2))) (.cons (td2.nl (NL.of (s1.trans s2))) .nil))))
    · rintro H1 ⟨s1, ws, eD, tw⟩
      have lz : (Ls.zip (Ls.drop 1)).length ≤ ((us.length : Int) - 1).toNat := by rw [List.length_zip, List.length_drop]; omega
      rw [List.take_of_length_le lz] at tw
      have fq : facesB Ls p r = (decide (p.2 ≠ r.2) && nxtB Ls xL yL) := by rw [exL, eyL]; rfl
      have qq := fun H' s => q H' s
      rw [fq] at qq
      have hx1 := s1 _ _ hx
      have hy1 := s1 _ _ hy
      refine ⟨_, rfl, a1, _, 1, _, rfl, rfl, .inl (.inl (s1 _ _ ha1)), rfl, _, rfl, a2, _, 1, _, rfl, rfl, .inl (.inl (s1 _ _ ha2)), rfl, rfl, decide (p.2 ≠ r.2), ?_, ?_⟩
      · refine congrArg V.bl ?_
        rw [Bool.eq_iff_iff]
        simp
      cases c : decide (p.2 ≠ r.2) with
      | false =>
        rw [c] at qq
        exact iteF (qq H1 s1)
      | true =>
        rw [c, Bool.true_and] at qq
        refine iteT ⟨_, rfl, x, _, 0, _, rfl, rfl, .inl (.inl hx1), rfl, _, rfl, y, _, 0, _, rfl, rfl, .inl (.inl hy1), rfl, (by show 2 ≤ sizeLine; decide), fun t nt => ?_⟩
        have s2 := same_upd (o := .tup [.ref xl, .ref yl]) nt
        have s02 := s1.trans s2
        refine ⟨_, rfl, dLL (xL, yL), (Ls.zip (Ls.drop 1)).map dLL, .tup (.inl (.inl upd_same)) (.cons (tpL (s02 _ _ hxl)).dp (.cons (tpL (s02 _ _ hyl)).dp .nil)), .inl (.lst (.inl (.inl (s2 _ _ eD))) (tw.nl (NL.of s2)).dp), shaped_pn (pn_LL _) (by decide), shaped_pnl (n := 2) (fun d hd => by obtain ⟨z, _, rfl⟩ := List.mem_map.mp hd; exact pn_LL z) (by decide), ?_⟩
        have := qq _ s02
        unfold nxtB at this
        rw [← any_LL] at this
        rw [Bool.false_bne]
        exact this
theorem ok_all_pages (T : Tab K mg) : FnOk P w K mg base CX0 1 T.f_all_pages T.d_all_pages ["_law_leaves"] (sp_all_pages K) := by
  refine T.F_all_pages.ok sc_all_pages (fun vs H Q E h => ?_) (fun cdv A outer s H vs Q E hr h => ?_)
  · obtain ⟨a, bk, rfl, _⟩ := h
    rfl
  · obtain ⟨a, bk, rfl, ⟨vs, ha, tp⟩, h60, q⟩ := h
    refine ⟨_, (pss_cons (ps_set (i := 1) sc_all_pages.nd rfl (.inl rfl) (pe_lst pa_nil))
      (pss_cons (ps_for PassesOwn.never rfl (pi_list (pv 0)) (pg_name (i := 2) sc_all_pages.nd rfl (.inl rfl))
      (pss_one (ps_set (i := 1) sc_all_pages.nd rfl (.inl rfl) (pe_op op_cat (pv 1) (pe_lst (pa_cons (pe_tup (pa_cons (pe_ix ix_tup (pv 2) pe_int (fun _ _ => rfl)) (pa_cons pe_int pa_nil))) (pa_cons (pe_tup (pa_cons (pe_ix ix_tup (pv 2) pe_int (fun _ _ => rfl)) (pa_cons pe_int pa_nil))) pa_nil)))))))
      (pss_one (ps_ret (pv 1))))), ?_⟩
    have len := tp.len
    rw [List.length_map] at len
    refine ⟨Nat.zero_le _, fun D nD => ?_⟩
    have s0 := same_upd (o := .lst []) nD
    refine ⟨_, rfl, a, rfl, ⟨_, .inl (.inl (s0 _ _ ha))⟩, for_list (xs := vs) (fun i σ' H' => ∃ (c : Addr) (us : List V) (y : Option V), σ' = [some (.ref a), some (.ref c), y] ∧ Same H H' ∧ H c = none ∧ H' c = some (.lst us) ∧ TpAll H' us ((allP (bk.take i)).map dP)) ⟨D, [], none, rfl, s0, nD, upd_same, .nil⟩ (fun i σ' H' _ hh => by obtain ⟨_, _, _, _, s, _⟩ := hh; exact .inl (.inl (s _ _ ha))) ?_ ?_⟩
    · rintro i x σ' H1 hx ⟨c, us, y, rfl, s1, nc, hc, tus⟩
      obtain ⟨d, ed, td⟩ := tp.get hx
      obtain ⟨lf, el, rfl⟩ : ∃ lf, bk[i]? = some lf ∧ d = dLf lf := by
        rw [List.getElem?_map] at ed
        cases e : bk[i]? with
        | none => rw [e] at ed; cases ed
        | some l => rw [e] at ed; exact ⟨l, rfl, (Option.some.inj ed).symm⟩
      obtain ⟨t, u1, u2, u3, u4, rfl, ht, t1, _⟩ := dLf_inv (td.nl (NL.of s1))
      obtain ⟨l, rfl, hl⟩ := tpL_inv t1
      have ul : us.length ≤ 120 := by
        rw [tus.len, List.length_map, allP_len, List.length_take]
        have := (List.getElem?_eq_some_iff.mp el).1
        omega
      refine ⟨_, rfl, _, rfl, t, _, 0, _, rfl, rfl, .inl (.inl ht), rfl, (by show 2 ≤ sizeLine; decide), fun p np => ?_⟩
      have s2 := same_upd (o := .tup [.ref l, .int 0]) np
      refine ⟨_, rfl, t, _, 0, _, rfl, rfl, .inl (.inl (s2 _ _ ht)), rfl, (by show 2 ≤ sizeLine; decide), fun p2 np2 => ?_⟩
      have s3 := same_upd (o := .tup [.ref l, .int 1]) np2
      refine ⟨(by show 2 ≤ sizeLine; decide), fun b nb => ?_⟩
      have s4 := same_upd (o := .lst [.ref p, .ref p2]) nb
      have s24 := (s2.trans s3).trans s4
      refine ⟨c, b, us, _, rfl, rfl, s24 _ _ hc, upd_same, (by show us.length + 2 ≤ sizeLine; rw [show sizeLine = 16777216 by decide]; omega), fun c2 nc2 => ?_⟩
      have s5 := same_upd (o := .lst (us ++ [.ref p, .ref p2])) nc2
      have s25 := s24.trans s5
      refine ⟨c2, _, _, rfl, s1.trans s25, none_of (s1.trans s24) nc2, upd_same, ?_⟩
      rw [List.take_add_one, el]
      show TpAll _ _ ((allP (bk.take i ++ [lf])).map dP)
      rw [allP_snoc, List.map_append]
      exact (tus.nl (NL.of s25)).app (.cons (tpP (p := (lf.L, 0)) ((s3.trans s4).trans s5 _ _ upd_same) (s25 _ _ hl)) (.cons (tpP (p := (lf.L, 1)) ((s4.trans s5) _ _ upd_same) (s25 _ _ hl)) .nil))
    · rintro σ' H1 ⟨c, us, y, rfl, s1, nc, hc, tus⟩
      rw [len, List.take_length] at tus
      exact ⟨_, rfl, q c us H1 s1 nc hc tus⟩
theorem ok_leaves_in (T : Tab K mg) : FnOk P w K mg base CX0 1 T.f_leaves_in T.d_leaves_in ["_law_book"] (sp_leaves_in K T.C_Leaf T.C_Book) := by
  refine T.F_leaves_in.ok sc_leaves_in (fun vs H Q E h => ?_) (fun cdv A outer s H vs Q E hr h => ?_)
  · obtain ⟨v, bk, rfl, _⟩ := h
    rfl
  · obtain ⟨v, bk, rfl, hbk, pen, q⟩ := h
    refine ⟨_, (pss_one (ps_ret (pe_lc (own := [("_law_sheet", 1)]) (g := gName 1) (by rfl) sc_leaves_in.nd (pi_tup (pe_fld (pv 0) rfl)) (blkOk_by (own := [("_law_sheet", 1)]) (N := N_leaves_in) (sc := defScope s_leaves_in) (by decide +kernel)) (fun _ _ _ _ _ => pg_name (i := 1) sc_leaves_in.nd rfl (.inl rfl)) (fun _ _ _ _ _ => pts_nil) (fun _ _ _ _ _ => (pe_tup (pa_cons (pe_fldK (K := K) rfl (pv 1) rfl) (pa_cons (pe_fldK (K := K) rfl (pv 1) rfl) (pa_cons (pe_fldK (K := K) rfl (pv 1) rfl) (pa_cons (pe_fldK (K := K) rfl (pv 1) rfl) pa_nil))))))))), ?_⟩
    obtain ⟨x, dx, la, s, vs, rfl, hx, hl, hf, hs, h60⟩ := hbk
    have len := hf.len
    refine ⟨_, rfl, x, _, dx, _, _, rfl, hx, T.cl_Book, T.na_Book_leaves, fBk_leaves, la, rfl, ⟨_, .inl (.inl hl)⟩, fun D nD => ?_⟩
    refine lc_tp bk (fun l => some (dLf l)) (walkT (xs := vs) len) nD (fun H h => .inl (.inl (h _ _ hl))) (by omega) ?_ ?_
    · rintro i l y H4x H4 er sm ⟨rfl, hy⟩ R N hR hN
      obtain ⟨l', el, hlf⟩ := hf.get hy
      rw [er] at el
      cases el
      have pl := pen l (List.mem_of_getElem? er)
      obtain ⟨z, dz, a1, a2, a3, a4, a5, rfl, hz, h1, h2, h3, h4, h5⟩ := LfAt.nl (NL.of sm) hlf
      refine ⟨rfl, ?_⟩
      refine ⟨_, rfl, z, _, dz, _, _, rfl, hz, T.cl_Leaf, T.na_Leaf_label, fLf_label, _, rfl, z, _, dz, _, _, rfl, hz, T.cl_Leaf, T.na_Leaf_front, fLf_front, _, rfl, z, _, dz, _, _, rfl, hz, T.cl_Leaf, T.na_Leaf_back, fLf_back, _, rfl, z, _, dz, _, _, rfl, hz, T.cl_Leaf, T.na_Leaf_pen, fLf_pen, (by show 4 ≤ sizeLine; decide), fun t nt => ?_⟩
      have s2 := same_upd (o := .tup [.ref a1, .ref a2, .ref a3, .ref a4]) nt
      rw [pl] at h4
      exact hR _ _ rfl _ s2 (.tup upd_same (.cons (tpL (s2 _ _ h1)) (.cons (tpS (s2 _ _ h2)) (.cons (tpS (s2 _ _ h3)) (.cons (h4.nl (NL.of s2)) .nil)))))
    · rintro H1 us s1 eD tu
      have e : bk.filterMap (fun l => some (dLf l)) = bk.map dLf := by rw [← List.filterMap_eq_map]; rfl
      rw [e] at tu
      exact q D us H1 s1 eD tu
theorem ok_goals (T : Tab K mg) : FnOk P w K mg base CX0 1 T.f_goals T.d_goals ["_law_pages", "_law_at"] (sp_goals K) := by
  refine T.F_goals.ok sc_goals (fun vs H Q E h => ?_) (fun cdv A outer s H vs Q E hr h => ?_)
  · obtain ⟨b, us, i, rfl, _⟩ := h
    rfl
  · obtain ⟨b, us, i, rfl, hb, l9, i0, i9, q⟩ := h
    refine ⟨_, (pss_cons (ps_set (i := 2) sc_goals.nd rfl (.inr rfl) (pe_callB call_len_seq (by rfl) T.m_len PySem.boot_len (pa_cons (pv 0) pa_nil)))
      (pss_one (ps_ret (pe_lc (own := [("_law_k", 3)]) (g := gName 3) (by rfl) sc_goals.nd (pi_range1 (by rfl) T.m_range (pa_cons (pv 2) pa_nil)) (blkOk_by (own := [("_law_k", 3)]) (N := N_goals) (sc := defScope s_goals) (by decide +kernel)) (fun _ _ _ _ _ => pg_name (i := 3) sc_goals.nd rfl (.inl rfl)) (fun _ _ _ _ _ => (pts_one (PW.pt (pw_or (pt_cmpR op_le (pv 2) pe_int (nomark _)) (pw_or (pt_cmpR op_lt (pe_callB call_abs (by rfl) T.m_abs (by decide +kernel) (pa_cons (pe_op op_sub (pv 3) (pv 1)) pa_nil)) pe_int (nomark _)) (pw_or1 (pt_cmpR (op_in_seqK (K := K) rfl) (pv 3) (pe_tup (pa_cons pe_int (pa_cons (pe_op op_sub (pv 2) pe_int) pa_nil))) (by rfl)))))))) (fun _ _ _ _ _ => (pe_ix (ix_listK (K := K) rfl) (pv 0) (pv 3) (fun _ _ => rfl))))))), ?_⟩
    refine ⟨_, rfl, b, us, rfl, .inl (.inl (.inl hb)), _, rfl, _, rfl, by omega, by omega, fun D nD => ?_⟩
    have fD : H D = none := nD
    have bD : b ≠ D := fun z => by rw [z, nD] at hb; cases hb
    refine lc_range (lo := 0) (n := (us.length : Int).toNat) (fun j H' => Same H H' ∧ ∃ ws, H' D = some (.lst ws) ∧ ws.length ≤ j ∧ ∀ w ∈ ws, w ∈ us) ⟨same_upd nD, [], upd_same, Nat.le_refl _, (fun _ h => nomatch h)⟩ ?_ ?_
    · rintro j H1 hj ⟨s1, ws, eD, lw, hw⟩
      have jl : j < us.length := by omega
      obtain ⟨x, ex⟩ : ∃ x, us[j]? = some x := ⟨_, List.getElem?_eq_getElem jl⟩
      have yes : ∀ {Hn : Hp}, Same H1 Hn → SqL K Hn b us ∧ Hn D = some (.lst ws) ∧ ws.length < sizeLine ∧ Same H (upd Hn D (.lst (ws ++ [x]))) ∧ ∃ ws', upd Hn D (.lst (ws ++ [x])) D = some (.lst ws') ∧ ws'.length ≤ j + 1 ∧ ∀ w ∈ ws', w ∈ us := fun {Hn} sn => by
        refine ⟨.inl (.inl (sn _ _ (s1 _ _ hb))), sn _ _ eD, small1000 (by omega), same_put (s1.trans sn) nD _, ws ++ [x], upd_same, ?_, fun w h => ?_⟩
        · rw [List.length_append]; exact Nat.succ_le_succ lw
        · rcases List.mem_append.mp h with h | h
          · exact hw w h
          · rw [List.mem_singleton.mp h]; exact List.mem_of_getElem? ex
      refine ⟨rfl, _, rfl, _, _, rfl, rfl, _, rfl, ?_⟩
      cases decide ((us.length : Int) ≤ 8) with
      | true =>
        refine iteT (iteT ?_)
        have sn := Same.refl H1
        obtain ⟨y1, y2, y3, y4, y5⟩ := yes sn
        exact ⟨_, rfl, _, rfl, b, us, _, x, rfl, rfl, y1, at_of' (Int.zero_add _) ex, ws, y2, y3, y4, y5⟩
      | false =>
        refine iteF ⟨_, rfl, _, rfl, _, _, rfl, rfl, _, rfl, _, _, rfl, rfl, _, rfl, ?_⟩
        cases decide ((if (0 : Int) + (j : Int) - i < 0 then -((0 : Int) + (j : Int) - i) else (0 : Int) + (j : Int) - i) < 4) with
        | true =>
          refine iteT (iteT ?_)
          have sn := Same.refl H1
          obtain ⟨y1, y2, y3, y4, y5⟩ := yes sn
          exact ⟨_, rfl, _, rfl, b, us, _, x, rfl, rfl, y1, at_of' (Int.zero_add _) ex, ws, y2, y3, y4, y5⟩
        | false =>
          refine iteF ⟨_, rfl, _, rfl, _, _, rfl, rfl, (by show 2 ≤ sizeLine; decide), fun t nt => ?_⟩
          have sn := same_upd (o := .tup [.int 0, .int ((us.length : Int) - 1)]) nt
          refine ⟨t, _, rfl, .inr (.inl (.inl upd_same)), rfl, rfl, _, rfl, ite2 (fun _ => ?_) (fun _ => ?_)⟩
          · skip
            obtain ⟨y1, y2, y3, y4, y5⟩ := yes sn
            exact ⟨_, rfl, _, rfl, b, us, _, x, rfl, rfl, y1, at_of' (Int.zero_add _) ex, ws, y2, y3, y4, y5⟩
          · exact ⟨s1.trans sn, ws, sn _ _ eD, by omega, hw⟩
    · rintro H1 ⟨s1, ws, eD, lw, hw⟩
      exact q D ws H1 s1 fD eD hw
theorem ok_is_within (T : Tab K mg) : FnOk P w K mg base CX0 2 T.f_is_within T.d_is_within ["thing", "least", "most"] (sp_is_within K) := by
  refine T.F_is_within.ok sc_is_within (fun vs H Q E h => ?_) (fun cdv A outer s H vs Q E hr h => ?_)
  · obtain ⟨v, d, l, m, rfl, _⟩ := h
    rfl
  · obtain ⟨v, d, l, m, rfl, hd, q⟩ := h
    refine ⟨_, (pss_one (ps_ret (pe_and (pe_call (ok_is_integer T) (hr.mono (by decide)) (by rfl) T.g_is_integer T.F_is_integer.kp T.b_is_integer .nil pass0 (pa_cons (pv 0) pa_nil)) (pe_one (pe_chain op_le op_le (pv 1) (pv 0) (pv 2)))))), ?_⟩
    refine ⟨_, rfl, _, d, rfl, hd, ?_⟩
    cases hd with
    | int i =>
      refine ⟨true, rfl, iteT ?_⟩
      refine ⟨_, rfl, _, rfl, _, _, rfl, rfl, _, rfl, ite2 (fun e => ?_) (fun e => ?_)⟩
      · have h1 : l ≤ i := of_decide_eq_true e
        refine ⟨_, rfl, _, _, rfl, rfl, ?_⟩
        have : wI l m (.int i) = decide (i ≤ m) := by
          show decide (l ≤ i ∧ i ≤ m) = _
          simp [h1]
        rw [this] at q
        exact q
      · have h1 : ¬ l ≤ i := fun h => e (decide_eq_true h)
        have : wI l m (.int i) = false := by
          show decide (l ≤ i ∧ i ≤ m) = _
          simp [h1]
        rw [this] at q
        exact q
    | non => exact ⟨false, rfl, q⟩
    | bl b => exact ⟨false, rfl, q⟩
    | str z => exact ⟨false, rfl, q⟩
    | lst h _ => exact ⟨false, rfl, q⟩
    | tup h _ => exact ⟨false, rfl, q⟩
theorem ok_is_sized (T : Tab K mg) : FnOk P w K mg base CX0 2 T.f_is_sized T.d_is_sized ["thing", "least", "most"] (sp_is_sized K) := by
  refine T.F_is_sized.ok sc_is_sized (fun vs H Q E h => ?_) (fun cdv A outer s H vs Q E hr h => ?_)
  · obtain ⟨v, d, l, m, rfl, _⟩ := h
    rfl
  · obtain ⟨v, d, l, m, rfl, hd, q⟩ := h
    refine ⟨_, (pss_one (ps_ret (pe_and (pe_call (ok_is_tuple T) (hr.mono (by decide)) (by rfl) T.g_is_tuple T.F_is_tuple.kp T.b_is_tuple .nil pass0 (pa_cons (pv 0) pa_nil)) (pe_one (pe_chain op_le op_le (pv 1) (pe_callB call_len_seq (by rfl) T.m_len PySem.boot_len (pa_cons (pv 0) pa_nil)) (pv 2)))))), ?_⟩
    refine ⟨_, rfl, _, d, rfl, .inl ⟨hd, fun H1 s1 => ?_⟩⟩
    have q1 := q H1 s1
    have cut : ∀ ds : List PyData, items d = some ds → ∀ e : Bool, (l ≤ (ds.length : Int)) → (decide ((ds.length : Int) ≤ m) = e) → sz l m d = e := fun ds hi e h1 h2 => by
      unfold sz
      rw [hi]
      simp only
      rw [← h2]
      simp [h1]
    have cut0 : ∀ ds : List PyData, items d = some ds → ¬ (l ≤ (ds.length : Int)) → sz l m d = false := fun ds hi h1 => by
      unfold sz
      rw [hi]
      simp [h1]
    cases hd with
    | lst h k =>
      rename_i a xs ds
      have el := dpAll_len k
      refine ⟨true, rfl, iteT ?_⟩
      refine ⟨_, rfl, _, rfl, _, _, rfl, .inl (s1.seq h), _, _, rfl, rfl, _, rfl, ite2 (fun e => ?_) (fun e => ?_)⟩
      · have h1 := of_decide_eq_true e
        rw [el] at h1 ⊢
        refine ⟨_, rfl, _, _, rfl, rfl, ?_⟩
        rw [cut ds rfl _ h1 rfl] at q1
        exact q1
      · have h1 : ¬ (l ≤ (ds.length : Int)) := fun z => e (by rw [el]; exact decide_eq_true z)
        rw [cut0 ds rfl h1] at q1
        exact q1
    | tup h k =>
      rename_i a xs ds
      have el := dpAll_len k
      refine ⟨true, rfl, iteT ?_⟩
      refine ⟨_, rfl, _, rfl, _, _, rfl, .inr (same_seqT s1 h), _, _, rfl, rfl, _, rfl, ite2 (fun e => ?_) (fun e => ?_)⟩
      · have h1 := of_decide_eq_true e
        rw [el] at h1 ⊢
        refine ⟨_, rfl, _, _, rfl, rfl, ?_⟩
        rw [cut ds rfl _ h1 rfl] at q1
        exact q1
      · have h1 : ¬ (l ≤ (ds.length : Int)) := fun z => e (by rw [el]; exact decide_eq_true z)
        rw [cut0 ds rfl h1] at q1
        exact q1
    | non => exact ⟨false, rfl, q1⟩
    | bl b => exact ⟨false, rfl, q1⟩
    | int i => exact ⟨false, rfl, q1⟩
    | str z => exact ⟨false, rfl, q1⟩
theorem ok_is_row (T : Tab K mg) : FnOk P w K mg base CX0 2 T.f_is_row T.d_is_row ["thing"] (sp_is_row K) := by
  refine T.F_is_row.ok sc_is_row (fun vs H Q E h => ?_) (fun cdv A outer s H vs Q E hr h => ?_)
  · obtain ⟨z, rfl, _⟩ := h
    rfl
  · obtain ⟨z, rfl, hz, q⟩ := h
    refine ⟨_, (pss_cons (ps_if (PW.pt (pw_or (pt_not (pt_val (pe_callB call_isi (by rfl) T.m_isinstance (by decide +kernel) (pa_cons (pv 0) (pa_cons (pe_bltn (v := .ty "str") (u := .type "str") (by rfl) T.m_str (by decide +kernel) rfl) pa_nil))))) (pw_or1 (pt_cmpR op_gt (pe_callB call_len_str (by rfl) T.m_len PySem.boot_len (pa_cons (pv 0) pa_nil)) (pe_glob (v := .int 120) (by rfl) T.c_LONGEST_ROW ⟨_, rfl⟩) (nomark _)))))
      (pss_one (ps_ret pe_bl))
      pss_nil)
      (pss_cons (ps_set (i := 1) sc_is_row.nd rfl (.inl rfl) (pe_split (pv 0) pe_str))
      (pss_one (ps_ret (pe_and (pe_cmpR op_le (pe_callB call_len_seq (by rfl) T.m_len PySem.boot_len (pa_cons (pv 1) pa_nil)) (pe_glob (v := .int 30) (by rfl) T.c_MOST_TOKENS ⟨_, rfl⟩) (nomark _)) (pe_one (pe_callB (cr_all rfl) (by rfl) T.m_all (by decide +kernel) (pa_cons (pe_lc (own := [("token", 2)]) (g := gName 2) (by rfl) sc_is_row.nd (pi_list (pv 1)) (blkOk_by (own := [("token", 2)]) (N := N_is_row) (sc := defScope s_is_row) (by decide +kernel)) (fun _ _ _ _ _ => pg_name (i := 2) sc_is_row.nd rfl (.inl rfl)) (fun _ _ _ _ _ => pts_nil) (fun _ _ _ _ _ => (pe_call (ok_is_token T) (hr.mono (by decide)) (by rfl) T.g_is_token T.F_is_token.kp T.b_is_token .nil pass0 (pa_cons (pv 2) pa_nil)))) pa_nil)))))))), ?_⟩
    refine ⟨_, rfl, _, _, _, _, _, rfl, .ty "str", .base (.str z), kit_ty (by decide +kernel), true, rfl, iteF ?_⟩
    have e2 : sizeLine = 16777216 := by decide
    have hd1 : 1 ≤ (" " : Str).length := by decide +kernel
    have hcnt := split_cnt z " " hd1
    refine ⟨_, rfl, z, rfl, (by omega), _, _, rfl, rfl, _, rfl, ite2 (fun e => ?_) (fun e => ?_)⟩
    · have e1 : (120 : Int) < z.length := of_decide_eq_true e
      have : rowB z = false := by
        unfold rowB
        rw [decide_eq_false (by omega)]
        rfl
      rw [← this]
      exact q H (Same.refl H)
    have e1 : z.length ≤ 120 := by
      have : ¬ (120 : Int) < z.length := fun h => e (decide_eq_true h)
      omega
    refine ⟨_, rfl, ⟨_, rfl⟩, z, _, rfl, rfl, (by decide +kernel), (by omega), fun p np => ?_⟩
    have ep : (upd H p (.lst ((Txt.split z " ").map V.str))) p = some (.lst ((Txt.split z " ").map V.str)) := upd_same
    have s1 := same_upd (o := .lst ((Txt.split z " ").map V.str)) np
    generalize upd H p (.lst ((Txt.split z " ").map V.str)) = H1 at ep s1
    have rb : rowB z = (decide ((Txt.split z " ").length ≤ 30) && (Txt.split z " ").all tokB) := by
      unfold rowB
      rw [decide_eq_true e1, Bool.true_and]
    refine ⟨_, rfl, p, _, rfl, .inl (.inl (.inl ep)), _, _, rfl, rfl, _, rfl, ite2 (fun e3 => ?_) (fun e3 => ?_)⟩
    · have e4 : (Txt.split z " ").length ≤ 30 := by
        have : (((Txt.split z " ").map V.str).length : Int) ≤ 30 := of_decide_eq_true e3
        rw [List.length_map] at this
        omega
      refine ⟨_, rfl, p, rfl, ⟨_, .inl (.inl ep)⟩, fun D nD => ?_⟩
      refine lc_fm (Txt.split z " ") (fun t => some (V.bl (tokB t))) (walkL (xs := (Txt.split z " ").map V.str) (List.length_map ..)) nD (fun H h => .inl (.inl (h _ _ ep))) (by omega) ?_ ?_
      · rintro i d x H2 H3 ed sm ⟨rfl, hx⟩ R N hR hN
        rw [List.getElem?_map, ed] at hx
        cases hx
        have hy1 := split_part z " " hd1 (List.mem_of_getElem? ed)
        exact ⟨rfl, _, rfl, d, rfl, by omega, hR _ rfl _ (Same.refl _)⟩
      · rintro H2 sm eD
        rw [map_fm, show (fun d => V.bl (tokB d)) = V.bl ∘ tokB from rfl, ← List.map_map] at eD
        refine ⟨D, _, rfl, .inl (.inl eD), ?_⟩
        rw [all_map]
        have := q H2 (s1.trans sm)
        rw [rb, decide_eq_true e4, Bool.true_and] at this
        exact this
    · have : rowB z = false := by
        rw [rb, decide_eq_false (fun h => e3 (decide_eq_true (by rw [List.length_map]; omega)))]
        rfl
      rw [← this]
      exact q H1 s1
theorem ok_judged_leaves (T : Tab K mg) : FnOk P w K mg base CX0 2 T.f_judged_leaves T.d_judged_leaves ["leaves"] (sp_judged_leaves K T.C_Leaf) := by
  refine T.F_judged_leaves.ok sc_judged_leaves (fun vs H Q E h => ?_) (fun cdv A outer s H vs Q E hr h => ?_)
  · obtain ⟨a, xs, bk, rfl, _⟩ := h
    rfl
  · obtain ⟨a, xs, bk, rfl, ha, hl, ⟨o1, o2, o3⟩, q⟩ := h
    refine ⟨_, (pss_cons (ps_if (PW.pt (pw_or (pt_not (pt_val (pe_call (ok_is_tuple T) (hr.mono (by decide)) (by rfl) T.g_is_tuple T.F_is_tuple.kp T.b_is_tuple .nil pass0 (pa_cons (pv 0) pa_nil)))) (pw_or1 (pt_not (pt_val (pe_callB (cr_all rfl) (by rfl) T.m_all (by decide +kernel) (pa_cons (pe_lc (own := [("leaf", 2)]) (g := gName 2) (by rfl) sc_judged_leaves.nd (pi_or (pi_list (pv 0)) (pi_tup (pv 0))) (blkOk_by (own := [("leaf", 2)]) (N := N_judged_leaves) (sc := defScope s_judged_leaves) (by decide +kernel)) (fun _ _ _ _ _ => pg_name (i := 2) sc_judged_leaves.nd rfl (.inl rfl)) (fun _ _ _ _ _ => pts_nil) (fun _ _ _ _ _ => (pe_callB (call_isiK' (K := K) rfl) (by rfl) T.m_isinstance (by decide +kernel) (pa_cons (pv 2) (pa_cons (pe_glob (v := .ref T.C_Leaf) (by rfl) T.cg_Leaf rfl) pa_nil))))) pa_nil)))))))
      (pss_one ps_never)
      pss_nil)
      (pss_cons (ps_if (pt_cmpR op_gt (pe_callB call_len_seq (by rfl) T.m_len PySem.boot_len (pa_cons (pv 0) pa_nil)) (pe_glob (v := .int 60) (by rfl) T.c_MOST_LEAVES ⟨_, rfl⟩) (nomark _))
      (pss_one ps_never)
      pss_nil)
      (pss_cons (ps_for PassesOwn.never rfl (pi_range2 (by rfl) T.m_range (pa_cons pe_int (pa_cons (pe_callB call_len_seq (by rfl) T.m_len PySem.boot_len (pa_cons (pv 0) pa_nil)) pa_nil))) (pg_name (i := 1) sc_judged_leaves.nd rfl (.inl rfl))
      (pss_one (ps_if (pt_cmpR (op_leD (un2 hr)) (pe_fld (pe_ix (IxR.or ix_list ix_tup) (pv 0) (pv 1) (fun _ _ => rfl)) rfl) (pe_fld (pe_ix (IxR.or ix_list ix_tup) (pv 0) (pe_op op_sub (pv 1) pe_int) (fun _ _ => rfl)) rfl) (nomark _))
        (pss_one ps_never)
        pss_nil)))
      (pss_one (ps_ret (pe_callTy call_tuple_of (by rfl) T.m_tuple (by decide +kernel) (pa_cons (pv 0) pa_nil))))))), ?_⟩
    have len := hl.len
    refine ⟨_, rfl, _, .none, rfl, .inr ⟨a, xs, rfl, .inl (.inl (.inl ha)), fun H1 s1 => ⟨_, rfl, iteF ?_⟩⟩⟩
    have ha1 := s1 _ _ ha
    refine .inl ⟨_, rfl, a, rfl, ⟨_, .inl (.inl ha1)⟩, fun D nD => ?_⟩
    refine lc_fm xs (fun _ => some (V.bl true)) (walkL (xs := xs) rfl) nD (fun H h => .inl (.inl (h _ _ ha1))) (by omega) ?_ ?_
    · rintro i d x H2 H3 ed sm ⟨rfl, hx⟩ R N hR hN
      obtain ⟨lf, _, y, dx, l, f, b, p, s, rfl, hy, _⟩ := hl.get hx
      exact ⟨rfl, _, rfl, _, _, _, _, _, rfl, .own T.C_Leaf, .base (.ins ((s1.trans sm) _ _ hy) T.cl_Leaf T.ca_Leaf T.cn_Leaf T.ct_Leaf T.cm_Leaf), kit_self, hR _ rfl _ (Same.refl _)⟩
    rintro H2 sm eD
    rw [map_fm, show (fun (_ : V) => V.bl true) = V.bl ∘ (fun _ => true) from rfl, ← List.map_map] at eD
    refine ⟨D, _, rfl, .inl (.inl eD), _, rfl, ?_⟩
    rw [all_map, List.all_eq_true.mpr (fun _ _ => rfl)]
    refine iteF ?_
    have s2 := s1.trans sm
    have ha2 := s2 _ _ ha
    refine ⟨_, rfl, a, xs, rfl, .inl (.inl (.inl ha2)), _, _, rfl, rfl, _, rfl, ite2 (fun e => ?_) (fun _ => ?_)⟩
    · have : (60 : Int) < xs.length := of_decide_eq_true e
      omega
    refine ⟨_, rfl, a, xs, rfl, .inl (.inl (.inl ha2)), 1, _, rfl, ⟨by decide, by decide, by omega, by omega⟩, for_range (lo := 1) (n := ((xs.length : Int) - 1).toNat) (fun j σ' H' => ∃ y, σ' = [some (.ref a), y, none] ∧ H' = H2) ⟨none, rfl, rfl⟩ ?_ ?_⟩
    · rintro j σ' H' hj ⟨y, rfl, rfl⟩
      have hj2 : j + 1 < bk.length := by omega
      obtain ⟨v1, e1, x1, dx1, l1, f1, b1, p1, t1, rfl, hx1, hl1, _⟩ := hl.get2 (List.getElem?_eq_getElem hj2)
      obtain ⟨v0, e0, x0, dx0, l0, f0, b0, p0, t0, rfl, hx0, hl0, _⟩ := hl.get2 (List.getElem?_eq_getElem (show j < bk.length by omega))
      refine ⟨_, rfl, _, rfl, .inl ⟨a, xs, _, _, rfl, rfl, .inl (.inl ha2), at_of' (by omega) e1, x1, _, dx1, _, _, rfl, s2 _ _ hx1, T.cl_Leaf, T.na_Leaf_label, fLf_label, ?_⟩⟩
      refine ⟨_, rfl, _, rfl, _, _, rfl, rfl, .inl ⟨a, xs, _, _, rfl, rfl, .inl (.inl ha2), at_of' (by omega) e0, x0, _, dx0, _, _, rfl, s2 _ _ hx0, T.cl_Leaf, T.na_Leaf_label, fLf_label, ?_⟩⟩
      refine ⟨_, _, (tpL (s2 _ _ hl1)).dp, (tpL (s2 _ _ hl0)).dp, alike_L _ _, (fun z => nomatch z), Nat.le_trans (depthL _) (by decide), false, congrArg V.bl ?_, iteF ⟨_, rfl, rfl⟩⟩
      show (!PySem.W.dataLt _ _) = false
      rw [dlt_L, (List.pairwise_iff_getElem.mp o3) j (j + 1) (by omega) hj2 (by omega)]
      rfl
    · rintro σ' H' ⟨y, rfl, rfl⟩
      exact ⟨_, rfl, a, xs, rfl, .inl ⟨.inl (.inl ha2), fun p np => q p _ (s2.trans (same_upd np)) upd_same⟩⟩
theorem ok_page_word (T : Tab K mg) : FnOk P w K mg base CX0 2 T.f_page_word T.d_page_word ["_law_page"] (sp_page_word K) := by
  refine T.F_page_word.ok sc_page_word (fun vs H Q E h => ?_) (fun cdv A outer s H vs Q E hr h => ?_)
  · obtain ⟨v, p, rfl, _⟩ := h
    rfl
  · obtain ⟨v, p, rfl, hv, hp, q⟩ := h
    refine ⟨_, (pss_one (ps_ret (pe_op op_add_str (pe_call (ok_label_word T) (hr.mono (by decide)) (by rfl) T.g_label_word T.F_label_word.kp T.b_label_word .nil pass0 (pa_cons (pe_ix ix_tup (pv 0) pe_int (fun _ _ => rfl)) pa_nil)) (pe_ifExp (pt_cmpR op_eq (pe_ix ix_tup (pv 0) pe_int (fun _ _ => rfl)) pe_int (nomark _)) pe_str pe_str)))), ?_⟩
    obtain ⟨a, l, rfl, h1, h2⟩ := dP_inv hv
    have l1 := fL_len hp.1
    refine ⟨_, rfl, a, _, 0, .ref l, rfl, rfl, h1, rfl, l, p.1, rfl, h2, hp.1, fun H1 s1 => ?_⟩
    have qq := q H1 s1
    unfold fP at qq
    refine ⟨_, rfl, a, _, 1, .int p.2, rfl, rfl, same_seqT s1 h1, rfl, rfl, _, rfl, ite2 (fun e => ?_) (fun e => ?_)⟩
    · have e1 : p.2 = 0 := V.int.inj (of_decide_eq_true e)
      rw [if_pos e1] at qq
      refine ⟨_, _, rfl, rfl, ?_, qq⟩
      exact Nat.le_of_lt (small1000 (by show _ + 1 ≤ 1000; omega))
    · have e1 : ¬ p.2 = 0 := fun h => e (decide_eq_true (congrArg V.int h))
      rw [if_neg e1] at qq
      refine ⟨_, _, rfl, rfl, ?_, qq⟩
      exact Nat.le_of_lt (small1000 (by show _ + 1 ≤ 1000; omega))
theorem ok_book_labels (T : Tab K mg) : FnOk P w K mg base CX0 2 T.f_book_labels T.d_book_labels ["_law_source_here", "_law_many"] (sp_book_labels K) := by
  refine T.F_book_labels.ok sc_book_labels (fun vs H Q E h => ?_) (fun cdv A outer s H vs Q E hr h => ?_)
  · obtain ⟨a, m, rfl, _⟩ := h
    rfl
  · obtain ⟨a, m, rfl, src, m1, m4, q⟩ := h
    refine ⟨_, (pss_cons (ps_set (i := 2) sc_book_labels.nd rfl (.inl rfl) (pe_lst pa_nil))
      (pss_cons (ps_set (i := 3) sc_book_labels.nd rfl (.inl rfl) pe_int)
      (pss_cons (ps_for PassesOwn.never rfl (pi_range1 (by rfl) T.m_range (pa_cons (pv 1) pa_nil)) (pg_name (i := 4) sc_book_labels.nd rfl (.inl rfl))
      (pss_cons (ps_set (i := 5) sc_book_labels.nd rfl (.inl rfl) (pe_call (ok_pick T) (hr.mono (by decide)) (by rfl) T.g_pick T.F_pick.kp T.b_pick .nil pass0 (pa_cons (pv 0) (pa_cons pe_int pa_nil))))
        (pss_one (ps_if (PW.pt (pw_or (pt_cmpR op_lt (pv 5) pe_int (nomark _)) (pw_or1 (pt_not (pt_truth (pv 2) (fun _ => rfl))))))
        (pss_cons (ps_set (i := 3) sc_book_labels.nd rfl (.inl rfl) (pe_op op_add (pe_op op_add (pv 3) pe_int) (pe_op op_mul (pe_call (ok_pick T) (hr.mono (by decide)) (by rfl) T.g_pick T.F_pick.kp T.b_pick .nil pass0 (pa_cons (pv 0) (pa_cons pe_int pa_nil))) (pe_call (ok_pick T) (hr.mono (by decide)) (by rfl) T.g_pick T.F_pick.kp T.b_pick .nil pass0 (pa_cons (pv 0) (pa_cons pe_int pa_nil))))))
          (pss_one (ps_expr (pe_bm PySem.F.plainAttrs_list PySem.F.slot_list_append PySem.F.type_list_append mt_append (pv 2) (pa_cons (pe_tup (pa_cons (pv 3) pa_nil)) pa_nil)))))
        (pss_one (ps_if (PW.pt (pw_and (pt_cmpR op_eq (pv 5) pe_int (nomark _)) (pw_and1 (pt_cmpR op_lt (pe_callB call_len_seq (by rfl) T.m_len PySem.boot_len (pa_cons (pe_ix ix_list (pv 2) (pe_un un_neg pe_int) (fun _ _ => rfl)) pa_nil)) pe_int (nomark _)))))
          (pss_one (ps_expr (pe_bm PySem.F.plainAttrs_list PySem.F.slot_list_append PySem.F.type_list_append mt_append (pv 2) (pa_cons (pe_op op_catA (pe_ix ix_list (pv 2) (pe_un un_neg pe_int) (fun _ _ => rfl)) (pe_tup (pa_cons (pe_op op_add pe_int (pe_call (ok_pick T) (hr.mono (by decide)) (by rfl) T.g_pick T.F_pick.kp T.b_pick .nil pass0 (pa_cons (pv 0) (pa_cons pe_int pa_nil)))) pa_nil))) pa_nil))))
          (pss_cons (ps_expr (pe_bm PySem.F.plainAttrs_list PySem.F.slot_list_append PySem.F.type_list_append mt_append (pv 2) (pa_cons (pe_op op_catA (pe_slice sl_tupA (pe_ix ix_list (pv 2) (pe_un un_neg pe_int) (fun _ _ => rfl)) po_none (po_some (pe_un un_neg pe_int))) (pe_tup (pa_cons (pe_op op_add (pe_ix ix_tup (pe_ix ix_list (pv 2) (pe_un un_neg pe_int) (fun _ _ => rfl)) (pe_un un_neg pe_int) (fun _ _ => rfl)) pe_int) pa_nil))) pa_nil)))
            (pss_one (ps_set (i := 3) sc_book_labels.nd rfl (.inl rfl) (pe_ix ix_tup (pe_ix ix_list (pv 2) (pe_un un_neg pe_int) (fun _ _ => rfl)) pe_int (fun _ _ => rfl)))))))))))
      (pss_one (ps_ret (pv 2)))))), ?_⟩
    refine ⟨Nat.zero_le _, fun D nD => ?_⟩
    have nDa : D ≠ a := (src.ne nD).symm
    have fD : H D = none := nD
    refine ⟨_, rfl, _, rfl, by omega, by omega, for_range (lo := 0) (n := m.toNat) (fun j σ' H' => ∃ (Ls : List (List Int)) (c : Int) (us : List V) (y4 y5 : Option V), σ' = [some (.ref a), some (.int m), some (.ref D), some (.int c), y4, y5] ∧ Src H' a ∧ But a H H' ∧ H' D = some (.lst us) ∧ TpAll H' us (Ls.map dL) ∧ LbOk (3 * j) c Ls ∧ Ls.length = j) ⟨[], 0, [], none, none, rfl, src.put nDa.symm _, (But.refl a H).put fD _, upd_same, .nil, ⟨.nil, (fun _ h => nomatch h), (fun h => absurd rfl h), by decide, by decide⟩, rfl⟩ ?_ ?_⟩
    · rintro j σ' H1 hj ⟨Ls, c, us, y4, y5, rfl, s1, b1, eD, tu, lb, lj⟩
      have ulen : us.length = j := by rw [tu.len, List.length_map, lj]
      have jm : j ≤ 4 := by omega
      refine ⟨_, rfl, _, _, rfl, s1, by decide, by decide, fun n2 H2 s2 b2 p1 p2 => ?_⟩
      have eD2 := b2 _ _ nDa eD
      have tu2 := tu.nl (s1.nl b2)
      have b12 := b1.trans b2
      refine ⟨_, rfl, _, _, rfl, rfl, _, rfl, ?_⟩
      by_cases hn : n2 < 4
      · rw [decide_eq_true hn]
        refine iteT (iteT ?_)
        refine ⟨_, rfl, _, _, rfl, rfl, _, rfl, a, 2, rfl, s2, by decide, by decide, fun n5 H5 s5 b5 p5 p6 => ⟨_, rfl, a, 3, rfl, s5, by decide, by decide, fun n6 H6 s6 b6 p7 p8 => ⟨_, _, rfl, rfl, .inl ⟨by omega, by omega⟩, _, _, rfl, rfl, ?_⟩⟩⟩
        have hk : 1 ≤ 1 + n5 * n6 ∧ 1 + n5 * n6 ≤ 3 := by
          rcases (show n5 = 0 ∨ n5 = 1 by omega) with rfl | rfl <;> omega
        have b26 := b5.trans b6
        have eD6 := b26 _ _ nDa eD2
        have tu6 := (tu2.nl (s2.nl b5)).nl (s5.nl b6)
        have lb2 := lb_new lb hk.1 hk.2
        rw [← Int.add_assoc] at lb2
        refine ⟨_, rfl, .inl ⟨rfl, _, .inl (.inl eD6)⟩, _, rfl, (by show 1 ≤ sizeLine; decide), fun t nt => ?_⟩
        have nta : t ≠ a := (s6.ne nt).symm
        have st := same_upd (o := .tup [.int (c + 1 + n5 * n6)]) nt
        have eD7 := st _ _ eD6
        have m := (NL.of st).put eD7 (.lst (us ++ [.ref t]))
        have tt : Tp (upd (upd H6 t (.tup [.int (c + 1 + n5 * n6)])) D (.lst (us ++ [.ref t]))) (.ref t) (dL [c + 1 + n5 * n6]) := tpL (L := [c + 1 + n5 * n6]) (by rw [upd_ne (fun z => by rw [z, eD6] at nt; cases nt)]; exact upd_same)
        refine ⟨D, us, _, rfl, rfl, eD7, small1000 (by omega), Ls ++ [[c + 1 + n5 * n6]], _, us ++ [.ref t], _, _, rfl, (srcS st s6).put nDa.symm _, ((b12.trans b26).trans (But.of st)).put fD _, upd_same, ?_, ?_, ?_⟩
        · rw [List.map_append]
          exact (tu6.nl m).snoc tt
        · rw [show (3 : Int) * ((j + 1 : Nat) : Int) = 3 * (j : Int) + 3 by omega]
          exact lb2
        · rw [List.length_append, lj]; rfl
      rw [decide_eq_false hn]
      refine iteF ⟨_, rfl, _, tru_lst (.inl (.inl eD2)), ?_⟩
      cases hu : us.isEmpty with
      | true =>
        refine iteT ?_
        refine ⟨_, rfl, _, _, rfl, rfl, _, rfl, a, 2, rfl, s2, by decide, by decide, fun n5 H5 s5 b5 p5 p6 => ⟨_, rfl, a, 3, rfl, s5, by decide, by decide, fun n6 H6 s6 b6 p7 p8 => ⟨_, _, rfl, rfl, .inl ⟨by omega, by omega⟩, _, _, rfl, rfl, ?_⟩⟩⟩
        have hk : 1 ≤ 1 + n5 * n6 ∧ 1 + n5 * n6 ≤ 3 := by
          rcases (show n5 = 0 ∨ n5 = 1 by omega) with rfl | rfl <;> omega
        have b26 := b5.trans b6
        have eD6 := b26 _ _ nDa eD2
        have tu6 := (tu2.nl (s2.nl b5)).nl (s5.nl b6)
        have lb2 := lb_new lb hk.1 hk.2
        rw [← Int.add_assoc] at lb2
        refine ⟨_, rfl, .inl ⟨rfl, _, .inl (.inl eD6)⟩, _, rfl, (by show 1 ≤ sizeLine; decide), fun t nt => ?_⟩
        have nta : t ≠ a := (s6.ne nt).symm
        have st := same_upd (o := .tup [.int (c + 1 + n5 * n6)]) nt
        have eD7 := st _ _ eD6
        have m := (NL.of st).put eD7 (.lst (us ++ [.ref t]))
        have tt : Tp (upd (upd H6 t (.tup [.int (c + 1 + n5 * n6)])) D (.lst (us ++ [.ref t]))) (.ref t) (dL [c + 1 + n5 * n6]) := tpL (L := [c + 1 + n5 * n6]) (by rw [upd_ne (fun z => by rw [z, eD6] at nt; cases nt)]; exact upd_same)
        refine ⟨D, us, _, rfl, rfl, eD7, small1000 (by omega), Ls ++ [[c + 1 + n5 * n6]], _, us ++ [.ref t], _, _, rfl, (srcS st s6).put nDa.symm _, ((b12.trans b26).trans (But.of st)).put fD _, upd_same, ?_, ?_, ?_⟩
        · rw [List.map_append]
          exact (tu6.nl m).snoc tt
        · rw [show (3 : Int) * ((j + 1 : Nat) : Int) = 3 * (j : Int) + 3 by omega]
          exact lb2
        · rw [List.length_append, lj]; rfl
      | false =>
        refine iteF ?_
        have hne : Ls ≠ [] := fun e => by
          rw [e] at lj
          rw [List.isEmpty_eq_false_iff] at hu
          exact hu (List.length_eq_zero_iff.mp (by rw [ulen, ← lj]; rfl))
        obtain ⟨Qs, r, eLs⟩ := lb.2.2.1 hne
        have tu3 := tu2
        rw [eLs, List.map_append] at tu3
        obtain ⟨W, v, rfl, tW, tv⟩ := tpAll_snoc_inv tu3
        obtain ⟨l, rfl, hl⟩ := tpL_inv tv
        have lM := lb.2.1 (c :: r) (by rw [eLs]; simp)
        have aL : atI (W ++ [V.ref l]) (-1) = some (.ref l) := atI_last _ _
        refine ⟨_, rfl, rfl, _, rfl, ?_⟩
        by_cases h4 : n2 = 4
        · rw [decide_eq_true (congrArg V.int h4)]
          refine iteT ⟨_, rfl, 1, rfl, D, _, -1, _, rfl, rfl, .inl (.inl eD2), aL, l, _, rfl, .inr (.inl (.inl hl)), _, _, rfl, rfl, _, rfl, ite2 (fun e3 => ?_) (fun e3 => ?_)⟩
          · have l3 : (c :: r).length < 3 := by
              have := of_decide_eq_true e3
              rw [List.length_map] at this
              omega
            refine ⟨_, rfl, .inl ⟨rfl, _, .inl (.inl eD2)⟩, _, rfl, 1, rfl, D, _, -1, _, rfl, rfl, .inl (.inl eD2), aL, _, rfl, a, 3, rfl, s2, by decide, by decide, fun n5 H5 s5 b5 p5 p6 => ⟨_, _, rfl, rfl, (by show 1 ≤ sizeLine; decide), fun t nt => ?_⟩⟩
            have lb2 := lb_down lb eLs l3 (k := 1 + n5) (by omega) (by omega)
            have nta : t ≠ a := (s5.ne nt).symm
            have st := same_upd (o := .tup [.int (1 + n5)]) nt
            have s25 := s2.nl b5
            have hl5 : H5 l = some (.tup ((c :: r).map V.int)) := s25 _ _ hl (fun _ z => nomatch z)
            refine ⟨l, t, (c :: r).map V.int, [.int (1 + n5)], rfl, rfl, .inl (.inl (st _ _ hl5)), .inl (.inl upd_same), by rw [List.length_map]; exact Nat.le_trans (by show (c :: r).length + 1 ≤ 4; omega) (by show 4 ≤ sizeLine; decide), (fun z => by cases z), (fun _ z => by cases z), fun _ _ u nu => ?_⟩
            have nua : u ≠ a := ((srcS st s5).ne nu).symm
            have su := same_upd (o := .tup ((c :: r).map V.int ++ [.int (1 + n5)])) nu
            have stu := st.trans su
            have eD7 := stu _ _ (b5 _ _ nDa eD2)
            have m := (NL.of stu).put eD7 (.lst ((W ++ [V.ref l]) ++ [.ref u]))
            have uD : u ≠ D := fun z => by rw [z, st _ _ (b5 _ _ nDa eD2)] at nu; cases nu
            have tt : Tp (upd (upd (upd H5 t (.tup [.int (1 + n5)])) u (.tup ((c :: r).map V.int ++ [.int (1 + n5)]))) D (.lst ((W ++ [V.ref l]) ++ [.ref u]))) (.ref u) (dL (c :: r ++ [1 + n5])) := tpL (L := c :: r ++ [1 + n5]) (by rw [upd_ne uD, upd_same, List.map_append]; rfl)
            refine ⟨D, _, _, rfl, rfl, eD7, small1000 (by omega), Ls ++ [c :: r ++ [1 + n5]], _, (W ++ [V.ref l]) ++ [.ref u], _, _, rfl, (srcS stu s5).put nDa.symm _, ((b12.trans b5).trans (But.of stu)).put fD _, upd_same, ?_, ?_, ?_⟩
            · rw [List.map_append]
              exact ((tu2.nl s25).nl m).snoc tt
            · rw [show (3 : Int) * ((j + 1 : Nat) : Int) = 3 * (j : Int) + 3 by omega]
              exact lb2
            · rw [List.length_append, lj]; rfl
          · skip
            obtain ⟨R, z, eR⟩ : ∃ R z, c :: r = R ++ [z] := ⟨_, _, (List.dropLast_concat_getLast (by simp)).symm⟩
            have lR : (R ++ [z]).length ≤ 3 := by rw [← eR]; exact lM.2.1
            have eLs2 := eLs
            rw [eR] at eLs2
            obtain ⟨c', r', ec', lb2⟩ := lb_up lb eLs2
            have hlR := hl
            rw [eR] at hlR
            have lR2 : R.length + 1 ≤ 3 := by rw [List.length_append] at lR; exact lR
            refine ⟨_, rfl, .inl ⟨rfl, _, .inl (.inl eD2)⟩, _, rfl, 1, rfl, D, _, -1, _, rfl, rfl, .inl (.inl eD2), aL, 1, rfl, _, rfl, l, _, rfl, .inl (.inl hlR), (fun w => ?_), fun _ p np => ?_⟩
            · exact absurd w.2 (by
                show ¬ ((-1 : Int) + (((R ++ [z]).map V.int).length : Int)).toNat = ((R ++ [z]).map V.int).length
                rw [List.length_map, List.length_append]
                show ¬ ((-1 : Int) + ((R.length + 1 : Nat) : Int)).toNat = R.length + 1
                omega)
            have ecut : cutV ((R ++ [z]).map V.int) none (some (-1)) = R.map V.int := by
              rw [cut_last, List.map_append]
              exact List.dropLast_concat
            have sp := same_upd (o := .tup (cutV ((R ++ [z]).map V.int) none (some (-1)))) np
            have hp : upd H2 p (.tup (cutV ((R ++ [z]).map V.int) none (some (-1)))) p = some (.tup (R.map V.int)) := by rw [upd_same, ecut]
            have s3 := srcS sp s2
            generalize upd H2 p (.tup (cutV ((R ++ [z]).map V.int) none (some (-1)))) = H3 at sp hp s3 ⊢
            refine ⟨_, rfl, 1, rfl, D, _, -1, _, rfl, rfl, .inl (.inl (sp _ _ eD2)), aL, 1, rfl, l, _, -1, _, rfl, rfl, .inl (.inl (sp _ _ hlR)), at_end R z, _, _, rfl, rfl, (by show 1 ≤ sizeLine; decide), fun t nt => ?_⟩
            have st := same_upd (o := .tup [.int (z + 1)]) nt
            have sn := sp.trans st
            have s4 := srcS st s3
            have ht : upd H3 t (.tup [.int (z + 1)]) t = some (.tup [.int (z + 1)]) := upd_same
            have hp4 := st _ _ hp
            generalize upd H3 t (.tup [.int (z + 1)]) = H4 at st sn s4 ht hp4 ⊢
            have fin : ∀ (u : Addr) (Hn : Hp), Same H2 Hn → Hn u = some (.tup ((R ++ [z + 1]).map V.int)) → ∃ l xs y, V.ref D = .ref l ∧ [V.ref u] = [y] ∧ Hn l = some (.lst xs) ∧ xs.length < sizeLine ∧ ∃ c2, atI (xs ++ [y]) (-1) = some (.ref u) ∧ upd Hn l (.lst (xs ++ [y])) D = some (.lst (xs ++ [y])) ∧ upd Hn l (.lst (xs ++ [y])) u = some (.tup (((c2 : Int) :: r').map V.int)) ∧ (∃ Ls' us', us' = xs ++ [y] ∧ Src (upd Hn l (.lst (xs ++ [y]))) a ∧ But a H (upd Hn l (.lst (xs ++ [y]))) ∧ TpAll (upd Hn l (.lst (xs ++ [y]))) us' (Ls'.map dL) ∧ LbOk (3 * ((j + 1 : Nat) : Int)) c2 Ls' ∧ Ls'.length = j + 1) := fun u Hn s5 hu => by
              have eD5 := s5 _ _ eD2
              have uD : u ≠ D := fun q => by rw [q, eD5] at hu; cases hu
              have m := (NL.of s5).put eD5 (.lst ((W ++ [V.ref l]) ++ [.ref u]))
              have hu2 : upd Hn D (.lst ((W ++ [V.ref l]) ++ [.ref u])) u = some (.tup ((R ++ [z + 1]).map V.int)) := by rw [upd_ne uD]; exact hu
              refine ⟨D, _, _, rfl, rfl, eD5, small1000 (by omega), c', atI_last _ _, upd_same, by rw [← ec']; exact hu2, Ls ++ [R ++ [z + 1]], _, rfl, (srcS s5 s2).put nDa.symm _, (b12.trans (But.of s5)).put fD _, ?_, ?_, ?_⟩
              · rw [List.map_append]
                exact (tu2.nl m).snoc (tpL hu2)
              · rw [show (3 : Int) * ((j + 1 : Nat) : Int) = 3 * (j : Int) + 3 by omega]
                exact lb2
              · rw [List.length_append, lj]; rfl
            refine ⟨p, t, R.map V.int, [.int (z + 1)], rfl, rfl, .inl (.inl hp4), .inl (.inl ht), by rw [List.length_map]; exact Nat.le_trans (by show R.length + 1 ≤ 4; omega) (by show 4 ≤ sizeLine; decide), fun e0 => ?_, (fun _ q => by cases q), fun _ _ u nu => ?_⟩
            · have eR0 : R = [] := List.map_eq_nil_iff.mp e0
              obtain ⟨l', xs', y', e1, e2, e3, e4, c2, f1, f2, f3, Ls', us', f4, f5, f6, f7, f8, f9⟩ := fin t H4 sn (by rw [eR0]; exact ht)
              exact ⟨l', xs', y', e1, e2, e3, e4, _, rfl, 1, rfl, D, _, -1, _, rfl, rfl, .inl (.inl f2), f1, t, _, 0, _, rfl, rfl, .inl (.inl f3), at_of' (j := 0) rfl rfl, Ls', c2, us', _, _, rfl, f5, f6, by rw [f4]; exact f2, f7, f8, f9⟩
            · have su := same_upd (o := .tup (R.map V.int ++ [.int (z + 1)])) nu
              obtain ⟨l', xs', y', e1, e2, e3, e4, c2, f1, f2, f3, Ls', us', f4, f5, f6, f7, f8, f9⟩ := fin u _ (sn.trans su) (by rw [upd_same, List.map_append]; rfl)
              exact ⟨l', xs', y', e1, e2, e3, e4, _, rfl, 1, rfl, D, _, -1, _, rfl, rfl, .inl (.inl f2), f1, u, _, 0, _, rfl, rfl, .inl (.inl f3), at_of' (j := 0) rfl rfl, Ls', c2, us', _, _, rfl, f5, f6, by rw [f4]; exact f2, f7, f8, f9⟩
        · rw [decide_eq_false (fun h => h4 (V.int.inj h))]
          refine iteF (iteF ?_)
          obtain ⟨R, z, eR⟩ : ∃ R z, c :: r = R ++ [z] := ⟨_, _, (List.dropLast_concat_getLast (by simp)).symm⟩
          have lR : (R ++ [z]).length ≤ 3 := by rw [← eR]; exact lM.2.1
          have eLs2 := eLs
          rw [eR] at eLs2
          obtain ⟨c', r', ec', lb2⟩ := lb_up lb eLs2
          have hlR := hl
          rw [eR] at hlR
          have lR2 : R.length + 1 ≤ 3 := by rw [List.length_append] at lR; exact lR
          refine ⟨_, rfl, .inl ⟨rfl, _, .inl (.inl eD2)⟩, _, rfl, 1, rfl, D, _, -1, _, rfl, rfl, .inl (.inl eD2), aL, 1, rfl, _, rfl, l, _, rfl, .inl (.inl hlR), (fun w => ?_), fun _ p np => ?_⟩
          · exact absurd w.2 (by
              show ¬ ((-1 : Int) + (((R ++ [z]).map V.int).length : Int)).toNat = ((R ++ [z]).map V.int).length
              rw [List.length_map, List.length_append]
              show ¬ ((-1 : Int) + ((R.length + 1 : Nat) : Int)).toNat = R.length + 1
              omega)
          have ecut : cutV ((R ++ [z]).map V.int) none (some (-1)) = R.map V.int := by
            rw [cut_last, List.map_append]
            exact List.dropLast_concat
          have sp := same_upd (o := .tup (cutV ((R ++ [z]).map V.int) none (some (-1)))) np
          have hp : upd H2 p (.tup (cutV ((R ++ [z]).map V.int) none (some (-1)))) p = some (.tup (R.map V.int)) := by rw [upd_same, ecut]
          have s3 := srcS sp s2
          generalize upd H2 p (.tup (cutV ((R ++ [z]).map V.int) none (some (-1)))) = H3 at sp hp s3 ⊢
          refine ⟨_, rfl, 1, rfl, D, _, -1, _, rfl, rfl, .inl (.inl (sp _ _ eD2)), aL, 1, rfl, l, _, -1, _, rfl, rfl, .inl (.inl (sp _ _ hlR)), at_end R z, _, _, rfl, rfl, (by show 1 ≤ sizeLine; decide), fun t nt => ?_⟩
          have st := same_upd (o := .tup [.int (z + 1)]) nt
          have sn := sp.trans st
          have s4 := srcS st s3
          have ht : upd H3 t (.tup [.int (z + 1)]) t = some (.tup [.int (z + 1)]) := upd_same
          have hp4 := st _ _ hp
          generalize upd H3 t (.tup [.int (z + 1)]) = H4 at st sn s4 ht hp4 ⊢
          have fin : ∀ (u : Addr) (Hn : Hp), Same H2 Hn → Hn u = some (.tup ((R ++ [z + 1]).map V.int)) → ∃ l xs y, V.ref D = .ref l ∧ [V.ref u] = [y] ∧ Hn l = some (.lst xs) ∧ xs.length < sizeLine ∧ ∃ c2, atI (xs ++ [y]) (-1) = some (.ref u) ∧ upd Hn l (.lst (xs ++ [y])) D = some (.lst (xs ++ [y])) ∧ upd Hn l (.lst (xs ++ [y])) u = some (.tup (((c2 : Int) :: r').map V.int)) ∧ (∃ Ls' us', us' = xs ++ [y] ∧ Src (upd Hn l (.lst (xs ++ [y]))) a ∧ But a H (upd Hn l (.lst (xs ++ [y]))) ∧ TpAll (upd Hn l (.lst (xs ++ [y]))) us' (Ls'.map dL) ∧ LbOk (3 * ((j + 1 : Nat) : Int)) c2 Ls' ∧ Ls'.length = j + 1) := fun u Hn s5 hu => by
            have eD5 := s5 _ _ eD2
            have uD : u ≠ D := fun q => by rw [q, eD5] at hu; cases hu
            have m := (NL.of s5).put eD5 (.lst ((W ++ [V.ref l]) ++ [.ref u]))
            have hu2 : upd Hn D (.lst ((W ++ [V.ref l]) ++ [.ref u])) u = some (.tup ((R ++ [z + 1]).map V.int)) := by rw [upd_ne uD]; exact hu
            refine ⟨D, _, _, rfl, rfl, eD5, small1000 (by omega), c', atI_last _ _, upd_same, by rw [← ec']; exact hu2, Ls ++ [R ++ [z + 1]], _, rfl, (srcS s5 s2).put nDa.symm _, (b12.trans (But.of s5)).put fD _, ?_, ?_, ?_⟩
            · rw [List.map_append]
              exact (tu2.nl m).snoc (tpL hu2)
            · rw [show (3 : Int) * ((j + 1 : Nat) : Int) = 3 * (j : Int) + 3 by omega]
              exact lb2
            · rw [List.length_append, lj]; rfl
          refine ⟨p, t, R.map V.int, [.int (z + 1)], rfl, rfl, .inl (.inl hp4), .inl (.inl ht), by rw [List.length_map]; exact Nat.le_trans (by show R.length + 1 ≤ 4; omega) (by show 4 ≤ sizeLine; decide), fun e0 => ?_, (fun _ q => by cases q), fun _ _ u nu => ?_⟩
          · have eR0 : R = [] := List.map_eq_nil_iff.mp e0
            obtain ⟨l', xs', y', e1, e2, e3, e4, c2, f1, f2, f3, Ls', us', f4, f5, f6, f7, f8, f9⟩ := fin t H4 sn (by rw [eR0]; exact ht)
            exact ⟨l', xs', y', e1, e2, e3, e4, _, rfl, 1, rfl, D, _, -1, _, rfl, rfl, .inl (.inl f2), f1, t, _, 0, _, rfl, rfl, .inl (.inl f3), at_of' (j := 0) rfl rfl, Ls', c2, us', _, _, rfl, f5, f6, by rw [f4]; exact f2, f7, f8, f9⟩
          · have su := same_upd (o := .tup (R.map V.int ++ [.int (z + 1)])) nu
            obtain ⟨l', xs', y', e1, e2, e3, e4, c2, f1, f2, f3, Ls', us', f4, f5, f6, f7, f8, f9⟩ := fin u _ (sn.trans su) (by rw [upd_same, List.map_append]; rfl)
            exact ⟨l', xs', y', e1, e2, e3, e4, _, rfl, 1, rfl, D, _, -1, _, rfl, rfl, .inl (.inl f2), f1, u, _, 0, _, rfl, rfl, .inl (.inl f3), at_of' (j := 0) rfl rfl, Ls', c2, us', _, _, rfl, f5, f6, by rw [f4]; exact f2, f7, f8, f9⟩
    · rintro σ' H1 ⟨Ls, c, us, y4, y5, rfl, s1, b1, eD, tu, lb, lj⟩
      have hm : ((3 : Int) * (m.toNat : Int)) ≤ 99 := by omega
      refine ⟨_, rfl, q D Ls H1 s1 b1 fD ⟨us, eD, tu⟩ lb.1 (lb_okL lb hm) (fun e => ?_) (by omega)⟩
      rw [e] at lj
      have : m.toNat = 0 := lj.symm
      omega
theorem ok_some_spots (T : Tab K mg) : FnOk P w K mg base CX0 2 T.f_some_spots T.d_some_spots ["_law_source_here", "_law_pages"] (sp_some_spots K) := by
  refine T.F_some_spots.ok sc_some_spots (fun vs H Q E h => ?_) (fun cdv A outer s H vs Q E hr h => ?_)
  · obtain ⟨a, b, us, rfl, _⟩ := h
    rfl
  · obtain ⟨a, b, us, rfl, src, ba, hb, l1, l9, q⟩ := h
    refine ⟨_, (pss_cons (ps_if (pt_cmpR op_le (pe_callB call_len_seq (by rfl) T.m_len PySem.boot_len (pa_cons (pv 1) pa_nil)) pe_int (nomark _))
      (pss_one (ps_ret (pe_lc (own := [("_law_k", 2)]) (g := gName 2) (by rfl) sc_some_spots.nd (pi_range1 (by rfl) T.m_range (pa_cons (pe_callB call_len_seq (by rfl) T.m_len PySem.boot_len (pa_cons (pv 1) pa_nil)) pa_nil)) (blkOk_by (own := [("_law_k", 2)]) (N := N_some_spots) (sc := defScope s_some_spots) (by decide +kernel)) (fun _ _ _ _ _ => pg_name (i := 2) sc_some_spots.nd rfl (.inl rfl)) (fun _ _ _ _ _ => pts_nil) (fun _ _ _ _ _ => (pv 2)))))
      pss_nil)
      (pss_one (ps_ret (pe_lst (pa_cons pe_int (pa_cons (pe_op op_sub (pe_callB call_len_seq (by rfl) T.m_len PySem.boot_len (pa_cons (pv 1) pa_nil)) pe_int) (pa_cons (pe_call (ok_pick T) (hr.mono (by decide)) (by rfl) T.g_pick T.F_pick.kp T.b_pick .nil pass0 (pa_cons (pv 0) (pa_cons (pe_callB call_len_seq (by rfl) T.m_len PySem.boot_len (pa_cons (pv 1) pa_nil)) pa_nil))) (pa_cons (pe_call (ok_pick T) (hr.mono (by decide)) (by rfl) T.g_pick T.F_pick.kp T.b_pick .nil pass0 (pa_cons (pv 0) (pa_cons (pe_callB call_len_seq (by rfl) T.m_len PySem.boot_len (pa_cons (pv 1) pa_nil)) pa_nil))) pa_nil)))))))), ?_⟩
    refine ⟨_, rfl, b, us, rfl, .inl (.inl (.inl hb)), _, _, rfl, rfl, _, rfl, ite2 (fun e => ?_) (fun e => ?_)⟩
    · have e1 : us.length ≤ 8 := by have := of_decide_eq_true e; omega
      refine ⟨_, rfl, b, us, rfl, .inl (.inl (.inl hb)), _, rfl, by omega, by omega, fun D nD => ?_⟩
      have nDa : D ≠ a := (src.ne nD).symm
      have fD : H D = none := nD
      refine lc_range (lo := 0) (n := (us.length : Int).toNat) (fun j H' => Src H' a ∧ But a H H' ∧ H' D = some (.lst (((List.range j).map fun (i : Nat) => (i : Int)).map V.int))) ⟨src.put nDa.symm _, (But.refl a H).put fD _, upd_same⟩ ?_ ?_
      · rintro j H1 hj ⟨s1, b1, eD⟩
        refine ⟨rfl, _, rfl, _, eD, ?_, s1.put nDa.symm _, b1.put fD _, ?_⟩
        · rw [List.length_map, List.length_map, List.length_range]
          exact small1000 (by omega)
        · rw [upd_same, List.range_succ, List.map_append, List.map_append, Int.zero_add]
          rfl
      · rintro H1 ⟨s1, b1, eD⟩
        refine q D _ H1 s1 b1 fD eD (fun i hi => ?_) ?_
        · obtain ⟨k, hk, rfl⟩ := List.mem_map.mp hi
          have := List.mem_range.mp hk
          omega
        · rw [List.length_map, List.length_range]
          omega
    · refine ⟨_, rfl, b, us, rfl, .inl (.inl (.inl hb)), _, _, rfl, rfl, ?_⟩
      refine ⟨_, rfl, _, rfl, b, us, rfl, .inl (.inl (.inl hb)), a, _, rfl, src, by omega, by omega, fun n1 H1 s1 b1 p1 p2 => ?_⟩
      have hb1 := b1 _ _ ba hb
      refine ⟨_, rfl, _, rfl, b, us, rfl, .inl (.inl (.inl hb1)), a, _, rfl, s1, by omega, by omega, fun n2 H2 s2 b2 p3 p4 => ⟨(by show 4 ≤ sizeLine; decide), fun D nD => ?_⟩⟩
      have nDa : D ≠ a := (s2.ne nD).symm
      have st := same_upd (o := .lst [.int 0, .int ((us.length : Int) - 1), .int n1, .int n2]) nD
      refine q D [0, (us.length : Int) - 1, n1, n2] _ (srcS st s2) ((b1.trans b2).trans (But.of st)) ((b1.trans b2).none nD nDa) upd_same (fun i hi => ?_) (by show 4 ≤ 8; decide)
      simp only [List.mem_cons, List.not_mem_nil, or_false] at hi
      rcases hi with rfl | rfl | rfl | rfl <;> omega
theorem ok_kept_label (T : Tab K mg) : FnOk P w K mg base CX0 3 T.f_kept_label T.d_kept_label ["thing"] (sp_kept_label K) := by
  refine T.F_kept_label.ok sc_kept_label (fun vs H Q E h => ?_) (fun cdv A outer s H vs Q E hr h => ?_)
  · obtain ⟨x, L, rfl, _⟩ := h
    rfl
  · obtain ⟨x, L, rfl, ⟨l, rfl, hl⟩, hL, q⟩ := h
    refine ⟨_, (pss_cons (ps_if (pt_not (pt_val (pe_call (ok_is_sized T) (hr.mono (by decide)) (by rfl) T.g_is_sized T.F_is_sized.kp T.b_is_sized .nil pass0 (pa_cons (pv 0) (pa_cons pe_int (pa_cons (pe_glob (v := .int 3) (by rfl) T.c_MOST_PARTS ⟨_, rfl⟩) pa_nil))))))
      (pss_one (ps_ret pe_non))
      pss_nil)
      (pss_cons (ps_if (PW.pt (pw_or (pt_not (pt_val (pe_callB (cr_all rfl) (by rfl) T.m_all (by decide +kernel) (pa_cons (pe_lc (own := [("part", 1)]) (g := gName 1) (by rfl) sc_kept_label.nd (pi_or (pi_list (pv 0)) (pi_tup (pv 0))) (blkOk_by (own := [("part", 1)]) (N := N_kept_label) (sc := defScope s_kept_label) (by decide +kernel)) (fun _ _ _ _ _ => pg_name (i := 1) sc_kept_label.nd rfl (.inl rfl)) (fun _ _ _ _ _ => pts_nil) (fun _ _ _ _ _ => (pe_call (ok_is_within T) (hr.mono (by decide)) (by rfl) T.g_is_within T.F_is_within.kp T.b_is_within .nil pass0 (pa_cons (pv 1) (pa_cons pe_int (pa_cons pe_int pa_nil)))))) pa_nil)))) (pw_or1 (pt_cmpR op_eq (pe_ix (IxR.or ix_list ix_tup) (pv 0) (pe_un un_neg pe_int) (fun _ _ => rfl)) pe_int (nomark _)))))
      (pss_one (ps_ret pe_non))
      pss_nil)
      (pss_one (ps_ret (pe_callTy call_tuple_of (by rfl) T.m_tuple (by decide +kernel) (pa_cons (pv 0) pa_nil)))))), ?_⟩
    have dx : ∃ d, Dp K H (.ref l) d ∧ items d = some (L.map PyData.int) := by
      rcases hl with hl | hl
      · exact ⟨_, dpL (.inl (.inl hl)), rfl⟩
      · exact ⟨_, .lst hl (dp_ints L), rfl⟩
    obtain ⟨d, hd, hi⟩ := dx
    obtain ⟨R, z, rfl, l3, z0⟩ : ∃ R z, L = R ++ [z] ∧ (R ++ [z]).length ≤ 3 ∧ z ≠ 0 := by
      obtain ⟨R, z, rfl, _, h2, h3, _⟩ := okL_split hL
      exact ⟨R, z, rfl, hL.1, by omega⟩
    have hsz : sz 1 3 d = true := by
      unfold sz
      rw [hi]
      simp only [List.length_map, List.length_append, List.length_singleton]
      rw [List.length_append, List.length_singleton] at l3
      exact decide_eq_true (by omega)
    refine ⟨_, rfl, _, d, 1, 3, rfl, hd, fun H1 s1 => ⟨_, rfl, ?_⟩⟩
    rw [hsz]
    have all : ∀ i ∈ R ++ [z], wI 0 99 (.int i) = true := fun i h => decide_eq_true (hL.2.2 i h)
    rcases hl with hl | hl
    · have hl1 := s1 _ _ hl
      refine .inr ⟨_, rfl, l, rfl, ⟨_, .inl (.inl hl1)⟩, fun D nD => ?_⟩
      refine lc_fm (R ++ [z]) (fun i => some (V.bl (wI 0 99 (.int i)))) (walkT (xs := (R ++ [z]).map V.int) (List.length_map ..)) nD (fun H h => .inl (.inl (h _ _ hl1))) (by omega) ?_ ?_
      · rintro i0 i y H4x H4 er sm ⟨rfl, hy⟩ Rr N hR hN
        rw [List.getElem?_map, er] at hy
        cases hy
        exact ⟨rfl, _, rfl, _, .int _, 0, 99, rfl, .int _, hR _ rfl _ (Same.refl _)⟩
      rintro H2 s2 eD
      rw [map_fm, show (fun i => V.bl (wI 0 99 (.int i))) = V.bl ∘ (fun i => wI 0 99 (.int i)) from rfl, ← List.map_map] at eD
      refine ⟨D, _, rfl, .inl (.inl eD), _, rfl, ?_⟩
      rw [all_map, List.all_eq_true.mpr all]
      have hl2 := s2 _ _ hl1
      refine ⟨_, rfl, 1, rfl, .inr ⟨_, _, _, _, rfl, rfl, .inl (.inl hl2), at_end R z, rfl, _, rfl, ?_⟩⟩
      rw [decide_eq_false (fun h => z0 (V.int.inj h))]
      exact ⟨_, rfl, _, _, rfl, .inr ⟨.inl (.inl hl2), q (.ref l) _ (s1.trans s2) ⟨l, rfl, hl2⟩⟩⟩
    · have hl1 := s1.seq hl
      refine .inl ⟨_, rfl, l, rfl, ⟨_, hl1⟩, fun D nD => ?_⟩
      refine lc_fm (R ++ [z]) (fun i => some (V.bl (wI 0 99 (.int i)))) (walkL (xs := (R ++ [z]).map V.int) (List.length_map ..)) nD (fun H h => h.seq hl1) (by omega) ?_ ?_
      · rintro i0 i y H4x H4 er sm ⟨rfl, hy⟩ Rr N hR hN
        rw [List.getElem?_map, er] at hy
        cases hy
        exact ⟨rfl, _, rfl, _, .int _, 0, 99, rfl, .int _, hR _ rfl _ (Same.refl _)⟩
      rintro H2 s2 eD
      rw [map_fm, show (fun i => V.bl (wI 0 99 (.int i))) = V.bl ∘ (fun i => wI 0 99 (.int i)) from rfl, ← List.map_map] at eD
      refine ⟨D, _, rfl, .inl (.inl eD), _, rfl, ?_⟩
      rw [all_map, List.all_eq_true.mpr all]
      have hl2 := s2.seq hl1
      refine ⟨_, rfl, 1, rfl, .inl ⟨_, _, _, _, rfl, rfl, hl2, at_end R z, rfl, _, rfl, ?_⟩⟩
      rw [decide_eq_false (fun h => z0 (V.int.inj h))]
      refine ⟨_, rfl, _, _, rfl, .inl ⟨hl2, fun t nt => ?_⟩⟩
      exact q (.ref t) _ ((s1.trans s2).trans (same_upd nt)) ⟨t, rfl, upd_same⟩
theorem ok_judged_rows (T : Tab K mg) : FnOk P w K mg base CX0 3 T.f_judged_rows T.d_judged_rows ["rows", "least", "side"] (sp_judged_rows K) := by
  refine T.F_judged_rows.ok sc_judged_rows (fun vs H Q E h => ?_) (fun cdv A outer s H vs Q E hr h => ?_)
  · obtain ⟨a, zs, l, u, rfl, _⟩ := h
    rfl
  · obtain ⟨a, zs, l, u, rfl, ha, hk, q⟩ := h
    refine ⟨_, (pss_cons (ps_if (PW.pt (pw_or (pt_not (pt_val (pe_call (ok_is_sized T) (hr.mono (by decide)) (by rfl) T.g_is_sized T.F_is_sized.kp T.b_is_sized .nil pass0 (pa_cons (pv 0) (pa_cons (pv 1) (pa_cons (pe_glob (v := .int 12) (by rfl) T.c_MOST_ROWS ⟨_, rfl⟩) pa_nil)))))) (pw_or1 (pt_not (pt_val (pe_callB (cr_all rfl) (by rfl) T.m_all (by decide +kernel) (pa_cons (pe_lc (own := [("row", 3)]) (g := gName 3) (by rfl) sc_judged_rows.nd (pi_or (pi_list (pv 0)) (pi_tup (pv 0))) (blkOk_by (own := [("row", 3)]) (N := N_judged_rows) (sc := defScope s_judged_rows) (by decide +kernel)) (fun _ _ _ _ _ => pg_name (i := 3) sc_judged_rows.nd rfl (.inl rfl)) (fun _ _ _ _ _ => pts_nil) (fun _ _ _ _ _ => (pe_call (ok_is_row T) (hr.mono (by decide)) (by rfl) T.g_is_row T.F_is_row.kp T.b_is_row .nil pass0 (pa_cons (pv 3) pa_nil)))) pa_nil)))))))
      (pss_one ps_never)
      pss_nil)
      (pss_one (ps_ret (pe_callTy call_tuple_of (by rfl) T.m_tuple (by decide +kernel) (pa_cons (pv 0) pa_nil))))), ?_⟩
    unfold rowsB at hk
    simp only [Bool.and_eq_true, decide_eq_true_eq, List.all_eq_true] at hk
    obtain ⟨⟨h1, h2⟩, h3⟩ := hk
    have hs : SqT K H a (zs.map V.str) := .inl (.inl ha)
    have dp : Dp K H (.ref a) (dS zs) := (tpS ha).dp
    refine ⟨_, rfl, _, rfl, .ref a, dS zs, l, 12, rfl, dp, fun H1 s1 => ⟨_, rfl, ?_⟩⟩
    have e1 : sz l 12 (dS zs) = true := decide_eq_true (by rw [List.length_map]; omega)
    rw [e1]
    refine iteF ?_
    refine .inr ⟨_, rfl, a, rfl, ⟨_, same_seqT s1 hs⟩, fun D nD => ?_⟩
    refine lc_fm zs (fun z => some (V.bl (rowB z))) (walkT (xs := zs.map V.str) (List.length_map ..)) nD (fun H h => same_seqT h (same_seqT s1 hs)) (by omega) ?_ ?_
    · rintro i d x H2 H3 ed sm ⟨rfl, hx⟩ R N hR hN
      rw [List.getElem?_map, ed] at hx
      cases hx
      have hr := h3 d (List.mem_of_getElem? ed)
      have hz : d.length ≤ 120 := by
        unfold rowB at hr
        simp only [Bool.and_eq_true, decide_eq_true_eq] at hr
        exact hr.1.1
      exact ⟨rfl, _, rfl, d, rfl, by omega, fun H' s => hR _ rfl _ s⟩
    · rintro H2 sm eD
      rw [map_fm, show (fun d => V.bl (rowB d)) = V.bl ∘ rowB from rfl, ← List.map_map] at eD
      refine ⟨D, _, rfl, .inl (.inl eD), _, rfl, ?_⟩
      rw [all_map, List.all_eq_true.mpr h3]
      refine iteF ?_
      exact ⟨_, rfl, a, _, rfl, .inr ⟨same_seqT (s1.trans sm) hs, q _ (s1.trans sm)⟩⟩
theorem ok_is_stroke (T : Tab K mg) : FnOk P w K mg base CX0 3 T.f_is_stroke T.d_is_stroke ["thing"] (sp_is_stroke K) := by
  refine T.F_is_stroke.ok sc_is_stroke (fun vs H Q E h => ?_) (fun cdv A outer s H vs Q E hr h => ?_)
  · obtain ⟨rfl, _⟩ := h
    rfl
  · exact h.2.elim
theorem ok_Book_init (T : Tab K mg) : FnOk P w K mg base CX0 3 T.f_Book_init T.d_Book_init ["self", "leaves"] (sp_Book_init K T.C_Leaf T.C_Book) := by
  refine T.F_Book_init.ok sc_Book_init (fun vs H Q E h => ?_) (fun cdv A outer s H vs Q E hr h => ?_)
  · obtain ⟨x, dx, a, xs, bk, rfl, _⟩ := h
    rfl
  · obtain ⟨x, dx, a, xs, bk, rfl, hx, ha, hl, ho, q⟩ := h
    refine ⟨_, (pss_cons (ps_fld (pv 0) (pe_call (ok_judged_leaves T) (hr.mono (by decide)) (by rfl) T.g_judged_leaves T.F_judged_leaves.kp T.b_judged_leaves .nil pass0 (pa_cons (pv 1) pa_nil)) rfl)
      (pss_one (ps_fld (pv 0) (pe_dcT (own := [("k", 2), ("leaf", 3)]) (g := gTup K 2 _) (by have z := un2 hr; exact Nat.lt_of_le_of_lt (Nat.add_le_add_left (by decide) _) z) (by rfl) sc_Book_init.nd (pi_enumT (by rfl) T.m_enumerate (pa_cons (pe_fld (pv 0) rfl) pa_nil)) (blkOk_by (own := [("k", 2), ("leaf", 3)]) (N := N_Book_init) (sc := defScope s_Book_init) (by decide +kernel)) (fun _ _ _ _ _ => pg_tup (by rfl) (pgs_cons (pg_name (i := 2) sc_Book_init.nd rfl (.inl rfl)) (pgs_cons (pg_name (i := 3) sc_Book_init.nd rfl (.inl rfl)) pgs_nil))) (fun _ _ _ _ _ => (pe_fldK (K := K) rfl (pv 3) rfl)) (fun _ _ _ _ _ => (pv 2))) rfl))), ?_⟩
    have len := hl.len
    refine ⟨_, rfl, a, xs, bk, rfl, ha, hl, ho, fun t H1 s1 ht => ?_⟩
    have tx : t ≠ x := fun z => by rw [z, s1 _ _ hx] at ht; cases ht
    refine ⟨_, rfl, x, _, dx, _, rfl, s1 _ _ hx, T.cl_Book, T.na_Book_leaves, (show 0 < 1000 by decide), ?_⟩
    refine ⟨_, rfl, x, _, dx, _, _, rfl, upd_same, T.cl_Book, T.na_Book_leaves, rfl, ?_⟩
    have b1 : But x H (upd H1 x (.ins T.C_Book dx (putF "leaves" (.ref t) []))) := (But.of s1).trans (But.upd _)
    have ht2 : upd H1 x (.ins T.C_Book dx (putF "leaves" (.ref t) [])) t = some (.tup xs) := by rw [upd_ne tx]; exact ht
    have hx2 : upd H1 x (.ins T.C_Book dx (putF "leaves" (.ref t) [])) x = some (.ins T.C_Book dx (putF "leaves" (.ref t) [])) := upd_same
    generalize upd H1 x (.ins T.C_Book dx (putF "leaves" (.ref t) [])) = H2 at b1 ht2 hx2
    have nl2 : ∀ {v : V} {l : Lf}, LfAt T.C_Leaf H v l → LfAt T.C_Leaf H2 v l := fun h => NL.butI hx b1 h
    refine ⟨t, xs, rfl, .inl (.inl ht2), fun D nD => ?_⟩
    refine dc_it (walk_enumT (xs := xs)) (fun i H' => Same H2 H' ∧ H' D = some (.dT (spots bk i))) ⟨same_upd nD, upd_same⟩ (fun _ H' _ hh => .inl (.inl (hh.1 _ _ ht2))) ?_ ?_
    · rintro i y H3 H4 hi ⟨sm, eD⟩ ⟨p, u, v, rfl, np, rfl, eu, ev⟩
      cases eu
      obtain ⟨lf, el, hf⟩ := hl.get ev
      obtain ⟨z, dz, l, f, b, pn, s, rfl, hz, hL, _⟩ := LfAt.nl (NL.of sm) (nl2 hf)
      refine ⟨p, [.int (i : Nat), .ref z], rfl, .inl (.inl upd_same), rfl, _, _, rfl, _, _, rfl, rfl, rfl, ?_⟩
      have k : ∀ {q : Addr} {o : HO}, H3 q = some o → upd H3 p (.tup [.int (i : Nat), .ref z]) q = some o := fun e => by rw [upd_ne (ne_of_none e np)]; exact e
      refine ⟨_, rfl, z, _, dz, _, _, rfl, k hz, T.cl_Leaf, T.na_Leaf_label, fLf_label, _, rfl, l, spots bk i, lf.L.map Sum.inl, rfl, k eD, by rw [kL]; exact k hL, ?_, same_put (sm.trans (same_upd np)) nD _, ?_⟩
      · have := spots_len bk i
        have := ho.1
        exact small1000 (by omega)
      · rw [upd_same]
        show some (HO.dT (putK (spots bk i) (lf.L.map Sum.inl) (.int (i : Nat)))) = some (.dT (match bk[i]? with | some l => putK (spots bk i) (l.L.map Sum.inl) (.int (i : Nat)) | none => spots bk i))
        rw [el]
    · rintro H3 ⟨sm, eD⟩
      have Dx : D ≠ x := fun z => by rw [z, sm _ _ hx2] at eD; cases eD
      have tx3 := sm _ _ ht2
      refine ⟨_, rfl, x, _, dx, _, rfl, sm _ _ hx2, T.cl_Book, T.na_Book__spots, (show 1 < 1000 by decide), ?_⟩
      refine q _ ?_ ((b1.trans (But.of sm)).trans (But.upd _))
      refine ⟨x, dx, t, D, xs, rfl, upd_same, by rw [upd_ne tx]; exact tx3, ?_, ?_, ho.1⟩
      · exact LfAll.butI hx ((b1.trans (But.of sm)).trans (But.upd _)) hl
      · rw [upd_ne Dx, ← len]; exact eD
theorem ok_place_true (T : Tab K mg) : FnOk P w K mg base CX0 3 T.f_place_true T.d_place_true ["_law_labels", "_law_own", "_law_goal", "_law_word", "_law_nigh"] (sp_place_true K) := by
  refine T.F_place_true.ok sc_place_true (fun vs H Q E h => ?_) (fun cdv A outer s H vs Q E hr h => ?_)
  · obtain ⟨a, o, g, z, n, Ls, p, r, rfl, _⟩ := h
    rfl
  · obtain ⟨a, o, g, z, n, Ls, p, r, rfl, hL, ne, h60, ho, hg, okp, okr, q⟩ := h
    refine ⟨_, (pss_cons (ps_if (pt_cmpR op_eq (pv 3) pe_str (nomark _))
      (pss_one (ps_ret (pe_and (pv 4) (pe_one (pe_cmpR (op_eqD hr.units) (pv 1) (pv 2) (nomark _))))))
      pss_nil)
      (pss_cons (ps_if (pt_cmpR op_eq (pv 3) pe_str (nomark _))
      (pss_one (ps_ret (pe_and (pv 4) (pe_and (pe_cmpR (op_eqD hr.units) (pe_ix ix_tup (pv 1) pe_int (fun _ _ => rfl)) (pe_ix ix_tup (pv 2) pe_int (fun _ _ => rfl)) (nomark _)) (pe_one (pe_cmpR op_ne (pe_ix ix_tup (pv 1) pe_int (fun _ _ => rfl)) (pe_ix ix_tup (pv 2) pe_int (fun _ _ => rfl)) (nomark _)))))))
      pss_nil)
      (pss_cons (ps_if (pt_cmpR op_eq (pv 3) pe_str (nomark _))
      (pss_one (ps_ret (pe_and (pv 4) (pe_one (pe_call (ok_faces T) (hr.mono (by decide)) (by rfl) T.g_faces T.F_faces.kp T.b_faces .nil pass0 (pa_cons (pv 0) (pa_cons (pv 1) (pa_cons (pv 2) pa_nil))))))))
      pss_nil)
      (pss_one (ps_ret (pe_cmpR op_eq (pv 3) (pe_call (ok_page_word T) (hr.mono (by decide)) (by rfl) T.g_page_word T.F_page_word.kp T.b_page_word .nil pass0 (pa_cons (pv 2) pa_nil)) (nomark _))))))), ?_⟩
    obtain ⟨q1, q2, q3⟩ := ho_
    have q0 := q H (Same.refl H)
    have sE : ∀ y : Str, decide (V.str z = V.str y) = decide (z = y) := fun y => by
      apply decide_eq_decide.mpr
      exact ⟨fun h => V.str.inj h, congrArg _⟩
    refine ⟨_, rfl, rfl, _, rfl, ite2 (fun e => ?_) (fun e => ?_)⟩
    · have e1 : z = "here" := V.str.inj (of_decide_eq_true e)
      subst e1
      have t1 : placeT n p r (facesB Ls p r) "here" = (n && decide (p = r)) := if_pos rfl
      rw [t1] at q0
      refine ⟨_, rfl, n, rfl, ?_⟩
      cases n with
      | false => exact iteF q0
      | true =>
        refine iteT ⟨_, rfl, _, rfl, dP p, dP r, ho.dp, hg.dp, shaped_P _, shaped_P _, ?_⟩
        rw [eqv_dP]
        exact q0
    have n1 : ¬ z = "here" := fun h => e (decide_eq_true (congrArg V.str h))
    obtain ⟨a1, b1, rfl, ha1, hb1⟩ := pg_inv ho
    obtain ⟨a2, b2, rfl, ha2, hb2⟩ := pg_inv hg
    refine ⟨_, rfl, rfl, _, rfl, ite2 (fun e2 => ?_) (fun e2 => ?_)⟩
    · have e1 : z = "overleaf" := V.str.inj (of_decide_eq_true e2)
      subst e1
      have t2 : placeT n p r (facesB Ls p r) "overleaf" = (n && (decide (p.1 = r.1) && decide (p.2 ≠ r.2))) := by
        unfold placeT
        rw [if_neg q1.symm, if_pos rfl]
      rw [t2] at q0
      refine ⟨_, rfl, n, rfl, ?_⟩
      cases n with
      | false => exact iteF q0
      | true =>
        refine iteT ⟨_, rfl, a1, _, 0, _, rfl, rfl, .inl (.inl ha1), rfl, _, rfl, a2, _, 0, _, rfl, rfl, .inl (.inl ha2), rfl, dL p.1, dL r.1, (tpL hb1).dp, (tpL hb2).dp, shaped_L _, shaped_L _, decide (p.1 = r.1), ?_, ?_⟩
        · rw [eqv_L]
        · cases c : decide (p.1 = r.1) with
          | false =>
            rw [c] at q0
            exact iteF q0
          | true =>
            rw [c] at q0
            refine iteT ⟨_, rfl, a1, _, 1, _, rfl, rfl, .inl (.inl ha1), rfl, _, rfl, a2, _, 1, _, rfl, rfl, .inl (.inl ha2), rfl, rfl, ?_⟩
            have : (true && (true && decide (p.2 ≠ r.2))) = !decide (V.int p.2 = V.int r.2) := by
              rw [Bool.eq_iff_iff]
              simp
            rw [this] at q0
            exact q0
    have n2 : ¬ z = "overleaf" := fun h => e2 (decide_eq_true (congrArg V.str h))
    refine ⟨_, rfl, rfl, _, rfl, ite2 (fun e3 => ?_) (fun e3 => ?_)⟩
    · have e1 : z = "facing" := V.str.inj (of_decide_eq_true e3)
      subst e1
      have t3 : placeT n p r (facesB Ls p r) "facing" = (n && facesB Ls p r) := by
        unfold placeT
        rw [if_neg q2.symm, if_neg q3.symm, if_pos rfl]
      rw [t3] at q0 q
      refine ⟨_, rfl, n, rfl, ?_⟩
      cases n with
      | false => exact iteF q0
      | true => exact iteT ⟨_, rfl, _, rfl, _, rfl, a, _, _, Ls, p, r, rfl, hL, ne, h60, ho, hg, okp, okr, q⟩
    · have n3 : ¬ z = "facing" := fun h => e3 (decide_eq_true (congrArg V.str h))
      have t4 : placeT n p r (facesB Ls p r) z = decide (z = fP r) := by
        unfold placeT
        rw [if_neg n1, if_neg n2, if_neg n3]
      rw [t4] at q
      refine ⟨_, rfl, _, rfl, _, r, rfl, hg.dp, okr, fun H1 s1 => ⟨rfl, ?_⟩⟩
      have := q H1 s1
      rw [← sE] at this
      exact this
theorem ok_draw_leaves (T : Tab K mg) : FnOk P w K mg base CX0 3 T.f_draw_leaves T.d_draw_leaves ["_law_source_here"] (sp_draw_leaves K) := by
  refine T.F_draw_leaves.ok sc_draw_leaves (fun vs H Q E h => ?_) (fun cdv A outer s H vs Q E hr h => ?_)
  · obtain ⟨a, rfl, _⟩ := h
    rfl
  · obtain ⟨a, rfl, src, q⟩ := h
    refine ⟨_, (pss_cons (ps_set (i := 1) sc_draw_leaves.nd rfl (.inl rfl) (pe_call (ok_book_labels T) (hr.mono (by decide)) (by rfl) T.g_book_labels T.F_book_labels.kp T.b_book_labels .nil pass0 (pa_cons (pv 0) (pa_cons (pe_op op_add pe_int (pe_call (ok_pick T) (hr.mono (by decide)) (by rfl) T.g_pick T.F_pick.kp T.b_pick .nil pass0 (pa_cons (pv 0) (pa_cons pe_int pa_nil)))) pa_nil))))
      (C8.pss_cut (ps_if (pt_cmpR op_eq (pe_call (ok_pick T) (hr.mono (by decide)) (by rfl) T.g_pick T.F_pick.kp T.b_pick .nil pass0 (pa_cons (pv 0) (pa_cons pe_int pa_nil))) pe_int (nomark _))
      (pss_one (ps_setLc (i := 1) (own := [("_law_k", 5)]) (g := gName 5) (by rfl) sc_draw_leaves.nd rfl rfl (sw_true rfl rfl rfl (by decide +kernel)) (pi_range1 (by rfl) T.m_range (pa_cons pe_int pa_nil)) (blkOk_by (own := [("_law_k", 5)]) (N := N_draw_leaves) (sc := defScope s_draw_leaves) (by decide +kernel)) (fun _ _ _ _ _ => pg_name (i := 5) sc_draw_leaves.nd rfl (.inl rfl)) (fun _ _ _ _ _ => pts_nil) (fun _ _ _ _ _ => (pe_tup (pa_cons (pe_op op_fdiv (pv 5) pe_int) (pa_cons (pe_op op_add pe_int (pe_op op_mod (pe_callTy call_int1 (by rfl) T.m_int (by decide +kernel) (pa_cons (pv 5) pa_nil)) pe_int)) pa_nil))))))
      pss_nil)
      (pss_cons (ps_set (i := 2) sc_draw_leaves.nd rfl (.inl rfl) (pe_lst pa_nil))
      (pss_cons (ps_for PassesOwn.never rfl (pi_list (pv 1)) (pg_name (i := 3) sc_draw_leaves.nd rfl (.inl rfl))
      (pss_cons (ps_set (i := 4) sc_draw_leaves.nd rfl (.inl rfl) (pe_ix ix_list (pe_lst (pa_cons (pe_tup pa_nil) (pa_cons (pe_tup (pa_cons pe_str pa_nil)) (pa_cons (pe_tup (pa_cons pe_str pa_nil)) pa_nil)))) (pe_call (ok_pick T) (hr.mono (by decide)) (by rfl) T.g_pick T.F_pick.kp T.b_pick .nil pass0 (pa_cons (pv 0) (pa_cons pe_int pa_nil))) (fun _ _ => rfl)))
        (pss_one (ps_expr (pe_bm PySem.F.plainAttrs_list PySem.F.slot_list_append PySem.F.type_list_append mt_append (pv 2) (pa_cons (pe_tup (pa_cons (pv 3) (pa_cons (pe_tup (pa_cons (pe_ix ix_list (pe_lst (pa_cons pe_str (pa_cons pe_str (pa_cons pe_str pa_nil)))) (pe_call (ok_pick T) (hr.mono (by decide)) (by rfl) T.g_pick T.F_pick.kp T.b_pick .nil pass0 (pa_cons (pv 0) (pa_cons pe_int pa_nil))) (fun _ _ => rfl)) pa_nil)) (pa_cons (pv 4) (pa_cons (pe_tup pa_nil) pa_nil))))) pa_nil))))))
      (pss_one (ps_ret (pv 2))))))), ?_⟩
    refine ⟨_, rfl, _, rfl, a, 4, rfl, src, by decide, by decide, fun n1 H1 s1 b1 p1 p2 => ⟨_, _, rfl, rfl, a, 1 + n1, rfl, s1, by omega, by omega, fun l Ls H2 s2 b2 nl hl pw okl ne l4 => ?_⟩⟩
    have nla : l ≠ a := (s1.ne nl).symm
    refine ⟨fun σ' H' => ∃ (l : Addr) (Ls : List (List Int)), σ' = [some (.ref a), some (.ref l), none, none, none, none] ∧ Src H' a ∧ But a H H' ∧ l ≠ a ∧ LbAt H' l Ls ∧ Ls.Pairwise (fun a b => HT.lexLt a b = true) ∧ (∀ L ∈ Ls, okL L) ∧ Ls ≠ [] ∧ Ls.length ≤ 60, ?_, ?_⟩
    · refine ⟨_, rfl, a, 8, rfl, s2, by decide, by decide, fun n3 H3 s3 b3 _ _ => ⟨rfl, _, rfl, ite2 (fun _ => ?_) (fun _ => ?_)⟩⟩
      · refine ⟨60, rfl, by decide, by decide, fun D nD => ?_⟩
        have nDa : D ≠ a := (s3.ne nD).symm
        have b13 := (b1.trans b2).trans b3
        have fD : H D = none := b13.none nD nDa
        refine lc_range (lo := 0) (n := 60) (fun j H' => Src H' a ∧ But a H H' ∧ ∃ us, H' D = some (.lst us) ∧ TpAll H' us ((lab60.take j).map dL)) ⟨s3.put nDa.symm _, b13.put fD _, [], upd_same, .nil⟩ ?_ ?_
        · rintro j H4 hj ⟨s4, b4, us, eD, tu⟩
          have ej : lab60[j]? = some [((0 : Int) + (j : Int)) / 9, 1 + ((0 : Int) + (j : Int)) % 9] := by
            unfold lab60
            rw [List.getElem?_map, List.getElem?_range hj, Int.zero_add]
            rfl
          have ul : us.length ≤ 60 := by
            rw [tu.len, List.length_map, List.length_take]
            exact Nat.le_trans (Nat.min_le_left _ _) (Nat.le_of_lt hj)
          refine ⟨rfl, ?_⟩
          refine ⟨_, rfl, _, _, rfl, rfl, ⟨by decide, by decide⟩, _, rfl, .inl ⟨_, rfl, _, _, rfl, rfl, (show (0 : Int) < 9 by decide), _, _, rfl, rfl, (by show 2 ≤ sizeLine; decide), fun t nt => ?_⟩⟩
          have st := same_upd (o := .tup [.int (((0 : Int) + (j : Int)) / 9), .int (1 + ((0 : Int) + (j : Int)) % 9)]) nt
          have e5 := st _ _ eD
          have m := (NL.of st).put e5 (.lst (us ++ [.ref t]))
          refine ⟨us, e5, small1000 (by omega), (srcS st s4).put nDa.symm _, (b4.trans (But.of st)).put fD _, us ++ [.ref t], upd_same, ?_⟩
          rw [List.take_add_one, ej, List.map_append]
          exact (tu.nl m).snoc (tpL (L := [((0 : Int) + (j : Int)) / 9, 1 + ((0 : Int) + (j : Int)) % 9]) (by rw [upd_ne (fun z => by rw [z, eD] at nt; cases nt)]; exact upd_same))
        · rintro H4 ⟨s4, b4, us, eD, tu⟩
          have l60 : lab60.length = 60 := by unfold lab60; rw [List.length_map, List.length_range]
          rw [List.take_of_length_le (Nat.le_of_eq l60)] at tu
          exact ⟨D, lab60, rfl, s4, b4, nDa, ⟨us, eD, tu⟩, lab60_ok.1, lab60_ok.2, (fun e => by rw [e] at l60; cases l60), Nat.le_of_eq l60⟩
      · refine ⟨l, Ls, rfl, s3, (b1.trans b2).trans b3, nla, ?_, pw, okl, ne, by omega⟩
        obtain ⟨us, h1, h2⟩ := hl
        exact ⟨us, b3 _ _ nla h1, h2.nl (s2.nl b3)⟩
    rintro σ' H3 ⟨l, Ls, rfl, s3, b3, nla, ⟨ls, hl, tl⟩, pw, okl, ne, l60⟩
    refine ⟨Nat.zero_le _, fun D nD => ?_⟩
    have nDa : D ≠ a := (s3.ne nD).symm
    have fD : H D = none := b3.none nD nDa
    have lD : l ≠ D := fun z => by rw [z, nD] at hl; cases hl
    have len := tl.len
    rw [List.length_map] at len
    have s0 := same_upd (o := .lst []) nD
    refine ⟨_, rfl, l, rfl, ⟨_, .inl (.inl (s0 _ _ hl))⟩, for_list (xs := ls) (fun i σ' H' => ∃ (bk : List Lf) (us : List V) (y3 y4 : Option V), σ' = [some (.ref a), some (.ref l), some (.ref D), y3, y4, none] ∧ Src H' a ∧ But a H H' ∧ H' l = some (.lst ls) ∧ TpAll H' ls (Ls.map dL) ∧ H' D = some (.lst us) ∧ TpAll H' us (bk.map dLf) ∧ (∀ l ∈ bk, okLf l ∧ SokL l) ∧ bk.map (·.L) = Ls.take i) ⟨[], [], none, none, rfl, srcS s0 s3, b3.trans (But.of s0), s0 _ _ hl, tl.nl (NL.of s0), upd_same, .nil, (fun _ h => nomatch h), rfl⟩ (fun i σ' H' _ hh => by obtain ⟨_, _, _, _, _, _, _, e, _⟩ := hh; exact .inl (.inl e)) ?_ ?_⟩
    · rintro i x σ' H4 hx ⟨bk, us, y3, y4, rfl, s4, b4, hl4, tl4, eD, tu, oB, eB⟩
      obtain ⟨d, ed, td⟩ := tl4.get hx
      obtain ⟨L, el, rfl⟩ : ∃ L, Ls[i]? = some L ∧ d = dL L := by
        rw [List.getElem?_map] at ed
        cases e : Ls[i]? with
        | none => rw [e] at ed; cases ed
        | some l => rw [e] at ed; exact ⟨l, rfl, (Option.some.inj ed).symm⟩
      have hok := okl L (List.mem_of_getElem? el)
      have ul : us.length ≤ 100 := by
        rw [tu.len, List.length_map, ← List.length_map (f := (·.L)), eB, List.length_take]
        omega
      refine ⟨(by show 0 ≤ sizeLine; decide), fun t0 n0 => ⟨(by show 1 ≤ sizeLine; decide), fun t1 n1 => ⟨(by show 1 ≤ sizeLine; decide), fun t2 n2 => ⟨(by show 3 ≤ sizeLine; decide), fun w nw => ?_⟩⟩⟩⟩
      have e0 := same_upd (o := .tup []) n0
      have e1 := same_upd (o := .tup [.str "y"]) n1
      have e2 := same_upd (o := .tup [.str "* y"]) n2
      have e3 := same_upd (o := .lst [.ref t0, .ref t1, .ref t2]) nw
      have h0 := e3 _ _ (e2 _ _ (e1 _ _ (upd_same (H := H4) (a := t0) (o := .tup []))))
      have h1 := e3 _ _ (e2 _ _ (upd_same (a := t1) (o := .tup [.str "y"])))
      have h2 := e3 _ _ (upd_same (a := t2) (o := .tup [.str "* y"]))
      have hw : (upd (upd (upd (upd H4 t0 (.tup [])) t1 (.tup [.str "y"])) t2 (.tup [.str "* y"])) w (.lst [.ref t0, .ref t1, .ref t2])) w = some (.lst [.ref t0, .ref t1, .ref t2]) := upd_same
      have e := ((e0.trans e1).trans e2).trans e3
      have wa : w ≠ a := ((srcS ((e0.trans e1).trans e2) s4).ne nw).symm
      generalize upd (upd (upd (upd H4 t0 (.tup [])) t1 (.tup [.str "y"])) t2 (.tup [.str "* y"])) w (.lst [.ref t0, .ref t1, .ref t2]) = H5 at h0 h1 h2 hw e ⊢
      have s5 := srcS e s4
      refine ⟨_, rfl, a, 3, rfl, s5, by decide, by decide, fun c H6 s6 b6 c0 c3 => ?_⟩
      obtain ⟨g, zs, eat, hg, rz, sz⟩ : ∃ (g : Addr) (zs : List Str), atI [V.ref t0, .ref t1, .ref t2] c = some (.ref g) ∧ H5 g = some (.tup (zs.map V.str)) ∧ rowsB 0 zs = true ∧ (∀ z ∈ zs, PyData.strOk z = true) := by
        rcases (show c = 0 ∨ c = 1 ∨ c = 2 by omega) with rfl | rfl | rfl
        · exact ⟨t0, [], rfl, h0, by decide +kernel, fun _ h => nomatch h⟩
        · exact ⟨t1, ["y"], rfl, h1, by decide +kernel, by decide +kernel⟩
        · exact ⟨t2, ["* y"], rfl, h2, by decide +kernel, by decide +kernel⟩
      have hg6 : H6 g = some (.tup (zs.map V.str)) := (s5.nl b6) _ _ hg (fun _ z => nomatch z)
      refine ⟨w, _, c, _, rfl, rfl, .inl (.inl (b6 _ _ wa hw)), eat, ?_⟩
      have eD6 := b6 _ _ nDa (e _ _ eD)
      refine ⟨_, rfl, .inl ⟨rfl, _, .inl (.inl eD6)⟩, _, rfl, (by show 3 ≤ sizeLine; decide), fun w2 nw2 => ?_⟩
      have e7 := same_upd (o := .lst [.str "x", .str "*", .str "1 x"]) nw2
      have wa2 : w2 ≠ a := (s6.ne nw2).symm
      have hw2 : upd H6 w2 (.lst [.str "x", .str "*", .str "1 x"]) w2 = some (.lst [.str "x", .str "*", .str "1 x"]) := upd_same
      have s7 := srcS e7 s6
      generalize upd H6 w2 (.lst [.str "x", .str "*", .str "1 x"]) = H7 at e7 hw2 s7 ⊢
      refine ⟨_, rfl, a, 3, rfl, s7, by decide, by decide, fun c2 H8 s8 b8 c4 c5 => ?_⟩
      obtain ⟨y, eat2, ry, sy⟩ : ∃ (y : Str), atI [V.str "x", .str "*", .str "1 x"] c2 = some (.str y) ∧ rowsB 1 [y] = true ∧ (∀ z ∈ [y], PyData.strOk z = true) := by
        rcases (show c2 = 0 ∨ c2 = 1 ∨ c2 = 2 by omega) with rfl | rfl | rfl
        · exact ⟨"x", rfl, by decide +kernel, by decide +kernel⟩
        · exact ⟨"*", rfl, by decide +kernel, by decide +kernel⟩
        · exact ⟨"1 x", rfl, by decide +kernel, by decide +kernel⟩
      refine ⟨w2, _, c2, _, rfl, rfl, .inl (.inl (b8 _ _ wa2 hw2)), eat2, (by show 1 ≤ sizeLine; decide), fun f nf => ?_⟩
      have e9 := same_upd (o := .tup [.str y]) nf
      have s9 := srcS e9 s8
      have hf : upd H8 f (.tup [.str y]) f = some (.tup ([y].map V.str)) := upd_same
      have n68 : NL H6 H8 := (NL.of e7).trans (s7.nl b8)
      have n48 : NL H4 H8 := ((NL.of e).trans (s5.nl b6)).trans n68
      have b48 : But a H4 H8 := (((But.of e).trans b6).trans (But.of e7)).trans b8
      have hg9 := (n68.trans (NL.of e9)) _ _ hg6 (fun _ z => nomatch z)
      have n49 := n48.trans (NL.of e9)
      have b49 := b48.trans (But.of e9)
      generalize upd H8 f (.tup [.str y]) = H9 at e9 s9 hf hg9 n49 b49 ⊢
      refine ⟨_, rfl, (by show 0 ≤ sizeLine; decide), fun p np => ⟨(by show 4 ≤ sizeLine; decide), fun t nt => ?_⟩⟩
      have e10 := same_upd (o := .tup []) np
      have hp : upd H9 p (.tup []) p = some (.tup []) := upd_same
      have e11 := same_upd (o := .tup [x, .ref f, .ref g, .ref p]) nt
      have ht : upd (upd H9 p (.tup [])) t (.tup [x, .ref f, .ref g, .ref p]) t = some (.tup [x, .ref f, .ref g, .ref p]) := upd_same
      have e12 := e10.trans e11
      have hp2 := e11 _ _ hp
      have tD : t ≠ D := fun z => by rw [z, e10 _ _ (b49 _ _ nDa eD)] at nt; cases nt
      generalize upd (upd H9 p (.tup [])) t (.tup [x, .ref f, .ref g, .ref p]) = H10 at e12 ht hp2 ⊢
      have n410 := n49.trans (NL.of e12)
      have b410 := b49.trans (But.of e12)
      have eD10 := b410 _ _ nDa eD
      have mz := (NL.refl H10).put eD10 (.lst (us ++ [.ref t]))
      have tx : Tp (upd H10 D (.lst (us ++ [.ref t]))) (.ref t) (dLf ⟨L, [y], zs, []⟩) :=
        .tup (mz _ _ ht (fun _ z => nomatch z)) (.cons ((td.nl n410).nl mz) (.cons (tpS (mz _ _ (e12 _ _ hf) (fun _ z => nomatch z))) (.cons (tpS (mz _ _ (e12 _ _ hg9) (fun _ z => nomatch z))) (.cons (.tup (mz _ _ hp2 (fun _ z => nomatch z)) .nil) .nil))))
      refine ⟨D, us, _, rfl, rfl, eD10, small1000 (by omega), bk ++ [⟨L, [y], zs, []⟩], us ++ [.ref t], _, _, rfl, (srcS e12 s9).put nDa.symm _, (b4.trans b410).put fD _, ?_, (tl4.nl n410).nl mz, upd_same, ?_, ?_, ?_⟩
      · rw [upd_ne lD]; exact b410 _ _ nla hl4
      · rw [List.map_append]
        exact ((tu.nl n410).nl mz).snoc tx
      · intro l hl
        rcases List.mem_append.mp hl with h | h
        · exact oB _ h
        · rw [List.mem_singleton.mp h]; exact ⟨⟨hok, ry, rz, rfl⟩, sy, sz⟩
      · rw [List.map_append, eB, List.take_add_one, el]
        rfl
    · rintro σ' H4 ⟨bk, us, y3, y4, rfl, s4, b4, hl4, tl4, eD, tu, oB, eB⟩
      rw [len, List.take_length] at eB
      refine ⟨_, rfl, q D bk H4 s4 b4 fD ⟨us, eD, tu⟩ ⟨?_, fun l h => (oB l h).1, ?_⟩ (fun l h => (oB l h).2) (fun e => ?_)⟩
      · rw [← List.length_map (f := (·.L)), eB]; exact l60
      · rw [← eB, List.pairwise_map] at pw
        exact pw
      · rw [e] at eB
        exact ne eB.symm
theorem ok_words (T : Tab K mg) : FnOk P w K mg base CX0 3 T.f_words T.d_words ["_law_source_here", "_law_pages", "_law_goal"] (sp_words K) := by
  refine T.F_words.ok sc_words (fun vs H Q E h => ?_) (fun cdv A outer s H vs Q E hr h => ?_)
  · obtain ⟨a, b, us, g, pgs, r, rfl, _⟩ := h
    rfl
  · obtain ⟨a, b, us, g, pgs, r, rfl, src, ba, hb, tu, okp, l1, l9, hg, okr, q⟩ := h
    refine ⟨_, (pss_cons (ps_set (i := 3) sc_words.nd rfl (.inl rfl) (pe_lst (pa_cons pe_str (pa_cons pe_str (pa_cons pe_str (pa_cons pe_str (pa_cons pe_str (pa_cons pe_str (pa_cons pe_str (pa_cons pe_str (pa_cons pe_str (pa_cons pe_str (pa_cons pe_str (pa_cons pe_str (pa_cons pe_str (pa_cons pe_str pa_nil))))))))))))))))
      (pss_cons (ps_set (i := 3) sc_words.nd rfl (.inl rfl) (pe_op op_cat (pv 3) (pe_lst (pa_cons (pe_op op_add_str (pe_call (ok_page_word T) (hr.mono (by decide)) (by rfl) T.g_page_word T.F_page_word.kp T.b_page_word .nil pass0 (pa_cons (pv 2) pa_nil)) pe_str) (pa_cons (pe_call (ok_label_word T) (hr.mono (by decide)) (by rfl) T.g_label_word T.F_label_word.kp T.b_label_word .nil pass0 (pa_cons (pe_ix ix_tup (pv 2) pe_int (fun _ _ => rfl)) pa_nil)) pa_nil)))))
      (pss_cons (ps_set (i := 4) sc_words.nd rfl (.inl rfl) (pe_call (ok_page_word T) (hr.mono (by decide)) (by rfl) T.g_page_word T.F_page_word.kp T.b_page_word .nil pass0 (pa_cons (pe_ix ix_list (pv 1) (pe_call (ok_pick T) (hr.mono (by decide)) (by rfl) T.g_pick T.F_pick.kp T.b_pick .nil pass0 (pa_cons (pv 0) (pa_cons (pe_callB call_len_seq (by rfl) T.m_len PySem.boot_len (pa_cons (pv 1) pa_nil)) pa_nil))) (fun _ _ => rfl)) pa_nil)))
      (C8.pss_cut (ps_if (pt_cmpR op_eq (pe_call (ok_pick T) (hr.mono (by decide)) (by rfl) T.g_pick T.F_pick.kp T.b_pick .nil pass0 (pa_cons (pv 0) (pa_cons pe_int pa_nil))) pe_int (nomark _))
      (pss_one (ps_set (i := 4) sc_words.nd rfl (.inl rfl) (pe_ix ix_list (pv 3) (pe_call (ok_pick T) (hr.mono (by decide)) (by rfl) T.g_pick T.F_pick.kp T.b_pick .nil pass0 (pa_cons (pv 0) (pa_cons pe_int pa_nil))) (fun _ _ => rfl))))
      pss_nil)
      (pss_one (ps_ret (pe_lst (pa_cons pe_str (pa_cons pe_str (pa_cons pe_str (pa_cons (pe_call (ok_page_word T) (hr.mono (by decide)) (by rfl) T.g_page_word T.F_page_word.kp T.b_page_word .nil pass0 (pa_cons (pv 2) pa_nil)) (pa_cons (pv 4) pa_nil)))))))))))), ?_⟩
    have ulen := tu.len
    rw [List.length_map] at ulen
    refine ⟨(by show 14 ≤ sizeLine; decide), fun w0 nw0 => ?_⟩
    obtain ⟨zs0, hw0, lz0⟩ : ∃ zs0 : List Str, upd H w0 (.lst [.str "", .str "Here", .str "here/", .str "over", .str "7", .str "a", .str "facing ", .str "1a-1b", .str "01a", .str "0a", .str "1.0a", .str "100a", .str "1.1.1.1a", .str "1A"]) w0 = some (.lst (zs0.map V.str)) ∧ zs0.length = 14 := ⟨["", "Here", "here/", "over", "7", "a", "facing ", "1a-1b", "01a", "0a", "1.0a", "100a", "1.1.1.1a", "1A"], upd_same, rfl⟩
    have s0 := same_upd (o := .lst [.str "", .str "Here", .str "here/", .str "over", .str "7", .str "a", .str "facing ", .str "1a-1b", .str "01a", .str "0a", .str "1.0a", .str "100a", .str "1.1.1.1a", .str "1A"]) nw0
    generalize upd H w0 (.lst [.str "", .str "Here", .str "here/", .str "over", .str "7", .str "a", .str "facing ", .str "1a-1b", .str "01a", .str "0a", .str "1.0a", .str "100a", .str "1.1.1.1a", .str "1A"]) = H0 at hw0 s0 ⊢
    have hg0 := hg.nl (NL.of s0)
    obtain ⟨ga, gl, rfl, hga, hgl⟩ := pg_inv hg
    have lp := fP_len okr
    refine ⟨_, rfl, _, rfl, _, r, rfl, hg0.dp, okr, fun H1 s1 => ⟨_, _, rfl, rfl, Nat.le_of_lt (small1000 (by show _ + 1 ≤ 1000; omega)), ?_⟩⟩
    have s01 := s0.trans s1
    refine ⟨_, rfl, ga, _, 0, _, rfl, rfl, .inl (.inl (s01 _ _ hga)), rfl, gl, r.1, rfl, .inl (.inl (s01 _ _ hgl)), okr.1, fun H2 s2 => ⟨(by show 2 ≤ sizeLine; decide), fun w1 nw1 => ?_⟩⟩
    have s3 := same_upd (o := .lst [.str (fP r ++ "a"), .str (fL r.1)]) nw1
    have hw1 : upd H2 w1 (.lst [.str (fP r ++ "a"), .str (fL r.1)]) w1 = some (.lst [.str (fP r ++ "a"), .str (fL r.1)]) := upd_same
    have s13 := (s1.trans s2).trans s3
    generalize upd H2 w1 (.lst [.str (fP r ++ "a"), .str (fL r.1)]) = H3 at s3 hw1 s13 ⊢
    refine ⟨w0, w1, _, _, rfl, rfl, s13 _ _ hw0, hw1, by rw [List.length_map, lz0]; show 16 ≤ sizeLine; decide, fun w2 nw2 => ?_⟩
    have s4 := same_upd (o := .lst (zs0.map V.str ++ [.str (fP r ++ "a"), .str (fL r.1)])) nw2
    have hw2 : upd H3 w2 (.lst (zs0.map V.str ++ [.str (fP r ++ "a"), .str (fL r.1)])) w2 = some (.lst ((zs0 ++ [fP r ++ "a", fL r.1]).map V.str)) := by rw [upd_same, List.map_append]; rfl
    have s04 := (s0.trans s13).trans s4
    have s4a := srcS s04 src
    have w2a : w2 ≠ a := ((srcS (s0.trans s13) src).ne nw2).symm
    generalize upd H3 w2 (.lst (zs0.map V.str ++ [.str (fP r ++ "a"), .str (fL r.1)])) = H4 at s4 hw2 s04 s4a ⊢
    have hb4 := s04 _ _ hb
    refine ⟨_, rfl, _, rfl, _, rfl, b, us, rfl, .inl (.inl (.inl hb4)), a, _, rfl, s4a, by omega, by omega, fun n5 H5 s5 b5 p5 p6 => ?_⟩
    have n45 : NL H4 H5 := s4a.nl b5
    have n05 : NL H H5 := (NL.of s04).trans n45
    obtain ⟨x, ex⟩ : ∃ x, us[n5.toNat]? = some x := ⟨_, List.getElem?_eq_getElem (by omega)⟩
    obtain ⟨d, ed, tx⟩ := tu.get ex
    obtain ⟨p, ep, rfl⟩ : ∃ p, pgs[n5.toNat]? = some p ∧ d = dP p := by
      rw [List.getElem?_map] at ed
      cases e : pgs[n5.toNat]? with
      | none => rw [e] at ed; cases ed
      | some l => rw [e] at ed; exact ⟨l, rfl, (Option.some.inj ed).symm⟩
    refine ⟨b, us, n5, x, rfl, rfl, .inl (.inl (b5 _ _ ba hb4)), at_of' (Int.toNat_of_nonneg p5).symm ex, x, p, rfl, (tx.nl n05).dp, okp p (List.mem_of_getElem? ep), fun H6 s6 => ?_⟩
    have s6a := srcS s6 s5
    refine ⟨fun σ' H' => ∃ z : Str, σ' = [some (.ref a), some (.ref b), some (.ref ga), some (.ref w2), some (.str z)] ∧ Src H' a ∧ But a H4 H', ?_, ?_⟩
    · refine ⟨_, rfl, a, 2, rfl, s6a, by decide, by decide, fun n7 H7 s7 b7 _ _ => ⟨rfl, _, rfl, ite2 (fun _ => ?_) (fun _ => ?_)⟩⟩
      · refine ⟨_, rfl, _, rfl, a, 16, rfl, s7, by decide, by decide, fun n8 H8 s8 b8 p8 p9 => ?_⟩
        have b48 := ((b5.trans (But.of s6)).trans b7).trans b8
        have l16 : (zs0 ++ [fP r ++ "a", fL r.1]).length = 16 := by rw [List.length_append, lz0]; rfl
        obtain ⟨z, ez⟩ : ∃ z, (zs0 ++ [fP r ++ "a", fL r.1])[n8.toNat]? = some z := ⟨_, List.getElem?_eq_getElem (by omega)⟩
        refine ⟨w2, _, n8, .str z, rfl, rfl, .inl (.inl (b48 _ _ w2a hw2)), at_of' (j := n8.toNat) (Int.toNat_of_nonneg p8).symm (by rw [List.getElem?_map, ez]; rfl), z, rfl, s8, b48⟩
      · exact ⟨_, rfl, s7, (b5.trans (But.of s6)).trans b7⟩
    · rintro σ' H7 ⟨z, rfl, s7, b7⟩
      have n07 : NL H H7 := (NL.of s04).trans (s4a.nl b7)
      refine ⟨_, rfl, _, r, rfl, (hg.nl n07).dp, okr, fun H8 s8 => ⟨_, rfl, (by show 5 ≤ sizeLine; decide), fun p np => ?_⟩⟩
      have s9 := same_upd (o := .lst [.str "here", .str "overleaf", .str "facing", .str (fP r), .str z]) np
      have b08 : But a H H8 := ((But.of s04).trans b7).trans (But.of s8)
      have pa : p ≠ a := ((srcS s8 s7).ne np).symm
      exact q p ["here", "overleaf", "facing", fP r, z] _ (srcS s9 (srcS s8 s7)) (b08.trans (But.of s9)) (b08.none np pa) upd_same
theorem ok_judged_label (T : Tab K mg) : FnOk P w K mg base CX0 4 T.f_judged_label T.d_judged_label ["thing"] (sp_judged_label K) := by
  refine T.F_judged_label.ok sc_judged_label (fun vs H Q E h => ?_) (fun cdv A outer s H vs Q E hr h => ?_)
  · obtain ⟨x, L, rfl, _⟩ := h
    rfl
  · obtain ⟨x, L, rfl, hx, hL, q⟩ := h
    refine ⟨_, (pss_cons (ps_set (i := 1) sc_judged_label.nd rfl (.inl rfl) (pe_call (ok_kept_label T) (hr.mono (by decide)) (by rfl) T.g_kept_label T.F_kept_label.kp T.b_kept_label .nil pass0 (pa_cons (pv 0) pa_nil)))
      (pss_cons (ps_if (pt_cmpR op_isN (pv 1) pe_non (nomark _))
      (pss_one ps_never)
      pss_nil)
      (pss_one (ps_ret (pv 1))))), ?_⟩
    refine ⟨_, rfl, _, L, rfl, hx, hL, fun y H1 s1 hy => ?_⟩
    have q1 := q y H1 s1 hy
    obtain ⟨l, rfl, _⟩ := hy
    refine ⟨_, rfl, rfl, _, rfl, ite2 (fun e => absurd (of_decide_eq_true e) (by intro z; cases z)) (fun _ => ?_)⟩
    exact ⟨_, rfl, q1⟩
theorem ok_kept_page (T : Tab K mg) : FnOk P w K mg base CX0 4 T.f_kept_page T.d_kept_page ["thing"] (sp_kept_page K) := by
  refine T.F_kept_page.ok sc_kept_page (fun vs H Q E h => ?_) (fun cdv A outer s H vs Q E hr h => ?_)
  · obtain ⟨v, p, rfl, _⟩ := h
    rfl
  · obtain ⟨v, p, rfl, ⟨a, u, rfl, hS, hu⟩, ok, q⟩ := h
    refine ⟨_, (pss_cons (ps_if (PW.pt (pw_or (pt_not (pt_val (pe_call (ok_is_sized T) (hr.mono (by decide)) (by rfl) T.g_is_sized T.F_is_sized.kp T.b_is_sized .nil pass0 (pa_cons (pv 0) (pa_cons pe_int (pa_cons pe_int pa_nil)))))) (pw_or1 (pt_not (pt_val (pe_call (ok_is_within T) (hr.mono (by decide)) (by rfl) T.g_is_within T.F_is_within.kp T.b_is_within .nil pass0 (pa_cons (pe_ix (IxR.or ix_list ix_tup) (pv 0) pe_int (fun _ _ => rfl)) (pa_cons pe_int (pa_cons pe_int pa_nil)))))))))
      (pss_one (ps_ret pe_non))
      pss_nil)
      (pss_cons (ps_set (i := 1) sc_kept_page.nd rfl (.inl rfl) (pe_call (ok_kept_label T) (hr.mono (by decide)) (by rfl) T.g_kept_label T.F_kept_label.kp T.b_kept_label .nil pass0 (pa_cons (pe_ix (IxR.or ix_list ix_tup) (pv 0) pe_int (fun _ _ => rfl)) pa_nil)))
      (pss_one (ps_ret (pe_ifExp (pt_cmpR op_isN (pv 1) pe_non (nomark _)) pe_non (pe_tup (pa_cons (pv 1) (pa_cons (pe_ix (IxR.or ix_list ix_tup) (pv 0) pe_int (fun _ _ => rfl)) pa_nil)))))))), ?_⟩
    have du : ∃ d, Dp K H u d := by
      obtain ⟨l, rfl, hl | hl⟩ := hu
      · exact ⟨_, dpL (L := p.1) (.inl (.inl hl))⟩
      · exact ⟨_, .lst hl (dp_ints p.1)⟩
    obtain ⟨d, hd⟩ := du
    have dd : ∃ d', Dp K H (.ref a) d' ∧ items d' = some [d, .int p.2] := by
      rcases hS with hS | hS
      · exact ⟨_, .lst hS (.cons hd (.cons (.int _) .nil)), rfl⟩
      · exact ⟨_, .tup hS (.cons hd (.cons (.int _) .nil)), rfl⟩
    obtain ⟨d', hd', hi⟩ := dd
    have hsz : sz 2 2 d' = true := by
      unfold sz
      rw [hi]
      rfl
    refine ⟨_, rfl, _, d', 2, 2, rfl, hd', fun H1 s1 => ⟨_, rfl, ?_⟩⟩
    rw [hsz]
    have ix : ∀ {Q1 : V → Hp → Prop} {H2 : Hp} {i : Int} {z : V}, Same H H2 → atI [u, .int p.2] i = some z → Q1 z H2 → (rIxL K (.ref a) (.int i) H2 Q1 ∨ rIxT K (.ref a) (.int i) H2 Q1) := fun {Q1 H2 i z} s e q => by
      rcases hS with hS | hS
      · exact .inl ⟨a, _, _, _, rfl, rfl, s.seq hS, e, q⟩
      · exact .inr ⟨a, _, _, _, rfl, rfl, same_seqT s hS, e, q⟩
    refine ⟨_, rfl, ix s1 rfl ?_⟩
    refine ⟨.int p.2, .int p.2, 0, 1, rfl, .int _, ?_⟩
    have e1 : wI 0 1 (.int p.2) = true := decide_eq_true (by have := ok.2; omega)
    rw [e1]
    refine ⟨_, rfl, ?_⟩
    refine ⟨_, rfl, ix s1 rfl ?_⟩
    have hu1 : IL K H1 u p.1 := by
      obtain ⟨l, rfl, hl | hl⟩ := hu
      · exact ⟨l, rfl, .inl (s1 _ _ hl)⟩
      · exact ⟨l, rfl, .inr (s1.seq hl)⟩
    refine ⟨u, p.1, rfl, hu1, ok.1, fun y H2 s2 hy => ?_⟩
    obtain ⟨b, rfl, hb⟩ := hy
    refine ⟨_, rfl, rfl, _, rfl, ite2 (fun e => absurd (of_decide_eq_true e) (by intro z; cases z)) (fun _ => ?_)⟩
    refine ⟨_, rfl, _, rfl, ix (s1.trans s2) rfl ?_⟩
    refine ⟨(by show 2 ≤ sizeLine; decide), fun t nt => ?_⟩
    have s3 := same_upd (o := .tup [.ref b, .int p.2]) nt
    exact q (.ref t) _ ((s1.trans s2).trans s3) (tpP (p := p) upd_same (s3 _ _ hb))
theorem ok_kept_strokes (T : Tab K mg) : FnOk P w K mg base CX0 4 T.f_kept_strokes T.d_kept_strokes ["strokes"] (sp_kept_strokes K) := by
  refine T.F_kept_strokes.ok sc_kept_strokes (fun vs H Q E h => ?_) (fun cdv A outer s H vs Q E hr h => ?_)
  · obtain ⟨a, rfl, _⟩ := h
    rfl
  · obtain ⟨a, rfl, ha, q⟩ := h
    refine ⟨_, (pss_cons (ps_if (PW.pt (pw_or (pt_not (pt_val (pe_call (ok_is_tuple T) (hr.mono (by decide)) (by rfl) T.g_is_tuple T.F_is_tuple.kp T.b_is_tuple .nil pass0 (pa_cons (pv 0) pa_nil)))) (pw_or1 (pt_not (pt_val (pe_callB (cr_all rfl) (by rfl) T.m_all (by decide +kernel) (pa_cons (pe_lc (own := [("stroke", 1)]) (g := gName 1) (by rfl) sc_kept_strokes.nd (pi_tup (pv 0)) (blkOk_by (own := [("stroke", 1)]) (N := N_kept_strokes) (sc := defScope s_kept_strokes) (by decide +kernel)) (fun _ _ _ _ _ => pg_name (i := 1) sc_kept_strokes.nd rfl (.inl rfl)) (fun _ _ _ _ _ => pts_nil) (fun _ _ _ _ _ => (pe_call (ok_is_stroke T) (hr.mono (by decide)) (by rfl) T.g_is_stroke T.F_is_stroke.kp T.b_is_stroke .nil pass0 (pa_cons (pv 1) pa_nil)))) pa_nil)))))))
      (pss_one (ps_ret pe_non))
      pss_nil)
      (pss_one (ps_ret (pe_callTy call_tuple_of (by rfl) T.m_tuple (by decide +kernel) (pa_cons (pe_lc (own := [("stroke", 1)]) (g := gName 1) (by rfl) sc_kept_strokes.nd (pi_tup (pv 0)) (blkOk_by (own := [("stroke", 1)]) (N := N_kept_strokes) (sc := defScope s_kept_strokes) (by decide +kernel)) (fun _ _ _ _ _ => pg_name (i := 1) sc_kept_strokes.nd rfl (.inl rfl)) (fun _ _ _ _ _ => pts_nil) (fun _ _ _ _ _ => (pe_callTy (call_tuple_ofK (K := K) rfl) (by rfl) T.m_tuple (by decide +kernel) (pa_cons (pv 1) pa_nil)))) pa_nil))))), ?_⟩
    refine ⟨_, rfl, _, .none, rfl, .inr ⟨a, [], rfl, .inr ha, fun H1 s1 => ⟨_, rfl, iteF ?_⟩⟩⟩
    have ha1 := same_seqT s1 ha
    refine ⟨_, rfl, a, rfl, ⟨_, ha1⟩, fun D nD => ?_⟩
    refine lc_fm ([] : List Str) (fun _ => none) (walkT (xs := []) rfl) nD (fun H h => same_seqT h ha1) (by decide) (fun i d x H2 H3 ed => by cases ed) fun H2 sm eD => ?_
    refine ⟨D, [], rfl, .inl (.inl eD), _, rfl, iteF ?_⟩
    have s2 := s1.trans sm
    have ha2 := same_seqT sm ha1
    refine ⟨_, rfl, a, rfl, ⟨_, ha2⟩, fun D2 nD2 => ?_⟩
    refine lc_fm ([] : List Str) (fun _ => none) (walkT (xs := []) rfl) nD2 (fun H h => same_seqT h ha2) (by decide) (fun i d x H2 H3 ed => by cases ed) fun H3 sm3 eD3 => ?_
    refine ⟨D2, _, rfl, .inl ⟨.inl (.inl eD3), fun p np => ?_⟩⟩
    exact q p _ ((s2.trans sm3).trans (same_upd np)) upd_same
theorem ok_place_word (T : Tab K mg) : FnOk P w K mg base CX0 4 T.f_place_word T.d_place_word ["_law_labels", "_law_own", "_law_goal", "_law_nigh"] (sp_place_word K) := by
  refine T.F_place_word.ok sc_place_word (fun vs H Q E h => ?_) (fun cdv A outer s H vs Q E hr h => ?_)
  · obtain ⟨a, o, g, n, Ls, p, r, rfl, _⟩ := h
    rfl
  · obtain ⟨a, o, g, n, Ls, p, r, rfl, hL, ne, h60, nd, ho, hg, okp, okr, q⟩ := h
    refine ⟨_, (pss_cons (ps_set (i := 4) sc_place_word.nd rfl (.inl rfl) (pe_lst (pa_cons pe_str (pa_cons pe_str (pa_cons pe_str (pa_cons (pe_call (ok_page_word T) (hr.mono (by decide)) (by rfl) T.g_page_word T.F_page_word.kp T.b_page_word .nil pass0 (pa_cons (pv 2) pa_nil)) pa_nil))))))
      (pss_one (ps_ret (pe_ix ix_list (pe_lc (own := [("_law_word", 5)]) (g := gName 5) (by rfl) sc_place_word.nd (pi_list (pv 4)) (blkOk_by (own := [("_law_word", 5)]) (N := N_place_word) (sc := defScope s_place_word) (by decide +kernel)) (fun _ _ _ _ _ => pg_name (i := 5) sc_place_word.nd rfl (.inl rfl)) (fun _ _ _ _ _ => (pts_one (pt_val (pe_call (ok_place_true T) (hr.mono (by decide)) (by rfl) T.g_place_true T.F_place_true.kp T.b_place_true .nil pass0 (pa_cons (pv 0) (pa_cons (pv 1) (pa_cons (pv 2) (pa_cons (pv 5) (pa_cons (pv 3) pa_nil))))))))) (fun _ _ _ _ _ => (pv 5))) pe_int (fun _ _ => rfl))))), ?_⟩
    refine ⟨_, rfl, g, r, rfl, hg.dp, okr, fun H1 s1 => ⟨(by show 4 ≤ sizeLine; decide), fun w nw => ?_⟩⟩
    have sw := same_upd (o := .lst [.str "here", .str "overleaf", .str "facing", .str (fP r)]) nw
    have s2 := s1.trans sw
    have hw : upd H1 w (.lst [.str "here", .str "overleaf", .str "facing", .str (fP r)]) w = some (.lst ((["here", "overleaf", "facing", fP r] : List Str).map V.str)) := upd_same
    have hL2 : LbAt (upd H1 w (.lst [.str "here", .str "overleaf", .str "facing", .str (fP r)])) a Ls := by
      obtain ⟨us, h1, h2⟩ := hL
      exact ⟨us, s2 _ _ h1, h2.nl (NL.of s2)⟩
    have ho2 := ho.nl (NL.of s2)
    have hg2 := hg.nl (NL.of s2)
    refine ⟨_, rfl, w, rfl, ⟨_, .inl (.inl hw)⟩, fun D nD => ?_⟩
    generalize upd H1 w (.lst [.str "here", .str "overleaf", .str "facing", .str (fP r)]) = H2 at sw s2 hw hL2 ho2 hg2 nD
    obtain ⟨e0, rest, e1⟩ := pref_word (n := n) (o := p) (g := r) (f := facesB Ls p r) (faces_ne nd)
    refine lc_fm (["here", "overleaf", "facing", fP r] : List Str) (fun z => if placeT n p r (facesB Ls p r) z = true then some (V.str z) else none) (walkL (xs := (["here", "overleaf", "facing", fP r] : List Str).map V.str) (List.length_map ..)) nD (fun H h => .inl (.inl (h _ _ hw))) (by show 4 ≤ 100000; decide) ?_ ?_
    · rintro i0 z y H4x H4 er sm ⟨rfl, hy⟩ Rr N hR hN
      rw [List.getElem?_map, er] at hy
      cases hy
      have hL4 : LbAt H4 a Ls := by
        obtain ⟨us, h1, h2⟩ := hL2
        exact ⟨us, sm _ _ h1, h2.nl (NL.of sm)⟩
      refine ⟨rfl, ?_⟩
      refine ⟨_, rfl, _, rfl, _, rfl, _, rfl, _, rfl, a, o, g, z, n, Ls, p, r, rfl, hL4, ne, h60, ho2.nl (NL.of sm), hg2.nl (NL.of sm), okp, okr, fun H' s' => ⟨_, rfl, ite2 (fun e => ?_) (fun e => ?_)⟩⟩
      · exact ⟨_, rfl, hR _ (if_pos e) _ s'⟩
      · exact hN (if_neg e) _ s'
    · intro H3 s3 eD
      have ef : (["here", "overleaf", "facing", fP r] : List Str).filterMap (fun z => if placeT n p r (facesB Ls p r) z = true then some (V.str z) else none) = ((["here", "overleaf", "facing", fP r] : List Str).filter (placeT n p r (facesB Ls p r))).map V.str := by
        exact fm_filter _ _ _
      rw [ef, e1, List.map_cons] at eD
      exact ⟨D, _, 0, _, rfl, rfl, .inl (.inl eD), at_of' (j := 0) rfl rfl, q _ (s2.trans s3)⟩
theorem ok_write_label (T : Tab K mg) : FnOk P w K mg base CX0 5 T.f_write_label T.d_write_label ["label"] (sp_write_label K) := by
  refine T.F_write_label.ok sc_write_label (fun vs H Q E h => ?_) (fun cdv A outer s H vs Q E hr h => ?_)
  · obtain ⟨x, L, rfl, _⟩ := h
    rfl
  · obtain ⟨x, L, rfl, hx, hL, q⟩ := h
    refine ⟨_, (pss_one (ps_ret (pe_join pe_str (pe_lc (own := [("part", 1)]) (g := gName 1) (by rfl) sc_write_label.nd (pi_tup (pe_call (ok_judged_label T) (hr.mono (by decide)) (by rfl) T.g_judged_label T.F_judged_label.kp T.b_judged_label .nil pass0 (pa_cons (pv 0) pa_nil))) (blkOk_by (own := [("part", 1)]) (N := N_write_label) (sc := defScope s_write_label) (by decide +kernel)) (fun _ _ _ _ _ => pg_name (i := 1) sc_write_label.nd rfl (.inl rfl)) (fun _ _ _ _ _ => pts_nil) (fun _ _ _ _ _ => (pe_callTy call_str_int (by rfl) T.m_str (by decide +kernel) (pa_cons (pv 1) pa_nil))))))), ?_⟩
    refine ⟨⟨_, rfl⟩, _, rfl, x, L, rfl, hx, hL, fun y H1 s1 hy => ?_⟩
    obtain ⟨p, rfl, hp⟩ := hy
    refine ⟨p, rfl, ⟨_, .inl (.inl hp)⟩, fun D nD => ?_⟩
    refine lc_tup (xs := L.map V.int) (fun i H' => Same _ H' ∧ H' D = some (.lst (((L.take i).map fun i => (toString i : Str)).map V.str))) ⟨same_upd nD, upd_same⟩ (fun i H' _ hh => .inl (.inl (hh.1 _ _ hp))) ?_ ?_
    · rintro i x H' hx ⟨sm, eD⟩
      obtain ⟨n, rfl, hn⟩ : ∃ n, x = V.int n ∧ L[i]? = some n := by
        rw [List.getElem?_map] at hx
        cases e : L[i]? with
        | none => rw [e] at hx; cases hx
        | some n => rw [e] at hx; exact ⟨n, (Option.some.inj hx).symm, rfl⟩
      have hb := hL.2.2 n (List.mem_of_getElem? hn)
      have hl := hL.1
      refine ⟨rfl, ?_⟩
      refine ⟨_, rfl, n, rfl, log_small (by omega), _, eD, ?_, same_put sm nD _, ?_⟩
      · rw [List.length_map, List.length_map, List.length_take]; exact small1000 (by omega)
      · rw [upd_same, List.take_add_one, hn, List.map_append, List.map_append]; rfl
    rintro H' ⟨sm, eD⟩
    rw [List.length_map, List.take_length] at eD
    refine ⟨_, D, _, rfl, rfl, .inl (.inl (.inl eD)), ?_, q H' (s1.trans sm)⟩
    exact num_fit hL
theorem ok_judged_pen (T : Tab K mg) : FnOk P w K mg base CX0 5 T.f_judged_pen T.d_judged_pen ["front", "back", "pen"] (sp_judged_pen K) := by
  refine T.F_judged_pen.ok sc_judged_pen (fun vs H Q E h => ?_) (fun cdv A outer s H vs Q E hr h => ?_)
  · obtain ⟨f, b, a, rfl, _⟩ := h
    rfl
  · obtain ⟨f, b, a, rfl, ha, q⟩ := h
    refine ⟨_, (pss_cons (ps_set (i := 3) sc_judged_pen.nd rfl (.inl rfl) (pe_call (ok_kept_strokes T) (hr.mono (by decide)) (by rfl) T.g_kept_strokes T.F_kept_strokes.kp T.b_kept_strokes .nil pass0 (pa_cons (pv 2) pa_nil)))
      (pss_cons (ps_if (PW.pt (pw_or (pt_cmpR op_isN (pv 3) pe_non (nomark _)) (pw_or1 (pt_not (pt_val (pe_callB (cr_all rfl) (by rfl) T.m_all (by decide +kernel) (pa_cons (pe_lc (own := [("stroke", 4)]) (g := gName 4) (by rfl) sc_judged_pen.nd (pi_tup (pv 3)) (blkOk_by (own := [("stroke", 4)]) (N := N_judged_pen) (sc := defScope s_judged_pen) (by decide +kernel)) (fun _ _ _ _ _ => pg_name (i := 4) sc_judged_pen.nd rfl (.inl rfl)) (fun _ _ _ _ _ => pts_nil) (fun _ _ _ _ _ => (pe_call (ok_is_place T) (hr.mono (by decide)) (by rfl) T.g_is_place T.F_is_place.kp T.b_is_place .nil pass0 (pa_cons (pv 0) (pa_cons (pv 1) (pa_cons (pe_slice (sl_tupAK (K := K) rfl) (pv 4) po_none (po_some pe_int)) pa_nil)))))) pa_nil)))))))
      (pss_one ps_never)
      pss_nil)
      (pss_cons (ps_if (pt_not (pt_val (pe_callB (cr_all rfl) (by rfl) T.m_all (by decide +kernel) (pa_cons (pe_lc (own := [("one", 5), ("other", 6)]) (g := gTup K 2 _) (by rfl) sc_judged_pen.nd (RZ.pi_zipA (by rfl) T.m_zip (pa_cons (pv 3) (pa_cons (pe_slice sl_tupA (pv 3) (po_some pe_int) po_none) pa_nil))) (blkOk_by (own := [("one", 5), ("other", 6)]) (N := N_judged_pen) (sc := defScope s_judged_pen) (by decide +kernel)) (fun _ _ _ _ _ => pg_tup (by rfl) (pgs_cons (pg_name (i := 5) sc_judged_pen.nd rfl (.inl rfl)) (pgs_cons (pg_name (i := 6) sc_judged_pen.nd rfl (.inl rfl)) pgs_nil))) (fun _ _ _ _ _ => pts_nil) (fun _ _ _ _ _ => (pe_cmpR (op_ltDK (K := K) rfl (un2 hr)) (pe_slice (sl_tupAK (K := K) rfl) (pv 5) po_none (po_some pe_int)) (pe_slice (sl_tupAK (K := K) rfl) (pv 6) po_none (po_some pe_int)) (nomark _)))) pa_nil))))
      (pss_one ps_never)
      pss_nil)
      (pss_one (ps_ret (pv 3)))))), ?_⟩
    refine ⟨_, rfl, a, rfl, ha, fun p H1 s1 hp => ?_⟩
    refine ⟨_, rfl, rfl, _, rfl, ite2 (fun e => absurd (of_decide_eq_true e) (by intro z; cases z)) (fun _ => ?_)⟩
    have hp1 : SqT K H1 p [] := .inl (.inl hp)
    refine ⟨_, rfl, p, rfl, ⟨_, hp1⟩, fun D nD => ?_⟩
    refine lc_fm ([] : List Str) (fun _ => none) (walkT (xs := []) rfl) nD (fun H h => same_seqT h hp1) (by decide) (fun i d x H2 H3 ed => by cases ed) fun H2 sm eD => ?_
    refine ⟨D, [], rfl, .inl (.inl eD), _, rfl, iteF ?_⟩
    have s2 := s1.trans sm
    have hp2 := same_seqT sm hp1
    refine ⟨_, rfl, _, rfl, 1, rfl, ?_⟩
    dsimp only [tNoPart]
    refine sl_go hp2 fun c H3 s3 hc => ?_
    refine ⟨p, c, _, _, rfl, .inr ⟨same_seqT s3 hp2, hc, fun D2 nD2 => ?_⟩⟩
    have hp3 := same_seqT s3 hp2
    refine lc_fm ([] : List Str) (fun _ => none) (walk_zipT (xs := []) (ys := cutV [] (some 1) none) rfl) nD2 (fun H h => ⟨same_seqT h hp3, same_seqT h hc⟩) (by decide) (fun i d x H2 H3 ed => by cases ed) fun H4 s4 eD4 => ?_
    refine ⟨D2, [], rfl, .inl (.inl eD4), _, rfl, iteF ?_⟩
    have s5 := (s2.trans s3).trans s4
    exact ⟨_, rfl, q p _ s5 ((s3.trans s4) _ _ (sm _ _ hp))⟩
theorem ok_Book_judged_page (T : Tab K mg) : FnOk P w K mg base CX0 5 T.f_Book_judged_page T.d_Book_judged_page ["self", "page"] (sp_Book_judged_page K T.C_Leaf T.C_Book) := by
  refine T.F_Book_judged_page.ok sc_Book_judged_page (fun vs H Q E h => ?_) (fun cdv A outer s H vs Q E hr h => ?_)
  · obtain ⟨v, w, bk, p, rfl, _⟩ := h
    rfl
  · obtain ⟨v, w, bk, p, rfl, hbk, hw, ok, mem, q⟩ := h
    refine ⟨_, (pss_cons (ps_set (i := 2) sc_Book_judged_page.nd rfl (.inl rfl) (pe_call (ok_kept_page T) (hr.mono (by decide)) (by rfl) T.g_kept_page T.F_kept_page.kp T.b_kept_page .nil pass0 (pa_cons (pv 1) pa_nil)))
      (pss_cons (ps_if (PW.pt (pw_or (pt_cmpR op_isN (pv 2) pe_non (nomark _)) (pw_or1 (pt_cmp (pc_dnotin (Nat.lt_of_le_of_lt (Nat.add_le_add_left (by decide) _) (un2 hr)) (pe_ix ix_tup (pv 2) pe_int (fun _ _ => rfl)) (pe_fld (pv 0) rfl))))))
      (pss_one ps_never)
      pss_nil)
      (pss_one (ps_ret (pv 2))))), ?_⟩
    obtain ⟨x, dx, l, s, vs, rfl, hx, hl, hf, hs, h60⟩ := hbk
    refine ⟨_, rfl, w, p, rfl, hw, ok, fun y H1 s1 hy => ?_⟩
    obtain ⟨a, b, rfl, ha, hb⟩ := pg_inv hy
    refine ⟨_, rfl, rfl, _, rfl, ite2 (fun e => absurd (of_decide_eq_true e) (by intro z; cases z)) (fun _ => ?_)⟩
    refine ⟨_, rfl, a, _, 0, _, rfl, rfl, .inl (.inl ha), rfl, ?_⟩
    obtain ⟨i0, hi0, e0⟩ := List.mem_iff_getElem.mp mem
    obtain ⟨i, h1, h2, h3⟩ := spots_get bk p.1 bk.length (Nat.le_refl _) ⟨i0, by rw [List.length_map] at hi0; exact hi0, by rw [List.getElem?_eq_getElem hi0, e0]⟩
    have g : DGet H1 s (.ref b) (some (.int (i : Nat))) := by
      rw [← h2]
      exact DGet.t (s1 _ _ hs) (by rw [kL]; exact hb)
    refine ⟨_, rfl, x, _, dx, _, _, rfl, s1 _ _ hx, T.cl_Book, T.na_Book__spots, fBk_spots, s, _, rfl, g, _, rfl, iteF ?_⟩
    exact ⟨_, rfl, q _ H1 s1 hy⟩
theorem ok_write_page (T : Tab K mg) : FnOk P w K mg base CX0 6 T.f_write_page T.d_write_page ["page"] (sp_write_page K) := by
  refine T.F_write_page.ok sc_write_page (fun vs H Q E h => ?_) (fun cdv A outer s H vs Q E hr h => ?_)
  · obtain ⟨v, p, rfl, _⟩ := h
    rfl
  · obtain ⟨v, p, rfl, hv, ⟨okl, hs⟩, q⟩ := h
    refine ⟨_, (pss_cons (ps_asg (pv 0) (pg_tup (by rfl) (pgs_cons (pg_name (i := 1) sc_write_page.nd rfl (.inl rfl)) (pgs_cons (pg_name (i := 2) sc_write_page.nd rfl (.inl rfl)) pgs_nil))))
      (pss_one (ps_ret (pe_op op_add_str (pe_call (ok_write_label T) (hr.mono (by decide)) (by rfl) T.g_write_label T.F_write_label.kp T.b_write_label .nil pass0 (pa_cons (pv 1) pa_nil)) (pe_ix ix_str (pe_glob (v := .str "ab") (by rfl) T.c_SIDES ⟨_, rfl⟩) (pv 2) (fun _ _ => rfl)))))), ?_⟩
    obtain ⟨a, l, rfl, ha, hl⟩ := pg_inv hv
    have fin : ∃ i c, V.int p.2 = .int i ∧ ("ab" : Str).length ≤ sizeLine ∧ atI ("ab" : Str).cps.toList i = some c ∧ fL p.1 ++ (⟨#[c]⟩ : Str) = fP p := by
      obtain ⟨L, s⟩ := p
      rcases hs with h | h
      · have h : s = 0 := h
        subst h
        exact ⟨0, 97, rfl, by decide +kernel, by decide +kernel, rfl⟩
      · have h : s = 1 := h
        subst h
        exact ⟨1, 98, rfl, by decide +kernel, by decide +kernel, rfl⟩
    have hlen := fL_len okl
    refine ⟨_, rfl, a, _, rfl, .inl (.inl ha), rfl, _, _, rfl, _, _, rfl, rfl, ?_⟩
    refine ⟨_, rfl, .ref l, p.1, rfl, ⟨l, rfl, .inl hl⟩, okl, fun H1 s1 => ?_⟩
    obtain ⟨i, c, e1, e2, e3, e4⟩ := fin
    refine ⟨_, rfl, _, i, c, rfl, e1, e2, e3, _, _, rfl, rfl, ?_, ?_⟩
    · exact Nat.le_of_lt (small1000 (by show _ + 1 ≤ 1000; omega))
    · rw [e4]; exact q H1 s1
theorem ok_Leaf_init (T : Tab K mg) : FnOk P w K mg base CX0 6 T.f_Leaf_init T.d_Leaf_init ["self", "label", "front", "back", "pen"] (sp_Leaf_init K T.C_Leaf) := by
  refine T.F_Leaf_init.ok sc_Leaf_init (fun vs H Q E h => ?_) (fun cdv A outer s H vs Q E hr h => ?_)
  · obtain ⟨x, dx, l, f, b, p, lf, rfl, _⟩ := h
    rfl
  · obtain ⟨x, dx, l, f, b, p, lf, rfl, hx, hl, hf, hb, hp, ⟨k1, k2, k3, k4⟩, q⟩ := h
    refine ⟨_, (pss_cons (ps_fld (pv 0) (pe_call (ok_judged_label T) (hr.mono (by decide)) (by rfl) T.g_judged_label T.F_judged_label.kp T.b_judged_label .nil pass0 (pa_cons (pv 1) pa_nil)) rfl)
      (pss_cons (ps_fld (pv 0) (pe_call (ok_judged_rows T) (hr.mono (by decide)) (by rfl) T.g_judged_rows T.F_judged_rows.kp T.b_judged_rows .nil pass0 (pa_cons (pv 2) (pa_cons pe_int (pa_cons pe_str pa_nil)))) rfl)
      (pss_cons (ps_fld (pv 0) (pe_call (ok_judged_rows T) (hr.mono (by decide)) (by rfl) T.g_judged_rows T.F_judged_rows.kp T.b_judged_rows .nil pass0 (pa_cons (pv 3) (pa_cons pe_int (pa_cons pe_str pa_nil)))) rfl)
      (pss_cons (ps_fld (pv 0) (pe_call (ok_judged_pen T) (hr.mono (by decide)) (by rfl) T.g_judged_pen T.F_judged_pen.kp T.b_judged_pen .nil pass0 (pa_cons (pe_fld (pv 0) rfl) (pa_cons (pe_fld (pv 0) rfl) (pa_cons (pv 4) pa_nil)))) rfl)
      (pss_one (ps_fld (pv 0) (pe_dcT (own := [("stroke", 5)]) (g := gName 5) (by have z := un2 hr; exact Nat.lt_of_le_of_lt (Nat.add_le_add_left (by decide) _) z) (by rfl) sc_Leaf_init.nd (pi_tup (pe_fld (pv 0) rfl)) (blkOk_by (own := [("stroke", 5)]) (N := N_Leaf_init) (sc := defScope s_Leaf_init) (by decide +kernel)) (fun _ _ _ _ _ => pg_name (i := 5) sc_Leaf_init.nd rfl (.inl rfl)) (fun _ _ _ _ _ => (pe_slice (sl_tupAK (K := K) rfl) (pv 5) po_none (po_some pe_int))) (fun _ _ _ _ _ => (pe_ix (ix_tupK (K := K) rfl) (pv 5) pe_int (fun _ _ => rfl)))) rfl)))))), ?_⟩
    have fx : f ≠ x := fun z => by rw [z, hx] at hf; cases hf
    have bx : b ≠ x := fun z => by rw [z, hx] at hb; cases hb
    refine ⟨_, rfl, _, lf.L, rfl, ⟨l, rfl, .inl hl⟩, k1, fun y H1 s1 kl => ?_⟩
    obtain ⟨l1, rfl, hl1⟩ := kl
    have lx : l1 ≠ x := fun z => by rw [z, s1 _ _ hx] at hl1; cases hl1
    refine ⟨_, rfl, x, _, dx, _, rfl, s1 _ _ hx, T.cl_Leaf, T.na_Leaf_label, (show 0 < 1000 by decide), ?_⟩
    -- the front
    refine ⟨_, rfl, f, lf.fr, 1, "front", rfl, by rw [upd_ne fx]; exact s1 _ _ hf, k2, fun H2 s2 => ?_⟩
    have b2 : But x H H2 := ((But.of s1).trans (But.upd _)).trans (But.of s2)
    refine ⟨_, rfl, x, _, dx, _, rfl, s2 _ _ upd_same, T.cl_Leaf, T.na_Leaf_front, (show 1 < 1000 by decide), ?_⟩
    refine ⟨_, rfl, b, lf.bk, 0, "back", rfl, by rw [upd_ne bx]; exact b2 _ _ bx hb, k3, fun H3 s3 => ?_⟩
    have b3 : But x H H3 := (b2.trans (But.upd _)).trans (But.of s3)
    refine ⟨_, rfl, x, _, dx, _, rfl, s3 _ _ upd_same, T.cl_Leaf, T.na_Leaf_back, (show 2 < 1000 by decide), ?_⟩
    refine ⟨_, rfl, x, _, dx, _, _, rfl, upd_same, T.cl_Leaf, T.na_Leaf_front, rfl, _, rfl, x, _, dx, _, _, rfl, upd_same, T.cl_Leaf, T.na_Leaf_back, rfl, _, rfl, .ref f, .ref b, p, rfl, seqT_butI hx (b3.trans (But.upd _)) hp, fun pn H4 s4 hpn => ?_⟩
    have b4 : But x H H4 := (b3.trans (But.upd _)).trans (But.of s4)
    have pnx : pn ≠ x := fun z => by rw [z, s4 _ _ upd_same] at hpn; cases hpn
    refine ⟨_, rfl, x, _, dx, _, rfl, s4 _ _ upd_same, T.cl_Leaf, T.na_Leaf_pen, (show 3 < 1000 by decide), ?_⟩
    have hpn5 : upd H4 x (.ins T.C_Leaf dx (putF "pen" (.ref pn) (putF "back" (.ref b) (putF "front" (.ref f) (putF "label" (.ref l1) []))))) pn = some (.tup []) := by rw [upd_ne pnx]; exact hpn
    refine ⟨_, rfl, x, _, dx, _, _, rfl, upd_same, T.cl_Leaf, T.na_Leaf_pen, rfl, pn, rfl, ⟨[], .inl (.inl hpn5)⟩, fun D nD => ?_⟩
    refine dc_it (walkT (xs := []) rfl) (fun _ H' => Same (upd H4 x (.ins T.C_Leaf dx (putF "pen" (.ref pn) (putF "back" (.ref b) (putF "front" (.ref f) (putF "label" (.ref l1) [])))))) H' ∧ H' D = some (.dT [])) ⟨same_upd nD, upd_same⟩ (fun _ H' _ hh => same_seqT hh.1 (.inl (.inl hpn5))) (fun i x H H' hi => absurd hi (Nat.not_lt_zero _)) fun H5 ⟨s5, eD⟩ => ?_
    have b5 : But x H H5 := (b4.trans (But.upd _)).trans (But.of s5)
    have Dx : D ≠ x := fun z => by rw [z, s5 _ _ upd_same] at eD; cases eD
    refine ⟨_, rfl, x, _, dx, _, rfl, s5 _ _ upd_same, T.cl_Leaf, T.na_Leaf__strokes, (show 4 < 1000 by decide), ?_⟩
    refine q _ ?_ (b5.trans (But.upd _))
    refine ⟨x, dx, l1, f, b, pn, D, rfl, upd_same, ?_, ?_, ?_, ?_, ?_⟩
    · rw [upd_ne lx]
      exact s5 _ _ (by rw [upd_ne lx]; exact s4 _ _ (by rw [upd_ne lx]; exact s3 _ _ (by rw [upd_ne lx]; exact s2 _ _ (by rw [upd_ne lx]; exact hl1))))
    · rw [upd_ne fx]; exact b5 _ _ fx hf
    · rw [upd_ne bx]; exact b5 _ _ bx hb
    · rw [k4]
      exact .tup (by rw [upd_ne pnx]; exact s5 _ _ hpn5) .nil
    · rw [k4, upd_ne Dx]; exact eD
theorem ok_Book_facing (T : Tab K mg) : FnOk P w K mg base CX0 6 T.f_Book_facing T.d_Book_facing ["self", "page"] (sp_Book_facing K T.C_Leaf T.C_Book) := by
  refine T.F_Book_facing.ok sc_Book_facing (fun vs H Q E h => ?_) (fun cdv A outer s H vs Q E hr h => ?_)
  · obtain ⟨v, w, bk, p, i, rfl, _⟩ := h
    rfl
  · obtain ⟨v, w, bk, p, i, rfl, hbk, nd, hw, ok, ei, q⟩ := h
    refine ⟨_, (pss_cons (ps_asg (pe_meth (pv 0) T.cl_Book ⟨T.g_Book_judged_page, T.fn_Book_judged_page, T.F_Book_judged_page.kp⟩ (ok_Book_judged_page T) (hr.mono (by decide)) T.b_Book_judged_page .nil pass0 (pa_cons (pv 1) pa_nil)) (pg_tup (by rfl) (pgs_cons (pg_name (i := 2) sc_Book_facing.nd rfl (.inl rfl)) (pgs_cons (pg_name (i := 3) sc_Book_facing.nd rfl (.inl rfl)) pgs_nil))))
      (C8.pss_cut (ps_set (i := 4) sc_Book_facing.nd rfl (.inl rfl) (pe_op op_add (pe_dget (Nat.lt_of_le_of_lt (Nat.add_le_add_left (by decide) _) (un2 hr)) (pe_fld (pv 0) rfl) (pv 2) (fun _ _ => rfl)) (pe_ifExp (pt_cmpR op_eq (pv 3) pe_int (nomark _)) pe_int (pe_un un_neg pe_int))))
      (pss_cons (ps_if (pt_not (pt_chain op_le op_lt pe_int (pv 4) (pe_callB call_len_seq (by rfl) T.m_len PySem.boot_len (pa_cons (pe_fld (pv 0) rfl) pa_nil))))
      (pss_one (ps_ret pe_non))
      pss_nil)
      (pss_one (ps_ret (pe_tup (pa_cons (pe_fld (pe_ix ix_tup (pe_fld (pv 0) rfl) (pv 4) (fun _ _ => rfl)) rfl) (pa_cons (pe_op op_sub pe_int (pv 3)) pa_nil)))))))), ?_⟩
    have hbk0 := hbk
    obtain ⟨x, dx, l, s, vs, rfl, hx, hl, hf, hs, h60⟩ := hbk
    refine ⟨_, rfl, x, dx, _, rfl, hx, fBk_no (by decide +kernel), _, rfl, .ref x, w, bk, p, rfl, hbk0, hw, ok, List.mem_of_getElem? ei, fun y H1 s1 hy => ?_⟩
    obtain ⟨a, b, rfl, ha, hb⟩ := pg_inv hy
    refine ⟨a, _, rfl, .inl (.inl ha), rfl, _, _, rfl, _, _, rfl, rfl, ?_⟩
    have il : i < bk.length := by
      have := (List.getElem?_eq_some_iff.mp ei).1
      rw [List.length_map] at this
      exact this
    obtain ⟨i', h1, h2, h3⟩ := spots_get bk p.1 bk.length (Nat.le_refl _) ⟨i, il, ei⟩
    have := nd_ix nd h3 ei
    subst this
    have hx1 := s1 _ _ hx
    have g : DGet H1 s (.ref b) (some (.int (i' : Nat))) := by
      rw [← h2]
      exact DGet.t (s1 _ _ hs) (by rw [kL]; exact hb)
    refine ⟨fun σ' H' => σ' = [some (.ref x), some w, some (.ref b), some (.int p.2), some (.int ((i' : Int) + (if p.2 = 1 then 1 else -1)))] ∧ H' = H1, ?_, ?_⟩
    · refine ⟨_, rfl, x, _, dx, _, _, rfl, hx1, T.cl_Book, T.na_Book__spots, fBk_spots, _, rfl, s, _, rfl, g, _, rfl, rfl, _, rfl, ite2 (fun e => ?_) (fun e => ?_)⟩
      · have e1 : p.2 = 1 := V.int.inj (of_decide_eq_true e)
        exact ⟨_, _, rfl, rfl, by rw [if_pos e1]; rfl, rfl⟩
      · have e1 : ¬ p.2 = 1 := fun h => e (decide_eq_true (congrArg V.int h))
        exact ⟨1, rfl, _, _, rfl, rfl, by rw [if_neg e1]; rfl, rfl⟩
    · rintro σ' H' ⟨rfl, rfl⟩
      have lenb : (bk.map (·.L)).length = bk.length := List.length_map ..
      have lenv := hf.len
      have no := facP_none (Ls := bk.map (·.L)) (i := i') ok.2
      have yes := fun k L => facP_some (Ls := bk.map (·.L)) (i := i') (k := k) (L := L) ok.2
      generalize (i' : Int) + (if p.2 = 1 then 1 else -1) = S at no yes
      have fail : ¬ (0 ≤ S ∧ S < (bk.map (·.L)).length) → Q .non H' := fun h => q .non H' s1 (by rw [no h (by rw [lenb]; exact il)]; exact .non)
      have hl1 := s1 _ _ hl
      refine ⟨_, rfl, _, _, rfl, rfl, _, rfl, ?_⟩
      by_cases h0 : 0 ≤ S
      · rw [decide_eq_true h0]
        refine iteT ⟨_, rfl, x, _, dx, _, _, rfl, hx1, T.cl_Book, T.na_Book_leaves, fBk_leaves, l, vs, rfl, .inr (.inl (.inl hl1)), _, _, rfl, rfl, _, rfl, ?_⟩
        by_cases h1 : S < (vs.length : Nat)
        · rw [decide_eq_true h1]
          refine iteF ?_
          obtain ⟨k, rfl⟩ : ∃ k : Nat, S = (k : Int) := ⟨S.toNat, (Int.toNat_of_nonneg h0).symm⟩
          obtain ⟨v, ev⟩ : ∃ v, vs[k]? = some v := ⟨_, List.getElem?_eq_getElem (by omega)⟩
          obtain ⟨lf, el, hlf⟩ := hf.get ev
          obtain ⟨z, dz, la, f, b2, pn, st, rfl, hz, hL, _⟩ := LfAt.nl (NL.of s1) hlf
          have eL : (bk.map (·.L))[k]? = some lf.L := by rw [List.getElem?_map, el]; rfl
          refine ⟨_, rfl, x, _, dx, _, _, rfl, hx1, T.cl_Book, T.na_Book_leaves, fBk_leaves, _, rfl, l, vs, _, .ref z, rfl, rfl, .inl (.inl hl1), at_of' rfl ev, z, _, dz, _, _, rfl, hz, T.cl_Leaf, T.na_Leaf_label, fLf_label, _, rfl, _, _, rfl, rfl, (by show 2 ≤ sizeLine; decide), fun t nt => ?_⟩
          have s2 := same_upd (o := .tup [.ref la, .int (1 - p.2)]) nt
          refine q (.ref t) _ (s1.trans s2) ?_
          rw [yes k lf.L rfl eL]
          exact (tpP (p := (lf.L, 1 - p.2)) upd_same (s2 _ _ hL)).dp
        · rw [decide_eq_false h1]
          exact iteT (fail fun h => h1 (by rw [lenb] at h; rw [lenv]; exact h.2))
      · rw [decide_eq_false h0]
        exact iteF ⟨_, rfl, iteT (fail fun h => h0 h.1)⟩
theorem ok_deep_tuple (T : Tab K mg) : ∀ n, FnOk P w K mg base CX0 (n + 2) T.f_deep_tuple T.d_deep_tuple ["_law_thing"] (sp_deep_tuple K n)
  | 0 => ⟨fun vs H Q E h => by
      obtain ⟨x, d, rfl, _⟩ := h
      rfl, fun A outer s H args us vs Q E hr h0 hb hv h => by
      obtain ⟨x, d, _, _, hp, _⟩ := h
      exact hp.elim⟩
  | n + 1 => by
    have IH := ok_deep_tuple T n
    refine T.F_deep_tuple.ok sc_deep_tuple (fun vs H Q E h => ?_) (fun cdv A outer s H vs Q E hr h => ?_)
    · obtain ⟨x, d, rfl, _⟩ := h
      rfl
    · obtain ⟨x, d, rfl, hx, hp, q⟩ := h
      refine ⟨_, (pss_cons (ps_if (pt_val (pe_callB call_isi (by rfl) T.m_isinstance (by decide +kernel) (pa_cons (pv 0) (pa_cons (pe_bltn (v := .ty "tuple") (u := .type "tuple") (by rfl) T.m_tuple (by decide +kernel) rfl) pa_nil))))
      (pss_one (ps_ret (pe_cmpR op_eq (pe_callB call_len_seq (by rfl) T.m_len PySem.boot_len (pa_cons (pe_lc (own := [("_law_part", 1)]) (g := gName 1) (by rfl) sc_deep_tuple.nd (pi_tup (pv 0)) (blkOk_by (own := [("_law_part", 1)]) (N := N_deep_tuple) (sc := defScope s_deep_tuple) (by decide +kernel)) (fun _ _ _ _ _ => pg_name (i := 1) sc_deep_tuple.nd rfl (.inl rfl)) (fun _ _ _ _ _ => (pts_one (pt_not (pt_val (pe_call IH (hr.mono (by omega)) (by rfl) T.g_deep_tuple T.F_deep_tuple.kp T.b_deep_tuple .nil pass0 (pa_cons (pv 1) pa_nil)))))) (fun _ _ _ _ _ => (pv 1))) pa_nil)) pe_int (nomark _))))
      pss_nil)
      (pss_one (ps_ret (pe_or (pe_callB call_isi (by rfl) T.m_isinstance (by decide +kernel) (pa_cons (pv 0) (pa_cons (pe_bltn (v := .ty "str") (u := .type "str") (by rfl) T.m_str (by decide +kernel) rfl) pa_nil))) (pe_or (pe_call (ok_law_is_integer T) (hr.mono (by omega)) (by rfl) T.g_law_is_integer T.F_law_is_integer.kp T.b_law_is_integer .nil pass0 (pa_cons (pv 0) pa_nil)) (pe_one (pe_cmpR op_isN (pv 0) pe_non (nomark _)))))))), ?_⟩
      cases hx with
      | bl b => exact hp.elim
      | lst _ _ => exact hp.elim
      | non => exact hp.elim
      | str z =>
        refine ⟨_, rfl, _, _, _, _, _, rfl, .ty "tuple", .base (.str z), kit_ty (r := false) (by decide +kernel), false, rfl, iteF ?_⟩
        refine ⟨_, rfl, _, _, _, _, _, rfl, .ty "str", .base (.str z), kit_ty (r := true) (by decide +kernel), ?_⟩
        exact ⟨_, rfl, iteT (q H (Same.refl H))⟩
      | int i =>
        refine ⟨_, rfl, _, _, _, _, _, rfl, .ty "tuple", .base (.int i), kit_ty (r := false) (by decide +kernel), false, rfl, iteF ?_⟩
        refine ⟨_, rfl, _, _, _, _, _, rfl, .ty "str", .base (.int i), kit_ty (r := false) (by decide +kernel), ?_⟩
        refine ⟨_, rfl, iteF ?_⟩
        exact ⟨_, rfl, i, rfl, _, rfl, iteT (q H (Same.refl H))⟩
      | tup ha da =>
        rename_i a xs ds
        have ll := dpAll_len da
        refine ⟨_, rfl, _, _, _, _, _, rfl, .ty "tuple", ty_T ha, kit_ty (by decide +kernel), true, rfl, iteT ?_⟩
        refine ⟨_, rfl, a, rfl, ⟨_, ha⟩, fun D nD => ?_⟩
        have h1 := hp.1
        refine lc_fm ds (fun _ => none) (walkT (xs := xs) ll) nD (fun H h => same_seqT h ha) (by omega) ?_ ?_
        · rintro i e y H4x H4 er sm ⟨rfl, hy⟩ R N hR hN
          obtain ⟨e', ee, de⟩ := dpAll_get da hy
          rw [er] at ee
          cases ee
          refine ⟨rfl, _, rfl, y, e, rfl, dp_same sm de, hp.2 e (List.mem_of_getElem? er), fun H' s' => ?_⟩
          exact ⟨_, rfl, iteF (hN rfl _ s')⟩
        rintro H1 s1 eD
        have eD : H1 D = some (.lst []) := by rw [eD]; congr 2; exact List.filterMap_eq_nil_iff.mpr fun _ _ => rfl
        refine ⟨D, _, rfl, .inl (.inl (.inl eD)), rfl, ?_⟩
        have := q H1 s1
        exact this
theorem ok_true_words (T : Tab K mg) : FnOk P w K mg base CX0 7 T.f_true_words T.d_true_words ["book", "own", "goal", "near"] (sp_true_words K T.C_Leaf T.C_Book) := by
  refine T.F_true_words.ok sc_true_words (fun vs H Q E h => ?_) (fun cdv A outer s H vs Q E hr h => ?_)
  · obtain ⟨v, o, g, n, bk, p, r, rfl, _⟩ := h
    rfl
  · obtain ⟨v, o, g, n, bk, p, r, rfl, hbk, nd, ho, hg, okp, okr, mem, q⟩ := h
    refine ⟨_, (pss_cons (ps_set (i := 1) sc_true_words.nd rfl (.inl rfl) (pe_call (ok_kept_page T) (hr.mono (by decide)) (by rfl) T.g_kept_page T.F_kept_page.kp T.b_kept_page .nil pass0 (pa_cons (pv 1) pa_nil)))
      (pss_cons (ps_set (i := 2) sc_true_words.nd rfl (.inl rfl) (pe_call (ok_kept_page T) (hr.mono (by decide)) (by rfl) T.g_kept_page T.F_kept_page.kp T.b_kept_page .nil pass0 (pa_cons (pv 2) pa_nil)))
      (pss_cons (ps_set (i := 4) sc_true_words.nd rfl (.inl rfl) (pe_lst (pa_cons (pe_call (ok_write_page T) (hr.mono (by decide)) (by rfl) T.g_write_page T.F_write_page.kp T.b_write_page .nil pass0 (pa_cons (pv 2) pa_nil)) pa_nil)))
      (C8.pss_cut (ps_if (PW.pt (pw_and (pt_val (pv 3)) (pw_and1 (pt_cmpR (op_eqD hr.units) (pv 1) (pv 2) (nomark _)))))
      (pss_one (ps_expr (pe_bm PySem.F.plainAttrs_list PySem.F.slot_list_insert PySem.F.type_list_insert mt_insert (pv 4) (pa_cons pe_int (pa_cons (pe_glob (v := .str "here") (by rfl) T.c_HERE ⟨_, rfl⟩) pa_nil)))))
      (pss_one (ps_if (PW.pt (pw_and (pt_val (pv 3)) (pw_and1 (pt_cmpR (op_eqD hr.units) (pe_ix ix_tup (pv 1) pe_int (fun _ _ => rfl)) (pe_ix ix_tup (pv 2) pe_int (fun _ _ => rfl)) (nomark _)))))
        (pss_one (ps_expr (pe_bm PySem.F.plainAttrs_list PySem.F.slot_list_insert PySem.F.type_list_insert mt_insert (pv 4) (pa_cons pe_int (pa_cons (pe_glob (v := .str "overleaf") (by rfl) T.c_OVERLEAF ⟨_, rfl⟩) pa_nil)))))
        (pss_one (ps_if (PW.pt (pw_and (pt_val (pv 3)) (pw_and1 (pt_cmpR (op_eqD hr.units) (pe_meth (pv 0) T.cl_Book ⟨T.g_Book_facing, T.fn_Book_facing, T.F_Book_facing.kp⟩ (ok_Book_facing T) (hr.mono (by decide)) T.b_Book_facing .nil pass0 (pa_cons (pv 1) pa_nil)) (pv 2) (nomark _)))))
          (pss_one (ps_expr (pe_bm PySem.F.plainAttrs_list PySem.F.slot_list_insert PySem.F.type_list_insert mt_insert (pv 4) (pa_cons pe_int (pa_cons (pe_glob (v := .str "facing") (by rfl) T.c_FACING ⟨_, rfl⟩) pa_nil)))))
          pss_nil)))))
      (pss_one (ps_ret (pe_callTy call_tuple_of (by rfl) T.m_tuple (by decide +kernel) (pa_cons (pv 4) pa_nil)))))))), ?_⟩
    have ipS : ∀ {Ha Hb : Hp} {x : V} {p : Pg}, Same Ha Hb → IP K Ha x p → IP K Hb x p := fun s h => by
      obtain ⟨a, u, e, hS, l, e2, hl⟩ := h
      refine ⟨a, u, e, same_sq s hS, l, e2, ?_⟩
      rcases hl with hl | hl
      · exact .inl (s _ _ hl)
      · exact .inr (s.seq hl)
    refine ⟨_, rfl, o, p, rfl, ho, okp, fun y H1 s1 hy => ?_⟩
    refine ⟨_, rfl, g, r, rfl, ipS s1 hg, okr, fun z H2 s2 hz => ?_⟩
    refine ⟨_, rfl, z, r, rfl, hz, okr, fun H3 s3 => ⟨(by show 1 ≤ sizeLine; decide), fun D nD => ?_⟩⟩
    have s4 := same_upd (o := .lst [.str (fP r)]) nD
    have eD : upd H3 D (.lst [.str (fP r)]) D = some (.lst [.str (fP r)]) := upd_same
    generalize upd H3 D (.lst [.str (fP r)]) = H4 at s4 eD
    have s24 := (s3.trans s4)
    have s04 := (s1.trans s2).trans s24
    have hbk4 := hbk.nl (NL.of s04)
    have hy4 := hy.nl (NL.of (s2.trans s24))
    have hz4 := hz.nl (NL.of s24)
    obtain ⟨i0, hi0, e0⟩ := List.mem_iff_getElem.mp mem
    have ei : (bk.map (·.L))[i0]? = some p.1 := by rw [List.getElem?_eq_getElem hi0, e0]
    have fi := fac_iff nd ei okp.2 okr.2
    have nDH : H D = none := by
      cases e : H D with
      | none => rfl
      | some o => have := ((s1.trans s2).trans s3) _ _ e; rw [nD] at this; cases this
    refine ⟨fun σ' H' => σ' = [some v, some y, some z, some (.bl n), some (.ref D)] ∧ Same H H' ∧ H' D = some (.lst ((wordsT n p r (facesB (bk.map (·.L)) p r)).map V.str)), ?_, ?_⟩
    · refine ⟨_, rfl, _, rfl, ?_⟩
      have w0 : ∀ f, wordsT n p r f = headW n p r f ++ [fP r] := fun _ => rfl
      cases n with
      | false => exact iteF (iteF ⟨_, rfl, _, rfl, iteF (iteF ⟨_, rfl, _, rfl, iteF (iteF ⟨rfl, s04, eD⟩)⟩)⟩)
      | true =>
        refine iteT ⟨_, rfl, _, rfl, dP p, dP r, hy4.dp, hz4.dp, shaped_P _, shaped_P _, decide (p = r), congrArg V.bl (eqv_dP p r), ?_⟩
        cases c1 : decide (p = r) with
        | true =>
          refine iteT ⟨_, rfl, .inl ⟨rfl, _, .inl (.inl eD)⟩, D, _, 0, .str "here", rfl, rfl, eD, small1000 (by show 1 ≤ 1000; decide), by decide, by decide, rfl, same_put s04 nDH _, ?_⟩
          rw [upd_same]
          unfold wordsT headW
          rw [c1]
          rfl
        | false =>
          refine iteF ⟨_, rfl, _, rfl, iteT ?_⟩
          obtain ⟨a1, b1, rfl, ha1, hb1⟩ := pg_inv hy4
          obtain ⟨a2, b2, rfl, ha2, hb2⟩ := pg_inv hz4
          refine ⟨_, rfl, a1, _, 0, _, rfl, rfl, .inl (.inl ha1), rfl, _, rfl, a2, _, 0, _, rfl, rfl, .inl (.inl ha2), rfl, dL p.1, dL r.1, (tpL hb1).dp, (tpL hb2).dp, shaped_L _, shaped_L _, decide (p.1 = r.1), congrArg V.bl (eqv_L _ _), ?_⟩
          cases c2 : decide (p.1 = r.1) with
          | true =>
            refine iteT ⟨_, rfl, .inl ⟨rfl, _, .inl (.inl eD)⟩, D, _, 0, .str "overleaf", rfl, rfl, eD, small1000 (by show 1 ≤ 1000; decide), by decide, by decide, rfl, same_put s04 nDH _, ?_⟩
            rw [upd_same]
            unfold wordsT headW
            rw [c1, c2]
            rfl
          | false =>
            refine iteF ⟨_, rfl, _, rfl, iteT ?_⟩
            obtain ⟨x, dx, l, s, vs, rfl, hx, _⟩ := id hbk4
            refine ⟨_, rfl, x, dx, _, rfl, hx, fBk_no (by decide +kernel), _, rfl, .ref x, .ref a1, bk, p, i0, rfl, hbk4, nd, ip_tp hy4, okp, ei, fun u H5 s5 du => ?_⟩
            have eD5 := s5 _ _ eD
            refine ⟨_, rfl, oD dP (facP (bk.map fun l : Lf => l.L) i0 p.2), dP r, du, (hz4.nl (NL.of s5)).dp, shaped_pn (pn_oP _) (by decide), shaped_P _, facesB (bk.map (·.L)) p r, congrArg V.bl (by rw [eqv_oP, fi]), ?_⟩
            cases c3 : facesB (bk.map (·.L)) p r with
            | true =>
              refine iteT ⟨_, rfl, .inl ⟨rfl, _, .inl (.inl eD5)⟩, D, _, 0, .str "facing", rfl, rfl, eD5, small1000 (by show 1 ≤ 1000; decide), by decide, by decide, rfl, same_put (s04.trans s5) nDH _, ?_⟩
              rw [upd_same]
              unfold wordsT headW
              rw [c1, c2]
              rfl
            | false =>
              refine iteF ⟨rfl, s04.trans s5, ?_⟩
              rw [eD5]
              unfold wordsT headW
              rw [c1, c2]
              rfl
    · rintro σ' H' ⟨rfl, s5, hD⟩
      refine ⟨_, rfl, D, _, rfl, .inl ⟨.inl (.inl hD), fun t nt => ?_⟩⟩
      exact q t _ (s5.trans (same_upd nt)) upd_same
theorem ok_is_book (T : Tab K mg) : FnOk P w K mg base CX0 7 T.f_is_book T.d_is_book ["_law_actual", "_law_leaves"] (sp_is_book K T.C_Leaf T.C_Book) := by
  refine T.F_is_book.ok sc_is_book (fun vs H Q E h => ?_) (fun cdv A outer s H vs Q E hr h => ?_)
  · obtain ⟨v, l, bk, rfl, _⟩ := h
    rfl
  · obtain ⟨v, l, bk, rfl, hbk, hlv, ok, sok, q⟩ := h
    refine ⟨_, (pss_cons (ps_if (pt_not (pt_val (pe_callB call_isi (by rfl) T.m_isinstance (by decide +kernel) (pa_cons (pe_fld (pv 0) rfl) (pa_cons (pe_bltn (v := .ty "tuple") (u := .type "tuple") (by rfl) T.m_tuple (by decide +kernel) rfl) pa_nil)))))
      (pss_one (ps_ret pe_bl))
      pss_nil)
      (pss_cons (ps_set (i := 2) sc_is_book.nd rfl (.inl rfl) (pe_call (ok_leaves_in T) (hr.mono (by decide)) (by rfl) T.g_leaves_in T.F_leaves_in.kp T.b_leaves_in .nil pass0 (pa_cons (pv 0) pa_nil)))
      (pss_one (ps_ret (pe_and (pe_cmpR (op_eqD hr.units) (pv 2) (pe_lc (own := [("_law_sheet", 3)]) (g := gName 3) (by rfl) sc_is_book.nd (pi_list (pv 1)) (blkOk_by (own := [("_law_sheet", 3)]) (N := N_is_book) (sc := defScope s_is_book) (by decide +kernel)) (fun _ _ _ _ _ => pg_name (i := 3) sc_is_book.nd rfl (.inl rfl)) (fun _ _ _ _ _ => pts_nil) (fun _ _ _ _ _ => (pe_callTy (call_tuple_ofK (K := K) rfl) (by rfl) T.m_tuple (by decide +kernel) (pa_cons (pv 3) pa_nil)))) (nomark _)) (pe_one (pe_call (ok_deep_tuple T 4) (hr.mono (by decide)) (by rfl) T.g_deep_tuple T.F_deep_tuple.kp T.b_deep_tuple .nil pass0 (pa_cons (pe_callTy call_tuple_of (by rfl) T.m_tuple (by decide +kernel) (pa_cons (pv 2) pa_nil)) pa_nil)))))))), ?_⟩
    have hbk0 := hbk
    obtain ⟨x, dx, la, s, vs, rfl, hx, hl, hf, hs, h60⟩ := hbk
    obtain ⟨us, hlu, tu⟩ := hlv
    have ulen := tu.len
    rw [List.length_map] at ulen
    refine ⟨_, rfl, x, _, dx, _, _, rfl, hx, T.cl_Book, T.na_Book_leaves, fBk_leaves, ?_⟩
    refine ⟨_, _, _, _, _, rfl, .ty "tuple", ty_T (.inl (.inl hl)), kit_ty (r := true) (by decide +kernel), _, rfl, iteF ?_⟩
    refine ⟨_, rfl, .ref x, bk, rfl, hbk0, fun y hy => (ok.2.1 y hy).2.2.2, fun p ts H1 s1 hp tp => ?_⟩
    have hlu1 := s1 _ _ hlu
    have tu1 := tu.nl (NL.of s1)
    refine ⟨_, rfl, _, rfl, l, rfl, ⟨_, .inl (.inl hlu1)⟩, fun D nD => ?_⟩
    refine lc_tp bk (fun y => some (dLf y)) (walkL (xs := us) ulen) nD (fun H h => .inl (.inl (h _ _ hlu1))) (by omega) ?_ ?_
    · rintro i y z H4x H4 er sm ⟨rfl, hy⟩ R N hR hN
      obtain ⟨lf, el, td⟩ := lv_get tu1 hy
      rw [er] at el
      cases el
      have td4 := td.nl (NL.of sm)
      refine ⟨rfl, _, rfl, ?_⟩
      have td5 := td4
      cases td4 with
      | tup hz tz => exact ⟨_, _, rfl, .inr ⟨.inl (.inl hz), hR _ _ rfl _ (Same.refl _) td5⟩⟩
    · intro H2 zs s2 eD tz
      have e : bk.filterMap (fun l => some (dLf l)) = bk.map dLf := by rw [← List.filterMap_eq_map]; rfl
      rw [e] at tz
      have hp2 := s2 _ _ hp
      have tp2 := tp.nl (NL.of s2)
      have pd := pd_Lfs ok sok
      refine ⟨_, _, .lst (.inl (.inl hp2)) tp2.dp, .lst (.inl (.inl eD)) tz.dp, shaped_pdl pd (by decide), shaped_pdl pd (by decide), _, rfl, ?_⟩
      rw [eqv_pdl pd]
      refine iteT ⟨_, rfl, p, _, rfl, .inl ⟨.inl (.inl hp2), fun t nt => ?_⟩⟩
      have s3 := same_upd (o := .tup ts) nt
      refine ⟨_, _, rfl, .tup (.inl (.inl upd_same)) (tp2.nl (NL.of s3)).dp, pd_bk ok sok, fun H' s' => ?_⟩
      exact q H' (((s1.trans s2).trans s3).trans s')
theorem ok_place_word_true (T : Tab K mg) : FnOk P w K mg base CX0 8 T.f_place_word_true T.d_place_word_true ["book", "own", "goal", "word", "near"] (sp_place_word_true K T.C_Leaf T.C_Book) := by
  refine T.F_place_word_true.ok sc_place_word_true (fun vs H Q E h => ?_) (fun cdv A outer s H vs Q E hr h => ?_)
  · obtain ⟨v, o, g, z, n, bk, p, r, rfl, _⟩ := h
    rfl
  · obtain ⟨v, o, g, z, n, bk, p, r, rfl, hbk, nd, ho, hg, okp, okr, mem, q⟩ := h
    refine ⟨_, (pss_one (ps_ret (pe_cmpR op_in_seq (pv 3) (pe_call (ok_true_words T) (hr.mono (by decide)) (by rfl) T.g_true_words T.F_true_words.kp T.b_true_words .nil pass0 (pa_cons (pv 0) (pa_cons (pv 1) (pa_cons (pv 2) (pa_cons (pv 4) pa_nil))))) (by rfl)))), ?_⟩
    refine ⟨_, rfl, _, rfl, _, rfl, _, rfl, _, rfl, v, o, g, n, bk, p, r, rfl, hbk, nd, ho, hg, okp, okr, mem, fun t H1 s1 ht => ?_⟩
    refine ⟨t, _, rfl, .inr (.inl (.inl ht)), rfl, flat_strs _, ?_⟩
    have := q H1 s1
    rw [← in_words (faces_ne nd), ← inV_strs] at this
    exact this
theorem ok_preferred_place (T : Tab K mg) : FnOk P w K mg base CX0 8 T.f_preferred_place T.d_preferred_place ["book", "own", "goal", "near"] (sp_preferred_place K T.C_Leaf T.C_Book) := by
  refine T.F_preferred_place.ok sc_preferred_place (fun vs H Q E h => ?_) (fun cdv A outer s H vs Q E hr h => ?_)
  · obtain ⟨v, o, g, n, bk, p, r, rfl, _⟩ := h
    rfl
  · obtain ⟨v, o, g, n, bk, p, r, rfl, hbk, nd, ho, hg, okp, okr, mem, q⟩ := h
    refine ⟨_, (pss_one (ps_ret (pe_ix ix_tup (pe_call (ok_true_words T) (hr.mono (by decide)) (by rfl) T.g_true_words T.F_true_words.kp T.b_true_words .nil pass0 (pa_cons (pv 0) (pa_cons (pv 1) (pa_cons (pv 2) (pa_cons (pv 3) pa_nil))))) pe_int (fun _ _ => rfl)))), ?_⟩
    refine ⟨_, rfl, _, rfl, _, rfl, _, rfl, v, o, g, n, bk, p, r, rfl, hbk, nd, ho, hg, okp, okr, mem, fun t H1 s1 ht => ?_⟩
    have w := (pref_word (n := n) (o := p) (g := r) (faces_ne nd)).1
    refine ⟨t, _, 0, _, rfl, rfl, .inl (.inl ht), at_of' (j := 0) rfl (by rw [List.getElem?_map, w]; rfl), q H1 s1⟩
theorem ok_pair_right (T : Tab K mg) : FnOk P w K mg base CX0 9 T.f_pair_right T.d_pair_right ["_law_source_here", "_law_book", "_law_leaves", "_law_own", "_law_goal"] (sp_pair_right K T.C_Leaf T.C_Book) := by
  refine T.F_pair_right.ok sc_pair_right (fun vs H Q E h => ?_) (fun cdv A outer s H vs Q E hr h => ?_)
  · obtain ⟨a, l, v, o, g, bk, p, r, rfl, _⟩ := h
    rfl
  · obtain ⟨a, l, v, o, g, bk, p, r, rfl, src, hbk, la, hlv, ok, ho, hg, mp, mr, q⟩ := h
    refine ⟨_, (pss_cons (ps_setLc (i := 5) (own := [("_law_leaf", 10)]) (g := gName 10) (by rfl) sc_pair_right.nd rfl rfl (sw_true rfl rfl rfl (by decide +kernel)) (pi_list (pv 2)) (blkOk_by (own := [("_law_leaf", 10)]) (N := N_pair_right) (sc := defScope s_pair_right) (by decide +kernel)) (fun _ _ _ _ _ => pg_name (i := 10) sc_pair_right.nd rfl (.inl rfl)) (fun _ _ _ _ _ => pts_nil) (fun _ _ _ _ _ => (pe_ix (ix_tupK (K := K) rfl) (pv 10) pe_int (fun _ _ => rfl))))
      (pss_cons (ps_set (i := 6) sc_pair_right.nd rfl (.inl rfl) (pe_lst (pa_cons (pe_lst (pa_cons (pe_callTy call_list_of (by rfl) T.m_list (by decide +kernel) (pa_cons (pe_ix ix_tup (pv 3) pe_int (fun _ _ => rfl)) pa_nil)) (pa_cons (pe_ix ix_tup (pv 3) pe_int (fun _ _ => rfl)) pa_nil))) (pa_cons (pe_lst (pa_cons (pe_callTy call_list_of (by rfl) T.m_list (by decide +kernel) (pa_cons (pe_ix ix_tup (pv 4) pe_int (fun _ _ => rfl)) pa_nil)) (pa_cons (pe_ix ix_tup (pv 4) pe_int (fun _ _ => rfl)) pa_nil))) pa_nil))))
      (pss_cons (ps_for PassesOwn.never rfl (pi_list (pe_lst (pa_cons pe_bl (pa_cons pe_bl pa_nil)))) (pg_name (i := 7) sc_pair_right.nd rfl (.inl rfl))
      (pss_cons (ps_set (i := 8) sc_pair_right.nd rfl (.inl rfl) (pe_call (ok_preferred_place T) (hr.mono (by decide)) (by rfl) T.g_preferred_place T.F_preferred_place.kp T.b_preferred_place .nil pass0 (pa_cons (pv 1) (pa_cons (pv 3) (pa_cons (pv 4) (pa_cons (pv 7) pa_nil))))))
        (pss_cons (ps_if (PW.pt (pw_or (pt_not (pt_val (pe_callB call_isi (by rfl) T.m_isinstance (by decide +kernel) (pa_cons (pv 8) (pa_cons (pe_bltn (v := .ty "str") (u := .type "str") (by rfl) T.m_str (by decide +kernel) rfl) pa_nil))))) (pw_or1 (pt_cmpR op_ne (pv 8) (pe_call (ok_place_word T) (hr.mono (by decide)) (by rfl) T.g_place_word T.F_place_word.kp T.b_place_word .nil pass0 (pa_cons (pv 5) (pa_cons (pv 3) (pa_cons (pv 4) (pa_cons (pv 7) pa_nil))))) (nomark _)))))
        (pss_one (ps_ret pe_bl))
        pss_nil)
        (pss_one (ps_for PassesOwn.never rfl (pi_list (pe_call (ok_words T) (hr.mono (by decide)) (by rfl) T.g_words T.F_words.kp T.b_words .nil pass0 (pa_cons (pv 0) (pa_cons (pe_call (ok_all_pages T) (hr.mono (by decide)) (by rfl) T.g_all_pages T.F_all_pages.kp T.b_all_pages .nil pass0 (pa_cons (pv 2) pa_nil)) (pa_cons (pv 4) pa_nil))))) (pg_name (i := 9) sc_pair_right.nd rfl (.inl rfl))
        (pss_cons (ps_set (i := 8) sc_pair_right.nd rfl (.inl rfl) (pe_call (ok_place_word_true T) (hr.mono (by decide)) (by rfl) T.g_place_word_true T.F_place_word_true.kp T.b_place_word_true .nil pass0 (pa_cons (pv 1) (pa_cons (pv 3) (pa_cons (pv 4) (pa_cons (pv 9) (pa_cons (pv 7) pa_nil)))))))
          (pss_one (ps_if (PW.pt (pw_or (pt_not (pt_val (pe_callB call_isi (by rfl) T.m_isinstance (by decide +kernel) (pa_cons (pv 8) (pa_cons (pe_bltn (v := .ty "bool") (u := .type "bool") (by rfl) T.m_bool (by decide +kernel) rfl) pa_nil))))) (pw_or1 (pt_cmpR op_ne (pv 8) (pe_call (ok_place_true T) (hr.mono (by decide)) (by rfl) T.g_place_true T.F_place_true.kp T.b_place_true .nil pass0 (pa_cons (pv 5) (pa_cons (pv 3) (pa_cons (pv 4) (pa_cons (pv 9) (pa_cons (pv 7) pa_nil)))))) (nomark _)))))
          (pss_one (ps_ret pe_bl))
          pss_nil))))))))
      (pss_cons (ps_if (pt_cmpR op_ne (pe_call (ok_preferred_place T) (hr.mono (by decide)) (by rfl) T.g_preferred_place T.F_preferred_place.kp T.b_preferred_place .nil pass0 (pa_cons (pv 1) (pa_cons (pe_ix ix_list (pv 6) pe_int (fun _ _ => rfl)) (pa_cons (pe_ix ix_list (pv 6) pe_int (fun _ _ => rfl)) (pa_cons pe_bl pa_nil))))) (pe_call (ok_place_word T) (hr.mono (by decide)) (by rfl) T.g_place_word T.F_place_word.kp T.b_place_word .nil pass0 (pa_cons (pv 5) (pa_cons (pv 3) (pa_cons (pv 4) (pa_cons pe_bl pa_nil))))) (nomark _))
      (pss_one (ps_ret pe_bl))
      pss_nil)
      (pss_one (ps_ret (pe_cmpR op_eq (pe_call (ok_place_word_true T) (hr.mono (by decide)) (by rfl) T.g_place_word_true T.F_place_word_true.kp T.b_place_word_true .nil pass0 (pa_cons (pv 1) (pa_cons (pe_ix ix_list (pv 6) pe_int (fun _ _ => rfl)) (pa_cons (pe_ix ix_list (pv 6) pe_int (fun _ _ => rfl)) (pa_cons pe_str (pa_cons pe_bl pa_nil)))))) (pe_call (ok_faces T) (hr.mono (by decide)) (by rfl) T.g_faces T.F_faces.kp T.b_faces .nil pass0 (pa_cons (pv 5) (pa_cons (pv 3) (pa_cons (pv 4) pa_nil)))) (nomark _)))))))), ?_⟩
    obtain ⟨ls, hl, tl⟩ := hlv
    have len := tl.len
    rw [List.length_map] at len
    have h60 := ok.1
    have okp := all_okP ok p mp
    have okr := all_okP ok r mr
    have memL : ∀ {s : Pg}, s ∈ allP bk → s.1 ∈ bk.map (·.L) := fun {s} hs => by
      obtain ⟨y, hy, h⟩ := List.mem_flatMap.mp hs
      refine List.mem_map.mpr ⟨y, hy, ?_⟩
      rcases List.mem_cons.mp h with rfl | h
      · rfl
      · rw [List.mem_singleton.mp h]
    have neL : bk.map (·.L) ≠ [] := fun e => by
      have := memL mp
      rw [e] at this
      cases this
    have nd : (bk.map (·.L)).Nodup := by
      have pw := ok.2.2
      rw [List.Nodup, List.pairwise_map]
      exact pw.imp fun {x y} h e => by rw [e] at h; exact absurd h (by rw [lx_irr]; decide)
    have lL : (bk.map (·.L)).length ≤ 60 := by rw [List.length_map]; exact h60
    refine ⟨_, rfl, l, rfl, ⟨_, .inl (.inl hl)⟩, fun D nD => ?_⟩
    refine lc_tp bk (fun y => some (dL y.L)) (walkL (xs := ls) len) nD (fun H h => .inl (.inl (h _ _ hl))) (by omega) ?_ ?_
    · rintro i y z H4x H4 er sm ⟨rfl, hy⟩ R N hR hN
      obtain ⟨lf, el, td⟩ := lv_get tl hy
      rw [er] at el
      cases el
      obtain ⟨t, u1, u2, u3, u4, rfl, ht, t1, _⟩ := dLf_inv (td.nl (NL.of sm))
      exact ⟨rfl, _, rfl, t, _, 0, _, rfl, rfl, .inl (.inl ht), rfl, hR _ _ rfl _ (Same.refl _) t1⟩
    rintro H1 ds s1 eD tD
    have e : bk.filterMap (fun y => some (dL y.L)) = (bk.map (·.L)).map dL := by rw [List.map_map, ← List.filterMap_eq_map]; rfl
    rw [e] at tD
    have src1 := srcS s1 src
    have Da : D ≠ a := (src.ne nD).symm
    have ho1 := ho.nl (NL.of s1)
    have hg1 := hg.nl (NL.of s1)
    have hbk1 := hbk.nl (NL.of s1)
    have hl1 := s1 _ _ hl
    have tl1 := tl.nl (NL.of s1)
    have hLb : LbAt H1 D (bk.map (·.L)) := ⟨ds, eD, tD⟩
    obtain ⟨oa, ol, rfl, hoa, hol⟩ := pg_inv ho1
    obtain ⟨ga, gl, rfl, hga, hgl⟩ := pg_inv hg1
    refine ⟨_, rfl, oa, _, 0, _, rfl, rfl, .inl (.inl hoa), rfl, ol, _, rfl, .inr (.inl (.inl hol)), fun c1 nc1 => ?_⟩
    have e1 := same_upd (o := .lst (p.1.map V.int)) nc1
    have hc1 : upd H1 c1 (.lst (p.1.map V.int)) c1 = some (.lst (p.1.map V.int)) := upd_same
    generalize upd H1 c1 (.lst (p.1.map V.int)) = G1 at e1 hc1 ⊢
    refine ⟨_, rfl, oa, _, 1, _, rfl, rfl, .inl (.inl (e1 _ _ hoa)), rfl, (by show 2 ≤ sizeLine; decide), fun d1 nd1 => ?_⟩
    have e2 := same_upd (o := .lst [.ref c1, .int p.2]) nd1
    have hd1 : upd G1 d1 (.lst [.ref c1, .int p.2]) d1 = some (.lst [.ref c1, .int p.2]) := upd_same
    have e12 := e1.trans e2
    have hc12 := e2 _ _ hc1
    generalize upd G1 d1 (.lst [.ref c1, .int p.2]) = G2 at e2 hd1 e12 hc12 ⊢
    refine ⟨_, rfl, ga, _, 0, _, rfl, rfl, .inl (.inl (e12 _ _ hga)), rfl, gl, _, rfl, .inr (.inl (.inl (e12 _ _ hgl))), fun c2 nc2 => ?_⟩
    have e3 := same_upd (o := .lst (r.1.map V.int)) nc2
    have hc2 : upd G2 c2 (.lst (r.1.map V.int)) c2 = some (.lst (r.1.map V.int)) := upd_same
    have e13 := e12.trans e3
    have hc13 := e3 _ _ hc12
    have hd13 := e3 _ _ hd1
    generalize upd G2 c2 (.lst (r.1.map V.int)) = G3 at e3 hc2 e13 hc13 hd13 ⊢
    refine ⟨_, rfl, ga, _, 1, _, rfl, rfl, .inl (.inl (e13 _ _ hga)), rfl, (by show 2 ≤ sizeLine; decide), fun d2 nd2 => ⟨(by show 2 ≤ sizeLine; decide), fun w nw => ?_⟩⟩
    have e4 := same_upd (o := .lst [.ref c2, .int r.2]) nd2
    have e5 := same_upd (o := .lst [.ref d1, .ref d2]) nw
    have hd2 := e5 _ _ (upd_same (H := G3) (a := d2) (o := .lst [.ref c2, .int r.2]))
    have e35 := e4.trans e5
    have e15 := e13.trans e35
    have hc15 := e35 _ _ hc13
    have hd15 := e35 _ _ hd13
    have hc25 := e35 _ _ hc2
    have hw : upd (upd G3 d2 (.lst [.ref c2, .int r.2])) w (.lst [.ref d1, .ref d2]) w = some (.lst [.ref d1, .ref d2]) := upd_same
    generalize upd (upd G3 d2 (.lst [.ref c2, .int r.2])) w (.lst [.ref d1, .ref d2]) = H2 at e5 hd2 e15 hc15 hd15 hc25 hw ⊢
    have src2 := srcS e15 src1
    have lna : ∀ {x : Addr} {ys : List V}, H1 x = none → x ≠ a := fun n => (src1.ne n).symm
    have na : ∀ {G : Hp} {x : Addr}, Same H1 G → G x = none → x ≠ a := fun s n => ((srcS s src1).ne n).symm
    have c1a := na (Same.refl _) nc1
    have d1a := na e1 nd1
    have c2a := na e12 nc2
    have d2a := na e13 nd2
    have wa := na (e13.trans e4) nw
    -- what stands as long as only the source changes
    have St : ∀ {G : Hp}, But a H2 G → NL H2 G := fun b => src2.nl b
    have hbk2 := hbk1.nl (NL.of e15)
    have ho2 := ho1.nl (NL.of e15)
    have hg2 := hg1.nl (NL.of e15)
    have hl2 := e15 _ _ hl1
    have tl2 := tl1.nl (NL.of e15)
    have eD2 := e15 _ _ eD
    have tD2 := tD.nl (NL.of e15)
    have lb : ∀ {G : Hp}, But a H2 G → LbAt G D (bk.map (·.L)) := fun b => ⟨ds, b _ _ Da eD2, tD2.nl (St b)⟩
    refine ⟨(by show 2 ≤ sizeLine; decide), fun f nf => ?_⟩
    have ef := same_upd (o := .lst [.bl true, .bl false]) nf
    have hf : upd H2 f (.lst [.bl true, .bl false]) f = some (.lst [.bl true, .bl false]) := upd_same
    have fa := na e15 nf
    have srcf := srcS ef src2
    generalize upd H2 f (.lst [.bl true, .bl false]) = Hf at ef hf srcf ⊢
    refine ⟨f, rfl, ⟨_, .inl (.inl hf)⟩, for_list (xs := [.bl true, .bl false]) (fun i σ' H' => ∃ (y7 y8 y9 : Option V), σ' = [some (.ref a), some v, some (.ref l), some (.ref oa), some (.ref ga), some (.ref D), some (.ref w), y7, y8, y9, none] ∧ Src H' a ∧ But a Hf H') ⟨none, none, none, rfl, srcf, But.refl a Hf⟩ (fun i σ' H' _ hh => by obtain ⟨_, _, _, _, _, b⟩ := hh; exact .inl (.inl (b _ _ fa hf))) ?_ ?_⟩
    · rintro i x σ' H3 hx ⟨y7, y8, y9, rfl, s3, b3⟩
      obtain ⟨n, rfl⟩ : ∃ n, x = .bl n := by
        match i, hx with
        | 0, e => cases e; exact ⟨true, rfl⟩
        | 1, e => cases e; exact ⟨false, rfl⟩
        | i + 2, e => cases e
      have b23 : But a H2 H3 := (But.of ef).trans b3
      refine ⟨_, rfl, _, rfl, _, rfl, _, rfl, v, .ref oa, .ref ga, n, bk, p, r, rfl, hbk2.nl (St b23), nd, ip_tp (ho2.nl (St b23)), ip_tp (hg2.nl (St b23)), okp, okr, memL mp, fun H4 s4 => ?_⟩
      have b24 := b23.trans (But.of s4)
      refine ⟨_, rfl, _, _, _, _, _, rfl, .ty "str", .base (.str _), kit_ty (r := true) (by decide +kernel), _, rfl, iteF ?_⟩
      refine ⟨_, rfl, _, rfl, _, rfl, _, rfl, _, rfl, D, .ref oa, .ref ga, n, bk.map (·.L), p, r, rfl, lb b24, neL, lL, nd, ho2.nl (St b24), hg2.nl (St b24), okp, okr, fun H5 s5 => ?_⟩
      refine ⟨rfl, _, rfl, ?_⟩
      rw [decide_eq_true rfl]
      refine iteF ?_
      have b25 := b24.trans (But.of s5)
      have s35 := s4.trans s5
      have src5 := srcS s35 s3
      refine ⟨_, rfl, _, rfl, l, bk, rfl, ⟨ls, b25 _ _ la hl2, tl2.nl (St b25)⟩, h60, fun b us H6 s6 nb hb tus => ?_⟩
      have src6 := srcS s6 src5
      have ba : b ≠ a := (src5.ne nb).symm
      have b26 := b25.trans (But.of s6)
      have la2 : (allP bk).length ≤ 120 := by rw [allP_len]; omega
      refine ⟨_, rfl, a, b, us, .ref ga, allP bk, r, rfl, src6, ba, hb, tus, all_okP ok, List.length_pos_of_mem mp, by omega, hg2.nl (St b26), okr, fun wl zs H7 s7 b7 nwl hwl => ?_⟩
      have b27 := b26.trans b7
      have wla : wl ≠ a := (src6.ne nwl).symm
      refine ⟨wl, rfl, ⟨_, .inl (.inl hwl)⟩, for_list (xs := zs.map V.str) (fun i σ' H' => ∃ (y8 y9 : Option V), σ' = [some (.ref a), some v, some (.ref l), some (.ref oa), some (.ref ga), some (.ref D), some (.ref w), some (.bl n), y8, y9, none] ∧ Same H7 H') ⟨_, _, rfl, Same.refl _⟩ (fun i σ' H' _ hh => by obtain ⟨_, _, _, s⟩ := hh; exact .inl (.inl (s _ _ hwl))) ?_ ?_⟩
      · rintro j x σ' H8 hx ⟨y8, y9, rfl, s8⟩
        obtain ⟨z, rfl⟩ : ∃ z, x = .str z := by
          rw [List.getElem?_map] at hx
          cases e : zs[j]? with
          | none => rw [e] at hx; cases hx
          | some z => rw [e] at hx; cases hx; exact ⟨z, rfl⟩
        have b28 := b27.trans (But.of s8)
        refine ⟨_, rfl, _, rfl, _, rfl, _, rfl, _, rfl, v, .ref oa, .ref ga, z, n, bk, p, r, rfl, hbk2.nl (St b28), nd, ip_tp (ho2.nl (St b28)), ip_tp (hg2.nl (St b28)), okp, okr, memL mp, fun H9 s9 => ?_⟩
        have b29 := b28.trans (But.of s9)
        refine ⟨_, rfl, _, _, _, _, _, rfl, .ty "bool", .base (.bl _), kit_ty (r := true) (by decide +kernel), _, rfl, iteF ?_⟩
        refine ⟨_, rfl, _, rfl, _, rfl, _, rfl, _, rfl, _, rfl, D, .ref oa, .ref ga, z, n, bk.map (·.L), p, r, rfl, lb b29, neL, lL, ho2.nl (St b29), hg2.nl (St b29), okp, okr, fun H10 s10 => ?_⟩
        refine ⟨rfl, _, rfl, ?_⟩
        rw [decide_eq_true rfl]
        exact iteF ⟨_, _, rfl, (s8.trans s9).trans s10⟩
      · rintro σ' H8 ⟨y8, y9, rfl, s8⟩
        have bf8 : But a Hf H8 := (((b3.trans (But.of (s35.trans s6))).trans b7).trans (But.of s8))
        exact ⟨_, _, _, rfl, srcS s8 s7, bf8⟩
    · rintro σ' H3 ⟨y7, y8, y9, rfl, s3, b3⟩
      have b23 : But a H2 H3 := (But.of ef).trans b3
      have hw3 := b23 _ _ wa hw
      have ipO : ∀ {G : Hp}, But a H2 G → IP K G (.ref d1) p := fun b => ⟨d1, _, rfl, .inl (.inl (.inl (b _ _ d1a hd15))), c1, rfl, .inr (.inl (.inl (b _ _ c1a hc15)))⟩
      have ipG : ∀ {G : Hp}, But a H2 G → IP K G (.ref d2) r := fun b => ⟨d2, _, rfl, .inl (.inl (.inl (b _ _ d2a hd2))), c2, rfl, .inr (.inl (.inl (b _ _ c2a hc25)))⟩
      refine ⟨_, rfl, _, rfl, w, _, 0, _, rfl, rfl, .inl (.inl hw3), rfl, _, rfl, w, _, 1, _, rfl, rfl, .inl (.inl hw3), rfl, v, .ref d1, .ref d2, true, bk, p, r, rfl, hbk2.nl (St b23), nd, ipO b23, ipG b23, okp, okr, memL mp, fun H4 s4 => ?_⟩
      have b24 := b23.trans (But.of s4)
      refine ⟨_, rfl, _, rfl, _, rfl, D, .ref oa, .ref ga, true, bk.map (·.L), p, r, rfl, lb b24, neL, lL, nd, ho2.nl (St b24), hg2.nl (St b24), okp, okr, fun H5 s5 => ?_⟩
      refine ⟨rfl, _, rfl, ?_⟩
      rw [decide_eq_true rfl]
      refine iteF ?_
      have b25 := b24.trans (But.of s5)
      have hw5 := b25 _ _ wa hw
      refine ⟨_, rfl, _, rfl, w, _, 0, _, rfl, rfl, .inl (.inl hw5), rfl, _, rfl, w, _, 1, _, rfl, rfl, .inl (.inl hw5), rfl, v, .ref d1, .ref d2, "facing", true, bk, p, r, rfl, hbk2.nl (St b25), nd, ipO b25, ipG b25, okp, okr, memL mp, fun H6 s6 => ?_⟩
      have b26 := b25.trans (But.of s6)
      refine ⟨_, rfl, _, rfl, _, rfl, D, .ref oa, .ref ga, bk.map (·.L), p, r, rfl, lb b26, neL, lL, ho2.nl (St b26), hg2.nl (St b26), okp, okr, fun H7 s7 => ⟨rfl, ?_⟩⟩
      have t3 : placeT true p r (facesB (bk.map (·.L)) p r) "facing" = facesB (bk.map (·.L)) p r := by
        unfold placeT
        rw [if_neg ho_.2.1.symm, if_neg ho_.2.2.symm, if_pos rfl, Bool.true_and]
      rw [t3, decide_eq_true rfl]
      have bb : But a H H7 := ((But.of (s1.trans e15)).trans b26).trans (But.of s7)
      exact q H7 (srcS (((s4.trans s5).trans s6).trans s7) s3) bb
theorem ok_law (T : Tab K mg) : FnOk P w K mg base CX0 10 T.f_law T.d_law ["_law_script"] (sp_law K) := by
  refine T.F_law.ok sc_law (fun vs H Q E h => ?_) (fun cdv A outer s H vs Q E hr h => ?_)
  · obtain ⟨a, ns, rfl, _⟩ := h
    rfl
  · obtain ⟨a, ns, rfl, hS, hlen, q⟩ := h
    refine ⟨_, (pss_cons (ps_set (i := 1) sc_law.nd rfl (.inl rfl) (pe_call (ok_source T) (hr.mono (by decide)) (by rfl) T.g_source T.F_source.kp T.b_source .nil pass0 (pa_cons (pv 0) (pa_cons pe_int pa_nil))))
      (pss_cons (ps_set (i := 2) sc_law.nd rfl (.inl rfl) (pe_lst pa_nil))
      (pss_cons (ps_for PassesOwn.never rfl (pi_range1 (by rfl) T.m_range (pa_cons pe_int pa_nil)) (pg_name (i := 3) sc_law.nd rfl (.inl rfl))
      (pss_cons (ps_set (i := 4) sc_law.nd rfl (.inl rfl) (pe_call (ok_draw_leaves T) (hr.mono (by decide)) (by rfl) T.g_draw_leaves T.F_draw_leaves.kp T.b_draw_leaves .nil pass0 (pa_cons (pe_call (ok_source T) (hr.mono (by decide)) (by rfl) T.g_source T.F_source.kp T.b_source .nil pass0 (pa_cons (pv 0) (pa_cons (pv 3) pa_nil))) pa_nil)))
        (pss_one (ps_expr (pe_bm PySem.F.plainAttrs_list PySem.F.slot_list_append PySem.F.type_list_append mt_append (pv 2) (pa_cons (pe_lst (pa_cons (pe_make ⟨T.ms_Book, T.g_Book_init, T.fn_Book_init, T.kc_Book⟩ (ok_Book_init T) (hr.mono (by decide)) (by rfl) T.cg_Book T.b_Book_init .nil pass0 (pa_cons (pe_lc (own := [("_law_sheet", 10)]) (g := gName 10) (by rfl) sc_law.nd (pi_list (pv 4)) (blkOk_by (own := [("_law_sheet", 10)]) (N := N_law) (sc := defScope s_law) (by decide +kernel)) (fun _ _ _ _ _ => pg_name (i := 10) sc_law.nd rfl (.inl rfl)) (fun _ _ _ _ _ => pts_nil) (fun _ _ _ _ _ => (pe_make ⟨T.ms_Leaf, T.g_Leaf_init, T.fn_Leaf_init, T.kc_Leaf⟩ (ok_Leaf_init T) (hr.mono (by decide)) (by rfl) T.cg_Leaf T.b_Leaf_init .nil pass0 (pa_cons (pe_ix (ix_tupK (K := K) rfl) (pv 10) pe_int (fun _ _ => rfl)) (pa_cons (pe_ix (ix_tupK (K := K) rfl) (pv 10) pe_int (fun _ _ => rfl)) (pa_cons (pe_ix (ix_tupK (K := K) rfl) (pv 10) pe_int (fun _ _ => rfl)) (pa_cons (pe_ix (ix_tupK (K := K) rfl) (pv 10) pe_int (fun _ _ => rfl)) pa_nil))))))) pa_nil)) (pa_cons (pv 4) pa_nil))) pa_nil))))))
      (pss_cons (ps_for PassesOwn.never rfl (pi_range1 (by rfl) T.m_range (pa_cons pe_int pa_nil)) (pg_name (i := 5) sc_law.nd rfl (.inl rfl))
      (pss_one (ps_for PassesOwn.never rfl (pi_list (pv 2)) (pg_unl (by rfl) (pgs_cons (pg_name (i := 6) sc_law.nd rfl (.inl rfl)) (pgs_cons (pg_name (i := 4) sc_law.nd rfl (.inl rfl)) pgs_nil)))
        (pss_cons (ps_set (i := 7) sc_law.nd rfl (.inl rfl) (pe_call (ok_all_pages T) (hr.mono (by decide)) (by rfl) T.g_all_pages T.F_all_pages.kp T.b_all_pages .nil pass0 (pa_cons (pv 4) pa_nil)))
          (pss_one (ps_for PassesOwn.never rfl (pi_list (pe_stepL (pe_call (ok_some_spots T) (hr.mono (by decide)) (by rfl) T.g_some_spots T.F_some_spots.kp T.b_some_spots .nil pass0 (pa_cons (pv 1) (pa_cons (pv 7) pa_nil))) (po_some (pv 5)) (po_some pe_int))) (pg_name (i := 8) sc_law.nd rfl (.inl rfl))
          (pss_one (ps_for PassesOwn.never rfl (pi_list (pe_call (ok_goals T) (hr.mono (by decide)) (by rfl) T.g_goals T.F_goals.kp T.b_goals .nil pass0 (pa_cons (pv 7) (pa_cons (pv 8) pa_nil)))) (pg_name (i := 9) sc_law.nd rfl (.inl rfl))
            (pss_one (ps_if (pt_not (pt_val (pe_call (ok_pair_right T) (hr.mono (by decide)) (by rfl) T.g_pair_right T.F_pair_right.kp T.b_pair_right .nil pass0 (pa_cons (pv 1) (pa_cons (pv 6) (pa_cons (pv 4) (pa_cons (pe_ix ix_list (pv 7) (pv 8) (fun _ _ => rfl)) (pa_cons (pv 9) pa_nil))))))))
              (pss_one (ps_ret pe_bl))
              pss_nil))))))))))
      (pss_cons (ps_for PassesOwn.never rfl (pi_list (pv 2)) (pg_unl (by rfl) (pgs_cons (pg_name (i := 6) sc_law.nd rfl (.inl rfl)) (pgs_cons (pg_name (i := 4) sc_law.nd rfl (.inl rfl)) pgs_nil)))
      (pss_one (ps_if (pt_not (pt_val (pe_call (ok_is_book T) (hr.mono (by decide)) (by rfl) T.g_is_book T.F_is_book.kp T.b_is_book .nil pass0 (pa_cons (pv 6) (pa_cons (pv 4) pa_nil)))))
        (pss_one (ps_ret pe_bl))
        pss_nil)))
      (pss_one (ps_ret pe_bl))))))), ?_⟩
    refine ⟨_, rfl, a, ns, 2, rfl, hS, fun p0 H1 s1 n0 src => ?_⟩
    refine ⟨Nat.zero_le _, fun W nW => ?_⟩
    have Wp : W ≠ p0 := (src.ne nW).symm
    have sW := same_upd (o := .lst []) nW
    have src1 := srcS sW src
    have hW : upd H1 W (.lst []) W = some (.lst []) := upd_same
    refine ⟨2, rfl, by decide, by decide, for_range (lo := 0) (n := 2) (fun j σ' H' => ∃ (ws : List V) (y3 y4 : Option V), σ' = [some (.ref a), some (.ref p0), some (.ref W), y3, y4, none, none, none, none, none, none] ∧ Same H1 H' ∧ H' W = some (.lst ws) ∧ ws.length ≤ j ∧ ∀ v ∈ ws, WAt T.C_Leaf T.C_Book p0 W H' v) ⟨[], none, none, rfl, sW, hW, Nat.le_refl _, (fun _ h => nomatch h)⟩ ?_ ?_⟩
    · rintro j σ' H2 hj ⟨ws, y3, y4, rfl, s2, hW2, lw, hws⟩
      have hS2 : SqL K H2 a (ns.map V.int) := (s1.trans s2).seq hS
      refine ⟨_, rfl, _, rfl, a, ns, j, by rw [Int.zero_add]; rfl, hS2, fun pk H3 s3 n3 src3 => ?_⟩
      refine ⟨pk, rfl, src3, fun l bk H4 s4 b4 nl hl ok sok ne => ?_⟩
      obtain ⟨vs, hvs, tv⟩ := hl
      have h60 := ok.1
      have len := tv.len
      rw [List.length_map] at len
      have s24 : Same H2 H4 := But.same n3 s3 b4
      have hW4 := s24 _ _ hW2
      have nlH3 : H3 l = none := nl
      have lp : l ≠ p0 := fun z => by
        obtain ⟨g, x, c, e⟩ := srcS (s2.trans s3) src
        rw [z, e] at nlH3
        cases nlH3
      refine ⟨_, rfl, .inl ⟨rfl, _, .inl (.inl hW4)⟩, ?_⟩
      refine ⟨_, rfl, l, rfl, ⟨_, .inl (.inl hvs)⟩, fun D nD => ?_⟩
      refine lc_list (xs := vs) (fun i H' => Same H4 H' ∧ ∃ us, H' D = some (.lst us) ∧ LfAll T.C_Leaf H' us (bk.take i)) ⟨same_upd nD, [], upd_same, .nil⟩ (fun _ H' _ h => .inl (.inl (h.1 _ _ hvs))) ?_ ?_
      · rintro i y H5 hy ⟨sm, us, eD, hA⟩
        obtain ⟨lf, el, td⟩ := lv_get tv hy
        have okl := ok.2.1 lf (List.mem_of_getElem? el)
        obtain ⟨t, la, f, b, pn, rfl, ht, hla, hf, hb, hpn⟩ := dLf_inv4 (td.nl (NL.of sm))
        have il := (List.getElem?_eq_some_iff.mp el).1
        have ul : us.length ≤ 60 := by
          rw [hA.len, List.length_take]
          omega
        refine ⟨rfl, _, rfl, t, _, 0, _, rfl, rfl, .inl (.inl ht), rfl, _, rfl, t, _, 1, _, rfl, rfl, .inl (.inl ht), rfl, _, rfl, t, _, 2, _, rfl, rfl, .inl (.inl ht), rfl, _, rfl, t, _, 3, _, rfl, rfl, .inl (.inl ht), rfl, fun x dx nx ndx dxx => ?_⟩
        have z1 : Same H5 (upd (upd H5 dx (.own x)) x (.ins T.C_Leaf dx [])) := fun c o e => by
          have c1 : c ≠ x := fun z => by rw [z, nx] at e; cases e
          have c2 : c ≠ dx := fun z => by rw [z, ndx] at e; cases e
          rw [upd_ne c1, upd_ne c2]
          exact e
        refine ⟨x, dx, la, f, b, pn, lf, rfl, upd_same, z1 _ _ hla, z1 _ _ hf, z1 _ _ hb, .inl (.inl (z1 _ _ hpn)), okl, fun H6 hx bt => ⟨rfl, ?_⟩⟩
        have z2 : Same H5 H6 := fun c o e => bt c o (fun z => by rw [z, nx] at e; cases e) (z1 c o e)
        have eD2 := z2 _ _ eD
        have m := (NL.of z2).put eD2 (.lst (us ++ [.ref x]))
        have m2 := (NL.refl H6).put eD2 (.lst (us ++ [.ref x]))
        refine ⟨us, eD2, small1000 (by omega), same_put (sm.trans z2) nD _, us ++ [.ref x], upd_same, ?_⟩
        rw [List.take_add_one, el]
        exact (hA.nl m).snoc (LfAt.nl m2 hx)
      · rintro H5 ⟨sm, us, eD, hA⟩
        rw [len, List.take_length] at hA
        refine fun x dx nx ndx dxx => ?_
        have z1 : Same H5 (upd (upd H5 dx (.own x)) x (.ins T.C_Book dx [])) := fun c o e => by
          have c1 : c ≠ x := fun z => by rw [z, nx] at e; cases e
          have c2 : c ≠ dx := fun z => by rw [z, ndx] at e; cases e
          rw [upd_ne c1, upd_ne c2]
          exact e
        refine ⟨x, dx, D, us, bk, rfl, upd_same, z1 _ _ eD, hA.nl (NL.of z1), ok, fun H6 hx bt => ⟨rfl, ?_⟩⟩
        have s56 : Same H5 H6 := fun c o e => bt c o (fun z => by rw [z, nx] at e; cases e) (z1 c o e)
        have s46 := sm.trans s56
        have s16 := (s2.trans s24).trans s46
        refine ⟨_, rfl, (by show 2 ≤ sizeLine; decide), fun u nu => ?_⟩
        have su := same_upd (o := .lst [.ref x, .ref l]) nu
        have up : u ≠ p0 := ((srcS s16 src).ne nu).symm
        have hu : upd H6 u (.lst [.ref x, .ref l]) u = some (.lst [.ref x, .ref l]) := upd_same
        have hW7 := su _ _ (s46 _ _ hW4)
        have s27 := (s24.trans s46).trans su
        have uW : u ≠ W := fun z => by rw [z, s46 _ _ hW4] at nu; cases nu
        have lW : l ≠ W := fun z => by
          have : H3 W = some (.lst ws) := s3 _ _ hW2
          rw [z, this] at nlH3
          cases nlH3
        have hx7 := hx.nl (NL.of su)
        have hvs7 := su _ _ (s46 _ _ hvs)
        have tv7 := (tv.nl (NL.of s46)).nl (NL.of su)
        generalize upd H6 u (.lst [.ref x, .ref l]) = H7 at su hu hW7 s27 hx7 hvs7 tv7 ⊢
        have m := (NL.refl H7).put hW7 (.lst (ws ++ [.ref u]))
        refine ⟨W, ws, _, rfl, rfl, hW7, small1000 (by omega), ws ++ [.ref u], _, _, rfl, same_put (s2.trans s27) nW _, upd_same, by rw [List.length_append]; exact Nat.succ_le_succ lw, fun v hv => ?_⟩
        rcases List.mem_append.mp hv with h | h
        · exact (hws v h).put s27 hW7
        · rw [List.mem_singleton.mp h]
          refine ⟨u, l, .ref x, bk, rfl, ⟨up, uW⟩, ⟨lp, lW⟩, ?_, hx7.nl m, ⟨vs, ?_, tv7.nl m⟩, ok, sok, ne⟩
          · rw [upd_ne uW]; exact hu
          · rw [upd_ne lW]; exact hvs7
    · rintro σ' H2 ⟨ws, y3, y4, rfl, s2, hW2, lw, hws⟩
      have src2 := srcS s2 src
      refine ⟨2, rfl, by decide, by decide, for_range (lo := 0) (n := 2) (fun j σ' H' => ∃ (y3 y4 y5 y6 y7 y8 y9 : Option V), σ' = [some (.ref a), some (.ref p0), some (.ref W), y3, y4, y5, y6, y7, y8, y9, none] ∧ Src H' p0 ∧ But p0 H2 H') ⟨_, _, _, _, _, _, _, rfl, src2, But.refl p0 H2⟩ ?_ ?_⟩
      · rintro j σ' H3 hj ⟨y3, y4, y5, y6, y7, y8, y9, rfl, s3, b3⟩
        refine ⟨_, rfl, W, rfl, ⟨_, .inl (.inl (b3 _ _ Wp hW2))⟩, for_list (xs := ws) (fun i σ' H' => ∃ (y4 y6 y7 y8 y9 : Option V), σ' = [some (.ref a), some (.ref p0), some (.ref W), y3, y4, some (.int (0 + (j : Int))), y6, y7, y8, y9, none] ∧ Src H' p0 ∧ But p0 H2 H') ⟨_, _, _, _, _, rfl, s3, b3⟩ (fun i σ' H' _ hh => by obtain ⟨_, _, _, _, _, _, _, b⟩ := hh; exact .inl (.inl (b _ _ Wp hW2))) ?_ ?_⟩
        · rintro i x σ' H4 hx ⟨y4, y6, y7, y8, y9, rfl, s4, b4⟩
          obtain ⟨u, l, bv, bk, rfl, up, lp, hu, hbk, ⟨vs, hvs, tvs⟩, ok, sok, ne⟩ := (hws x (List.mem_of_getElem? hx)).but src2 b4
          have h60 := ok.1
          refine ⟨u, _, rfl, .inl (.inl hu), rfl, _, _, rfl, _, _, rfl, rfl, ?_⟩
          refine ⟨_, rfl, l, bk, rfl, ⟨vs, hvs, tvs⟩, h60, fun b us H5 s5 nb hb tus => ?_⟩
          have src5 := srcS s5 s4
          have bp : b ≠ p0 := (s4.ne nb).symm
          have ulen := tus.len
          rw [List.length_map, allP_len] at ulen
          have bk1 : 1 ≤ bk.length := List.length_pos_iff.mpr ne
          refine ⟨_, rfl, _, rfl, p0, b, us, rfl, src5, bp, hb, by omega, by omega, fun p ks H6 s6 b6 np hp hks lks => ?_⟩
          have pp : p ≠ p0 := (src5.ne np).symm
          have kl : (ks.map V.int).length ≤ 8 := by rw [List.length_map]; exact lks
          have sl := stepV_len (w := (0 : Int) + (j : Int)) kl (by omega)
          refine ⟨_, rfl, _, rfl, _, rfl, p, _, (by decide), rfl, .inl (.inl hp), Nat.le_trans sl (by show 100 ≤ sizeLine; decide), fun f nf => ?_⟩
          have ef := same_upd (o := .lst (stepV (ks.map V.int) (some ((0 : Int) + (j : Int))) (some 2))) nf
          have fp : f ≠ p0 := (s6.ne nf).symm
          have hf : upd H6 f (.lst (stepV (ks.map V.int) (some ((0 : Int) + (j : Int))) (some 2))) f = some (.lst (stepV (ks.map V.int) (some ((0 : Int) + (j : Int))) (some 2))) := upd_same
          have hmem : ∀ v ∈ stepV (ks.map V.int) (some ((0 : Int) + (j : Int))) (some 2), ∃ k : Int, v = .int k ∧ 0 ≤ k ∧ k < us.length := fun v hv => by
            obtain ⟨k, hk, rfl⟩ := List.mem_map.mp (stepV_mem hv)
            exact ⟨k, rfl, hks k hk⟩
          generalize stepV (ks.map V.int) (some ((0 : Int) + (j : Int))) (some 2) = qs at ef hf hmem ⊢
          have sf := srcS ef s6
          have b5f : But p0 H5 (upd H6 f (.lst qs)) := b6.trans (But.of ef)
          generalize upd H6 f (.lst qs) = Hf at ef hf sf b5f ⊢
          have b4f : But p0 H4 Hf := (But.of s5).trans b5f
          refine ⟨f, rfl, ⟨_, .inl (.inl hf)⟩, for_list (xs := qs) (fun i σ' H' => ∃ (y8 y9 : Option V), σ' = [some (.ref a), some (.ref p0), some (.ref W), y3, some (.ref l), some (.int (0 + (j : Int))), some bv, some (.ref b), y8, y9, none] ∧ Src H' p0 ∧ But p0 Hf H') ⟨_, _, rfl, sf, But.refl p0 Hf⟩ (fun i σ' H' _ hh => by obtain ⟨_, _, _, _, b⟩ := hh; exact .inl (.inl (b _ _ fp hf))) ?_ ?_⟩
          · rintro i2 x2 σ' H7 hx2 ⟨y8, y9, rfl, s7, b7⟩
            obtain ⟨k, rfl, k0, k1⟩ := hmem x2 (List.mem_of_getElem? hx2)
            have b57 := b5f.trans b7
            have n57 := src5.nl b57
            have hb7 := b57 _ _ bp hb
            refine ⟨_, rfl, _, rfl, b, us, k, rfl, hb7, by omega, k0, by omega, fun w gs H8 s8 nw hw hgs => ?_⟩
            have wp : w ≠ p0 := (s7.ne nw).symm
            have s8a := srcS s8 s7
            refine ⟨w, rfl, ⟨_, .inl (.inl hw)⟩, for_list (xs := gs) (fun i σ' H' => ∃ (y9 : Option V), σ' = [some (.ref a), some (.ref p0), some (.ref W), y3, some (.ref l), some (.int (0 + (j : Int))), some bv, some (.ref b), some (.int k), y9, none] ∧ Src H' p0 ∧ But p0 H8 H') ⟨_, rfl, s8a, But.refl p0 H8⟩ (fun i σ' H' _ hh => by obtain ⟨_, _, _, b⟩ := hh; exact .inl (.inl (b _ _ wp hw))) ?_ ?_⟩
            · rintro i3 g σ' H9 hg ⟨y9, rfl, s9, b9⟩
              have b59 := (b57.trans (But.of s8)).trans b9
              have n59 := src5.nl b59
              have b49 := (But.of s5).trans b59
              have n49 := s4.nl b49
              have tus9 := tus.nl n59
              obtain ⟨gi, egi⟩ := List.mem_iff_getElem?.mp (hgs g (List.mem_of_getElem? hg))
              obtain ⟨o, eo⟩ : ∃ o, us[k.toNat]? = some o := ⟨_, List.getElem?_eq_getElem (by omega)⟩
              have pgOf : ∀ {m : Nat} {v : V}, us[m]? = some v → ∃ pg, pg ∈ allP bk ∧ Tp H9 v (dP pg) := fun {m v} e => by
                obtain ⟨d, ed, td⟩ := tus9.get e
                rw [List.getElem?_map] at ed
                cases e2 : (allP bk)[m]? with
                | none => rw [e2] at ed; cases ed
                | some pg => rw [e2] at ed; cases ed; exact ⟨pg, List.mem_of_getElem? e2, td⟩
              obtain ⟨po, mo, to⟩ := pgOf eo
              obtain ⟨pg, mg', tg⟩ := pgOf egi
              refine ⟨_, rfl, _, rfl, _, rfl, _, rfl, _, rfl, b, us, k, o, rfl, rfl, .inl (.inl (b59 _ _ bp hb)), at_of' (Int.toNat_of_nonneg k0).symm eo, _, rfl, p0, l, bv, o, g, bk, po, pg, rfl, s9, hbk.nl n49, lp.1, ⟨vs, b49 _ _ lp.1 hvs, tvs.nl n49⟩, ok, to, tg, mo, mg', fun H10 s10 b10 => ⟨_, rfl, iteF ?_⟩⟩
              exact ⟨_, rfl, s10, b9.trans b10⟩
            · rintro σ' H9 ⟨y9, rfl, s9, b9⟩
              exact ⟨_, _, rfl, s9, (b7.trans (But.of s8)).trans b9⟩
          · rintro σ' H7 ⟨y8, y9, rfl, s7, b7⟩
            exact ⟨_, _, _, _, _, rfl, s7, (b4.trans b4f).trans b7⟩
        · rintro σ' H4 ⟨y4, y6, y7, y8, y9, rfl, s4, b4⟩
          exact ⟨_, _, _, _, _, _, _, rfl, s4, b4⟩
      · rintro σ' H3 ⟨y3, y4, y5, y6, y7, y8, y9, rfl, s3, b3⟩
        refine ⟨_, rfl, W, rfl, ⟨_, .inl (.inl (b3 _ _ Wp hW2))⟩, for_list (xs := ws) (fun i σ' H' => ∃ (y4 y6 : Option V), σ' = [some (.ref a), some (.ref p0), some (.ref W), y3, y4, y5, y6, y7, y8, y9, none] ∧ Same H3 H') ⟨_, _, rfl, Same.refl _⟩ (fun i σ' H' _ hh => by obtain ⟨_, _, _, s⟩ := hh; exact .inl (.inl (s _ _ (b3 _ _ Wp hW2)))) ?_ ?_⟩
        · rintro i x σ' H4 hx ⟨y4, y6, rfl, s4⟩
          obtain ⟨u, l, bv, bk, rfl, up, lp, hu, hbk, ⟨vs, hvs, tvs⟩, ok, sok, ne⟩ := (hws x (List.mem_of_getElem? hx)).but src2 (b3.trans (But.of s4))
          refine ⟨u, _, rfl, .inl (.inl hu), rfl, _, _, rfl, _, _, rfl, rfl, ?_⟩
          exact ⟨_, rfl, _, rfl, bv, l, bk, rfl, hbk, ⟨vs, hvs, tvs⟩, ok, sok, fun H5 s5 => ⟨_, rfl, iteF ⟨_, _, rfl, s4.trans s5⟩⟩⟩
        · rintro σ' H4 ⟨y4, y6, rfl, s4⟩
          exact q H4
end
theorem all_mk {l : PySem.W.OpenLaw} {w : World} {K : PySem.W.Frag} {h : Heap} {mg : Str → Option Value} {fa f0 f1 f2 f3 f4 f5 f6 f7 f8 f9 f10 f11 f12 f13 f14 f15 f16 f17 f18 f19 f20 f21 f22 f23 f24 f25 f26 f27 f28 f29 f30 f31 f32 f33 f34 f35 f36 f37 f38 f39 f40 f41 f42 f43 C_Leaf C_Book : Addr} (X : K.In h) (G : h.Ns mainGlobals mg) (hfa : mg "law" = some (.ref fa))
    {od0 an0 od1 an1 od2 an2 od3 an3 od4 an4 od5 an5 od6 an6 od7 an7 od8 an8 od9 an9 od10 an10 od11 an11 od12 an12 od13 an13 od14 an14 od15 an15 od16 an16 od17 an17 od18 an18 od19 an19 od20 an20 od21 an21 od22 an22 od23 an23 od24 an24 od25 an25 od26 an26 od27 an27 od28 an28 od29 an29 od30 an30 od31 an31 od32 an32 od33 an33 od34 an34 od35 an35 od36 an36 od37 an37 od38 an38 od39 an39 od40 an40 od41 an41 od42 an42 od43 an43 : Option Addr} {sl0 sl1 sl2 sl3 sl4 sl5 sl6 sl7 sl8 sl9 sl10 sl11 sl12 sl13 sl14 sl15 sl16 sl17 sl18 sl19 sl20 sl21 sl22 sl23 sl24 sl25 sl26 sl27 sl28 sl29 sl30 sl31 sl32 sl33 sl34 sl35 sl36 sl37 sl38 sl39 sl40 sl41 sl42 sl43 : Array (Option Value)} {oc0 kV0 dc0 pm0 cd0 ct0 oc1 kV1 dc1 pm1 cd1 ct1 oc2 kV2 dc2 pm2 cd2 ct2 oc3 kV3 dc3 pm3 cd3 ct3 oc4 kV4 dc4 pm4 cd4 ct4 oc5 kV5 dc5 pm5 cd5 ct5 oc6 kV6 dc6 pm6 cd6 ct6 oc7 kV7 dc7 pm7 cd7 ct7 oc8 kV8 dc8 pm8 cd8 ct8 oc9 kV9 dc9 pm9 cd9 ct9 oc10 kV10 dc10 pm10 cd10 ct10 oc11 kV11 dc11 pm11 cd11 ct11 oc12 kV12 dc12 pm12 cd12 ct12 oc13 kV13 dc13 pm13 cd13 ct13 oc14 kV14 dc14 pm14 cd14 ct14 oc15 kV15 dc15 pm15 cd15 ct15 oc16 kV16 dc16 pm16 cd16 ct16 oc17 kV17 dc17 pm17 cd17 ct17 oc18 kV18 dc18 pm18 cd18 ct18 oc19 kV19 dc19 pm19 cd19 ct19 oc20 kV20 dc20 pm20 cd20 ct20 oc21 kV21 dc21 pm21 cd21 ct21 oc22 kV22 dc22 pm22 cd22 ct22 oc23 kV23 dc23 pm23 cd23 ct23 oc24 kV24 dc24 pm24 cd24 ct24 oc25 kV25 dc25 pm25 cd25 ct25 oc26 kV26 dc26 pm26 cd26 ct26 oc27 kV27 dc27 pm27 cd27 ct27 oc28 kV28 dc28 pm28 cd28 ct28 oc29 kV29 dc29 pm29 cd29 ct29 oc30 kV30 dc30 pm30 cd30 ct30 oc31 kV31 dc31 pm31 cd31 ct31 oc32 kV32 dc32 pm32 cd32 ct32 oc33 kV33 dc33 pm33 cd33 ct33 oc34 kV34 dc34 pm34 cd34 ct34 oc35 kV35 dc35 pm35 cd35 ct35 oc36 kV36 dc36 pm36 cd36 ct36 oc37 kV37 dc37 pm37 cd37 ct37 oc38 kV38 dc38 pm38 cd38 ct38 oc39 kV39 dc39 pm39 cd39 ct39 oc40 kV40 dc40 pm40 cd40 ct40 oc41 kV41 dc41 pm41 cd41 ct41 oc42 kV42 dc42 pm42 cd42 ct42 oc43 kV43 dc43 pm43 cd43 ct43 : Value}
    (a0 : PySem.W.nsIn K mainGlobals "_wall" = some (some (.ref f0))) (l0 : K.lookup f0 = some ⟨oc0, od0, .func (PySem.W.fnOf "_wall" "_wall" (defArgs s_wall) (defBody s_wall) (defScope s_wall) .none kV0 dc0 pm0 an0 cd0 ct0), sl0⟩) (c0 : PySem.W.codeIn K cd0 "_wall" = true) (k0 : PySem.W.keepIn K (.ref f0) = true)
    (a1 : PySem.W.nsIn K mainGlobals "is_integer" = some (some (.ref f1))) (l1 : K.lookup f1 = some ⟨oc1, od1, .func (PySem.W.fnOf "is_integer" "is_integer" (defArgs s_is_integer) (defBody s_is_integer) (defScope s_is_integer) .none kV1 dc1 pm1 an1 cd1 ct1), sl1⟩) (c1 : PySem.W.codeIn K cd1 "is_integer" = true) (k1 : PySem.W.keepIn K (.ref f1) = true)
    (a2 : PySem.W.nsIn K mainGlobals "is_within" = some (some (.ref f2))) (l2 : K.lookup f2 = some ⟨oc2, od2, .func (PySem.W.fnOf "is_within" "is_within" (defArgs s_is_within) (defBody s_is_within) (defScope s_is_within) .none kV2 dc2 pm2 an2 cd2 ct2), sl2⟩) (c2 : PySem.W.codeIn K cd2 "is_within" = true) (k2 : PySem.W.keepIn K (.ref f2) = true)
    (a3 : PySem.W.nsIn K mainGlobals "is_tuple" = some (some (.ref f3))) (l3 : K.lookup f3 = some ⟨oc3, od3, .func (PySem.W.fnOf "is_tuple" "is_tuple" (defArgs s_is_tuple) (defBody s_is_tuple) (defScope s_is_tuple) .none kV3 dc3 pm3 an3 cd3 ct3), sl3⟩) (c3 : PySem.W.codeIn K cd3 "is_tuple" = true) (k3 : PySem.W.keepIn K (.ref f3) = true)
    (a4 : PySem.W.nsIn K mainGlobals "is_sized" = some (some (.ref f4))) (l4 : K.lookup f4 = some ⟨oc4, od4, .func (PySem.W.fnOf "is_sized" "is_sized" (defArgs s_is_sized) (defBody s_is_sized) (defScope s_is_sized) .none kV4 dc4 pm4 an4 cd4 ct4), sl4⟩) (c4 : PySem.W.codeIn K cd4 "is_sized" = true) (k4 : PySem.W.keepIn K (.ref f4) = true)
    (a5 : PySem.W.nsIn K mainGlobals "kept_label" = some (some (.ref f5))) (l5 : K.lookup f5 = some ⟨oc5, od5, .func (PySem.W.fnOf "kept_label" "kept_label" (defArgs s_kept_label) (defBody s_kept_label) (defScope s_kept_label) .none kV5 dc5 pm5 an5 cd5 ct5), sl5⟩) (c5 : PySem.W.codeIn K cd5 "kept_label" = true) (k5 : PySem.W.keepIn K (.ref f5) = true)
    (a6 : PySem.W.nsIn K mainGlobals "judged_label" = some (some (.ref f6))) (l6 : K.lookup f6 = some ⟨oc6, od6, .func (PySem.W.fnOf "judged_label" "judged_label" (defArgs s_judged_label) (defBody s_judged_label) (defScope s_judged_label) .none kV6 dc6 pm6 an6 cd6 ct6), sl6⟩) (c6 : PySem.W.codeIn K cd6 "judged_label" = true) (k6 : PySem.W.keepIn K (.ref f6) = true)
    (a7 : PySem.W.nsIn K mainGlobals "kept_page" = some (some (.ref f7))) (l7 : K.lookup f7 = some ⟨oc7, od7, .func (PySem.W.fnOf "kept_page" "kept_page" (defArgs s_kept_page) (defBody s_kept_page) (defScope s_kept_page) .none kV7 dc7 pm7 an7 cd7 ct7), sl7⟩) (c7 : PySem.W.codeIn K cd7 "kept_page" = true) (k7 : PySem.W.keepIn K (.ref f7) = true)
    (a8 : PySem.W.nsIn K mainGlobals "write_label" = some (some (.ref f8))) (l8 : K.lookup f8 = some ⟨oc8, od8, .func (PySem.W.fnOf "write_label" "write_label" (defArgs s_write_label) (defBody s_write_label) (defScope s_write_label) .none kV8 dc8 pm8 an8 cd8 ct8), sl8⟩) (c8 : PySem.W.codeIn K cd8 "write_label" = true) (k8 : PySem.W.keepIn K (.ref f8) = true)
    (a9 : PySem.W.nsIn K mainGlobals "write_page" = some (some (.ref f9))) (l9 : K.lookup f9 = some ⟨oc9, od9, .func (PySem.W.fnOf "write_page" "write_page" (defArgs s_write_page) (defBody s_write_page) (defScope s_write_page) .none kV9 dc9 pm9 an9 cd9 ct9), sl9⟩) (c9 : PySem.W.codeIn K cd9 "write_page" = true) (k9 : PySem.W.keepIn K (.ref f9) = true)
    (a10 : PySem.W.nsIn K mainGlobals "place_word_true" = some (some (.ref f10))) (l10 : K.lookup f10 = some ⟨oc10, od10, .func (PySem.W.fnOf "place_word_true" "place_word_true" (defArgs s_place_word_true) (defBody s_place_word_true) (defScope s_place_word_true) .none kV10 dc10 pm10 an10 cd10 ct10), sl10⟩) (c10 : PySem.W.codeIn K cd10 "place_word_true" = true) (k10 : PySem.W.keepIn K (.ref f10) = true)
    (a11 : PySem.W.nsIn K mainGlobals "preferred_place" = some (some (.ref f11))) (l11 : K.lookup f11 = some ⟨oc11, od11, .func (PySem.W.fnOf "preferred_place" "preferred_place" (defArgs s_preferred_place) (defBody s_preferred_place) (defScope s_preferred_place) .none kV11 dc11 pm11 an11 cd11 ct11), sl11⟩) (c11 : PySem.W.codeIn K cd11 "preferred_place" = true) (k11 : PySem.W.keepIn K (.ref f11) = true)
    (a12 : PySem.W.nsIn K mainGlobals "true_words" = some (some (.ref f12))) (l12 : K.lookup f12 = some ⟨oc12, od12, .func (PySem.W.fnOf "true_words" "true_words" (defArgs s_true_words) (defBody s_true_words) (defScope s_true_words) .none kV12 dc12 pm12 an12 cd12 ct12), sl12⟩) (c12 : PySem.W.codeIn K cd12 "true_words" = true) (k12 : PySem.W.keepIn K (.ref f12) = true)
    {eP0 : Addr} {ed0 : Option Addr} {en0 : Nat} {es0 : Array (Option Value)}    {tT13 : Addr} {tc13 : Value} {td13 : Option Addr} {tn13 : Nat} {ts13 : Array (Option Value)}    (a13 : PySem.W.findIn K (.ref C_Leaf) "__init__" = some (some (.ref f13))) (l13 : K.lookup f13 = some ⟨oc13, od13, .func (PySem.W.fnOf "__init__" "Leaf.__init__" (defArgs s_Leaf_init) (defBody s_Leaf_init) (defScope s_Leaf_init) (.ref tT13) kV13 dc13 pm13 an13 cd13 ct13), sl13⟩) (c13 : PySem.W.codeIn K cd13 "Leaf.__init__" = true) (k13 : PySem.W.keepIn K (.ref f13) = true) (lt13 : K.lookup tT13 = some ⟨tc13, td13, .seq ([Value.ref eP0] : List Value).toArray tn13, ts13⟩) (le0 : K.lookup eP0 = some ⟨.type "tuple", ed0, .seq #[] en0, es0⟩)
    (a14 : PySem.W.nsIn K mainGlobals "is_token" = some (some (.ref f14))) (l14 : K.lookup f14 = some ⟨oc14, od14, .func (PySem.W.fnOf "is_token" "is_token" (defArgs s_is_token) (defBody s_is_token) (defScope s_is_token) .none kV14 dc14 pm14 an14 cd14 ct14), sl14⟩) (c14 : PySem.W.codeIn K cd14 "is_token" = true) (k14 : PySem.W.keepIn K (.ref f14) = true)
    (a15 : PySem.W.nsIn K mainGlobals "_is_row" = some (some (.ref f15))) (l15 : K.lookup f15 = some ⟨oc15, od15, .func (PySem.W.fnOf "_is_row" "_is_row" (defArgs s_is_row) (defBody s_is_row) (defScope s_is_row) .none kV15 dc15 pm15 an15 cd15 ct15), sl15⟩) (c15 : PySem.W.codeIn K cd15 "_is_row" = true) (k15 : PySem.W.keepIn K (.ref f15) = true)
    (a16 : PySem.W.nsIn K mainGlobals "_judged_rows" = some (some (.ref f16))) (l16 : K.lookup f16 = some ⟨oc16, od16, .func (PySem.W.fnOf "_judged_rows" "_judged_rows" (defArgs s_judged_rows) (defBody s_judged_rows) (defScope s_judged_rows) .none kV16 dc16 pm16 an16 cd16 ct16), sl16⟩) (c16 : PySem.W.codeIn K cd16 "_judged_rows" = true) (k16 : PySem.W.keepIn K (.ref f16) = true)
    (a17 : PySem.W.nsIn K mainGlobals "_judged_pen" = some (some (.ref f17))) (l17 : K.lookup f17 = some ⟨oc17, od17, .func (PySem.W.fnOf "_judged_pen" "_judged_pen" (defArgs s_judged_pen) (defBody s_judged_pen) (defScope s_judged_pen) .none kV17 dc17 pm17 an17 cd17 ct17), sl17⟩) (c17 : PySem.W.codeIn K cd17 "_judged_pen" = true) (k17 : PySem.W.keepIn K (.ref f17) = true)
    (a18 : PySem.W.nsIn K mainGlobals "_kept_strokes" = some (some (.ref f18))) (l18 : K.lookup f18 = some ⟨oc18, od18, .func (PySem.W.fnOf "_kept_strokes" "_kept_strokes" (defArgs s_kept_strokes) (defBody s_kept_strokes) (defScope s_kept_strokes) .none kV18 dc18 pm18 an18 cd18 ct18), sl18⟩) (c18 : PySem.W.codeIn K cd18 "_kept_strokes" = true) (k18 : PySem.W.keepIn K (.ref f18) = true)
    (a19 : PySem.W.nsIn K mainGlobals "_is_stroke" = some (some (.ref f19))) (l19 : K.lookup f19 = some ⟨oc19, od19, .func (PySem.W.fnOf "_is_stroke" "_is_stroke" (defArgs s_is_stroke) (defBody s_is_stroke) (defScope s_is_stroke) .none kV19 dc19 pm19 an19 cd19 ct19), sl19⟩) (c19 : PySem.W.codeIn K cd19 "_is_stroke" = true) (k19 : PySem.W.keepIn K (.ref f19) = true)
    (a20 : PySem.W.nsIn K mainGlobals "_is_place" = some (some (.ref f20))) (l20 : K.lookup f20 = some ⟨oc20, od20, .func (PySem.W.fnOf "_is_place" "_is_place" (defArgs s_is_place) (defBody s_is_place) (defScope s_is_place) .none kV20 dc20 pm20 an20 cd20 ct20), sl20⟩) (c20 : PySem.W.codeIn K cd20 "_is_place" = true) (k20 : PySem.W.keepIn K (.ref f20) = true)
    (a21 : PySem.W.findIn K (.ref C_Book) "__init__" = some (some (.ref f21))) (l21 : K.lookup f21 = some ⟨oc21, od21, .func (PySem.W.fnOf "__init__" "Book.__init__" (defArgs s_Book_init) (defBody s_Book_init) (defScope s_Book_init) .none kV21 dc21 pm21 an21 cd21 ct21), sl21⟩) (c21 : PySem.W.codeIn K cd21 "Book.__init__" = true) (k21 : PySem.W.keepIn K (.ref f21) = true)
    (a22 : PySem.W.findIn K (.ref C_Book) "facing" = some (some (.ref f22))) (l22 : K.lookup f22 = some ⟨oc22, od22, .func (PySem.W.fnOf "facing" "Book.facing" (defArgs s_Book_facing) (defBody s_Book_facing) (defScope s_Book_facing) .none kV22 dc22 pm22 an22 cd22 ct22), sl22⟩) (c22 : PySem.W.codeIn K cd22 "Book.facing" = true) (k22 : PySem.W.keepIn K (.ref f22) = true)
    (a23 : PySem.W.findIn K (.ref C_Book) "_judged_page" = some (some (.ref f23))) (l23 : K.lookup f23 = some ⟨oc23, od23, .func (PySem.W.fnOf "_judged_page" "Book._judged_page" (defArgs s_Book_judged_page) (defBody s_Book_judged_page) (defScope s_Book_judged_page) .none kV23 dc23 pm23 an23 cd23 ct23), sl23⟩) (c23 : PySem.W.codeIn K cd23 "Book._judged_page" = true) (k23 : PySem.W.keepIn K (.ref f23) = true)
    (a24 : PySem.W.nsIn K mainGlobals "_judged_leaves" = some (some (.ref f24))) (l24 : K.lookup f24 = some ⟨oc24, od24, .func (PySem.W.fnOf "_judged_leaves" "_judged_leaves" (defArgs s_judged_leaves) (defBody s_judged_leaves) (defScope s_judged_leaves) .none kV24 dc24 pm24 an24 cd24 ct24), sl24⟩) (c24 : PySem.W.codeIn K cd24 "_judged_leaves" = true) (k24 : PySem.W.keepIn K (.ref f24) = true)
    (a25 : PySem.W.nsIn K mainGlobals "_law_source" = some (some (.ref f25))) (l25 : K.lookup f25 = some ⟨oc25, od25, .func (PySem.W.fnOf "_law_source" "_law_source" (defArgs s_source) (defBody s_source) (defScope s_source) .none kV25 dc25 pm25 an25 cd25 ct25), sl25⟩) (c25 : PySem.W.codeIn K cd25 "_law_source" = true) (k25 : PySem.W.keepIn K (.ref f25) = true)
    (a26 : PySem.W.nsIn K mainGlobals "_law_pick" = some (some (.ref f26))) (l26 : K.lookup f26 = some ⟨oc26, od26, .func (PySem.W.fnOf "_law_pick" "_law_pick" (defArgs s_pick) (defBody s_pick) (defScope s_pick) .none kV26 dc26 pm26 an26 cd26 ct26), sl26⟩) (c26 : PySem.W.codeIn K cd26 "_law_pick" = true) (k26 : PySem.W.keepIn K (.ref f26) = true)
    (a27 : PySem.W.nsIn K mainGlobals "_law_is_integer" = some (some (.ref f27))) (l27 : K.lookup f27 = some ⟨oc27, od27, .func (PySem.W.fnOf "_law_is_integer" "_law_is_integer" (defArgs s_law_is_integer) (defBody s_law_is_integer) (defScope s_law_is_integer) .none kV27 dc27 pm27 an27 cd27 ct27), sl27⟩) (c27 : PySem.W.codeIn K cd27 "_law_is_integer" = true) (k27 : PySem.W.keepIn K (.ref f27) = true)
    (a28 : PySem.W.nsIn K mainGlobals "_law_label_word" = some (some (.ref f28))) (l28 : K.lookup f28 = some ⟨oc28, od28, .func (PySem.W.fnOf "_law_label_word" "_law_label_word" (defArgs s_label_word) (defBody s_label_word) (defScope s_label_word) .none kV28 dc28 pm28 an28 cd28 ct28), sl28⟩) (c28 : PySem.W.codeIn K cd28 "_law_label_word" = true) (k28 : PySem.W.keepIn K (.ref f28) = true)
    (a29 : PySem.W.nsIn K mainGlobals "_law_page_word" = some (some (.ref f29))) (l29 : K.lookup f29 = some ⟨oc29, od29, .func (PySem.W.fnOf "_law_page_word" "_law_page_word" (defArgs s_page_word) (defBody s_page_word) (defScope s_page_word) .none kV29 dc29 pm29 an29 cd29 ct29), sl29⟩) (c29 : PySem.W.codeIn K cd29 "_law_page_word" = true) (k29 : PySem.W.keepIn K (.ref f29) = true)
    (a30 : PySem.W.nsIn K mainGlobals "_law_faces" = some (some (.ref f30))) (l30 : K.lookup f30 = some ⟨oc30, od30, .func (PySem.W.fnOf "_law_faces" "_law_faces" (defArgs s_faces) (defBody s_faces) (defScope s_faces) .none kV30 dc30 pm30 an30 cd30 ct30), sl30⟩) (c30 : PySem.W.codeIn K cd30 "_law_faces" = true) (k30 : PySem.W.keepIn K (.ref f30) = true)
    (a31 : PySem.W.nsIn K mainGlobals "_law_place_true" = some (some (.ref f31))) (l31 : K.lookup f31 = some ⟨oc31, od31, .func (PySem.W.fnOf "_law_place_true" "_law_place_true" (defArgs s_place_true) (defBody s_place_true) (defScope s_place_true) .none kV31 dc31 pm31 an31 cd31 ct31), sl31⟩) (c31 : PySem.W.codeIn K cd31 "_law_place_true" = true) (k31 : PySem.W.keepIn K (.ref f31) = true)
    (a32 : PySem.W.nsIn K mainGlobals "_law_place_word" = some (some (.ref f32))) (l32 : K.lookup f32 = some ⟨oc32, od32, .func (PySem.W.fnOf "_law_place_word" "_law_place_word" (defArgs s_place_word) (defBody s_place_word) (defScope s_place_word) .none kV32 dc32 pm32 an32 cd32 ct32), sl32⟩) (c32 : PySem.W.codeIn K cd32 "_law_place_word" = true) (k32 : PySem.W.keepIn K (.ref f32) = true)
    (a33 : PySem.W.nsIn K mainGlobals "_law_book_labels" = some (some (.ref f33))) (l33 : K.lookup f33 = some ⟨oc33, od33, .func (PySem.W.fnOf "_law_book_labels" "_law_book_labels" (defArgs s_book_labels) (defBody s_book_labels) (defScope s_book_labels) .none kV33 dc33 pm33 an33 cd33 ct33), sl33⟩) (c33 : PySem.W.codeIn K cd33 "_law_book_labels" = true) (k33 : PySem.W.keepIn K (.ref f33) = true)
    (a34 : PySem.W.nsIn K mainGlobals "_law_all_pages" = some (some (.ref f34))) (l34 : K.lookup f34 = some ⟨oc34, od34, .func (PySem.W.fnOf "_law_all_pages" "_law_all_pages" (defArgs s_all_pages) (defBody s_all_pages) (defScope s_all_pages) .none kV34 dc34 pm34 an34 cd34 ct34), sl34⟩) (c34 : PySem.W.codeIn K cd34 "_law_all_pages" = true) (k34 : PySem.W.keepIn K (.ref f34) = true)
    (a35 : PySem.W.nsIn K mainGlobals "_law_is_book" = some (some (.ref f35))) (l35 : K.lookup f35 = some ⟨oc35, od35, .func (PySem.W.fnOf "_law_is_book" "_law_is_book" (defArgs s_is_book) (defBody s_is_book) (defScope s_is_book) .none kV35 dc35 pm35 an35 cd35 ct35), sl35⟩) (c35 : PySem.W.codeIn K cd35 "_law_is_book" = true) (k35 : PySem.W.keepIn K (.ref f35) = true)
    (a36 : PySem.W.nsIn K mainGlobals "_law_deep_tuple" = some (some (.ref f36))) (l36 : K.lookup f36 = some ⟨oc36, od36, .func (PySem.W.fnOf "_law_deep_tuple" "_law_deep_tuple" (defArgs s_deep_tuple) (defBody s_deep_tuple) (defScope s_deep_tuple) .none kV36 dc36 pm36 an36 cd36 ct36), sl36⟩) (c36 : PySem.W.codeIn K cd36 "_law_deep_tuple" = true) (k36 : PySem.W.keepIn K (.ref f36) = true)
    (a37 : PySem.W.nsIn K mainGlobals "_law_leaves_in" = some (some (.ref f37))) (l37 : K.lookup f37 = some ⟨oc37, od37, .func (PySem.W.fnOf "_law_leaves_in" "_law_leaves_in" (defArgs s_leaves_in) (defBody s_leaves_in) (defScope s_leaves_in) .none kV37 dc37 pm37 an37 cd37 ct37), sl37⟩) (c37 : PySem.W.codeIn K cd37 "_law_leaves_in" = true) (k37 : PySem.W.keepIn K (.ref f37) = true)
    (a38 : PySem.W.nsIn K mainGlobals "_law_draw_leaves" = some (some (.ref f38))) (l38 : K.lookup f38 = some ⟨oc38, od38, .func (PySem.W.fnOf "_law_draw_leaves" "_law_draw_leaves" (defArgs s_draw_leaves) (defBody s_draw_leaves) (defScope s_draw_leaves) .none kV38 dc38 pm38 an38 cd38 ct38), sl38⟩) (c38 : PySem.W.codeIn K cd38 "_law_draw_leaves" = true) (k38 : PySem.W.keepIn K (.ref f38) = true)
    (a39 : PySem.W.nsIn K mainGlobals "_law_some_spots" = some (some (.ref f39))) (l39 : K.lookup f39 = some ⟨oc39, od39, .func (PySem.W.fnOf "_law_some_spots" "_law_some_spots" (defArgs s_some_spots) (defBody s_some_spots) (defScope s_some_spots) .none kV39 dc39 pm39 an39 cd39 ct39), sl39⟩) (c39 : PySem.W.codeIn K cd39 "_law_some_spots" = true) (k39 : PySem.W.keepIn K (.ref f39) = true)
    (a40 : PySem.W.nsIn K mainGlobals "_law_goals" = some (some (.ref f40))) (l40 : K.lookup f40 = some ⟨oc40, od40, .func (PySem.W.fnOf "_law_goals" "_law_goals" (defArgs s_goals) (defBody s_goals) (defScope s_goals) .none kV40 dc40 pm40 an40 cd40 ct40), sl40⟩) (c40 : PySem.W.codeIn K cd40 "_law_goals" = true) (k40 : PySem.W.keepIn K (.ref f40) = true)
    (a41 : PySem.W.nsIn K mainGlobals "_law_words" = some (some (.ref f41))) (l41 : K.lookup f41 = some ⟨oc41, od41, .func (PySem.W.fnOf "_law_words" "_law_words" (defArgs s_words) (defBody s_words) (defScope s_words) .none kV41 dc41 pm41 an41 cd41 ct41), sl41⟩) (c41 : PySem.W.codeIn K cd41 "_law_words" = true) (k41 : PySem.W.keepIn K (.ref f41) = true)
    (a42 : PySem.W.nsIn K mainGlobals "_law_pair_right" = some (some (.ref f42))) (l42 : K.lookup f42 = some ⟨oc42, od42, .func (PySem.W.fnOf "_law_pair_right" "_law_pair_right" (defArgs s_pair_right) (defBody s_pair_right) (defScope s_pair_right) .none kV42 dc42 pm42 an42 cd42 ct42), sl42⟩) (c42 : PySem.W.codeIn K cd42 "_law_pair_right" = true) (k42 : PySem.W.keepIn K (.ref f42) = true)
    (a43 : PySem.W.nsIn K mainGlobals "law" = some (some (.ref f43))) (l43 : K.lookup f43 = some ⟨oc43, od43, .func (PySem.W.fnOf "law" "law" (defArgs s_law) (defBody s_law) (defScope s_law) .none kV43 dc43 pm43 an43 cd43 ct43), sl43⟩) (c43 : PySem.W.codeIn K cd43 "law" = true) (k43 : PySem.W.keepIn K (.ref f43) = true)
    {t_FACING : Tok} (v_FACING : PySem.W.nsIn K mainGlobals "FACING" = some (some (.str "facing" t_FACING)))
    {t_HERE : Tok} (v_HERE : PySem.W.nsIn K mainGlobals "HERE" = some (some (.str "here" t_HERE)))
    {t_LONGEST_ROW : Tok} (v_LONGEST_ROW : PySem.W.nsIn K mainGlobals "LONGEST_ROW" = some (some (.int 120 t_LONGEST_ROW)))
    {t_MOST_LEAVES : Tok} (v_MOST_LEAVES : PySem.W.nsIn K mainGlobals "MOST_LEAVES" = some (some (.int 60 t_MOST_LEAVES)))
    {t_MOST_PARTS : Tok} (v_MOST_PARTS : PySem.W.nsIn K mainGlobals "MOST_PARTS" = some (some (.int 3 t_MOST_PARTS)))
    {t_MOST_ROWS : Tok} (v_MOST_ROWS : PySem.W.nsIn K mainGlobals "MOST_ROWS" = some (some (.int 12 t_MOST_ROWS)))
    {t_MOST_SIGNS : Tok} (v_MOST_SIGNS : PySem.W.nsIn K mainGlobals "MOST_SIGNS" = some (some (.int 20 t_MOST_SIGNS)))
    {t_MOST_TOKENS : Tok} (v_MOST_TOKENS : PySem.W.nsIn K mainGlobals "MOST_TOKENS" = some (some (.int 30 t_MOST_TOKENS)))
    {t_OVERLEAF : Tok} (v_OVERLEAF : PySem.W.nsIn K mainGlobals "OVERLEAF" = some (some (.str "overleaf" t_OVERLEAF)))
    {t_SIDES : Tok} (v_SIDES : PySem.W.nsIn K mainGlobals "SIDES" = some (some (.str "ab" t_SIDES)))
    (z_abs : PySem.W.nsIn K mainGlobals "abs" = some none)
    (z_all : PySem.W.nsIn K mainGlobals "all" = some none)
    (z_bool : PySem.W.nsIn K mainGlobals "bool" = some none)
    (z_enumerate : PySem.W.nsIn K mainGlobals "enumerate" = some none)
    (z_int : PySem.W.nsIn K mainGlobals "int" = some none)
    (z_isinstance : PySem.W.nsIn K mainGlobals "isinstance" = some none)
    (z_len : PySem.W.nsIn K mainGlobals "len" = some none)
    (z_list : PySem.W.nsIn K mainGlobals "list" = some none)
    (z_range : PySem.W.nsIn K mainGlobals "range" = some none)
    (z_str : PySem.W.nsIn K mainGlobals "str" = some none)
    (z_sum : PySem.W.nsIn K mainGlobals "sum" = some none)
    (z_tuple : PySem.W.nsIn K mainGlobals "tuple" = some none)
    (z_zip : PySem.W.nsIn K mainGlobals "zip" = some none)
    (h_cg_Book : PySem.W.nsIn K mainGlobals "Book" = some (some (.ref C_Book)))
    (h_cg_Leaf : PySem.W.nsIn K mainGlobals "Leaf" = some (some (.ref C_Leaf)))
    (h_ms_Leaf : PySem.W.makesIn K C_Leaf = true)
    (h_kc_Leaf : PySem.W.keepIn K (.ref C_Leaf) = true)
    (h_ca_Leaf : PySem.W.findIn K (.ref C_Leaf) "__class__" = some (some (.builtin "object.__class__")))
    (h_cn_Leaf : PySem.W.specialIn K (.builtin "object.__class__") "__get__" = some (some (.builtin "getset_descriptor.__get__")))
    (h_ct_Leaf : PySem.W.takesIn K (.builtin "object.__class__") = some true)
    (h_cm_Leaf : PySem.W.mroIn K C_Leaf (.type "object") = some true)
    (h_ic_Leaf : PySem.W.isClsIn K C_Leaf = true)
    (h_tc_Leaf : PySem.W.typeIn K (.ref C_Leaf) = some (.type "type"))
    (h_na_Leaf_label : PySem.W.findIn K (.ref C_Leaf) "label" = some none)
    (h_na_Leaf_front : PySem.W.findIn K (.ref C_Leaf) "front" = some none)
    (h_na_Leaf_back : PySem.W.findIn K (.ref C_Leaf) "back" = some none)
    (h_na_Leaf_pen : PySem.W.findIn K (.ref C_Leaf) "pen" = some none)
    (h_na_Leaf__strokes : PySem.W.findIn K (.ref C_Leaf) "_strokes" = some none)
    (h_ms_Book : PySem.W.makesIn K C_Book = true)
    (h_kc_Book : PySem.W.keepIn K (.ref C_Book) = true)
    (h_ca_Book : PySem.W.findIn K (.ref C_Book) "__class__" = some (some (.builtin "object.__class__")))
    (h_cn_Book : PySem.W.specialIn K (.builtin "object.__class__") "__get__" = some (some (.builtin "getset_descriptor.__get__")))
    (h_ct_Book : PySem.W.takesIn K (.builtin "object.__class__") = some true)
    (h_cm_Book : PySem.W.mroIn K C_Book (.type "object") = some true)
    (h_ic_Book : PySem.W.isClsIn K C_Book = true)
    (h_tc_Book : PySem.W.typeIn K (.ref C_Book) = some (.type "type"))
    (h_na_Book_leaves : PySem.W.findIn K (.ref C_Book) "leaves" = some none)
    (h_na_Book__spots : PySem.W.findIn K (.ref C_Book) "_spots" = some none)
    (h_fn_Leaf_init : PySem.W.isFn K (.ref f13) = true)
    (h_fn_Book_init : PySem.W.isFn K (.ref f21) = true)
    (h_fn_Book_facing : PySem.W.isFn K (.ref f22) = true)
    (h_fn_Book_judged_page : PySem.W.isFn K (.ref f23) = true)
    (pg_Leaf : PySem.W.plainGet K C_Leaf Str.empty = true)
    (hd_Leaf : PySem.W.hasDictIn K C_Leaf = true)
    (po_Leaf : PySem.W.plainOver K C_Leaf = true)
    (sa_Leaf : PySem.W.findIn K (.ref C_Leaf) "__setattr__" = some (some (.builtin "object.__setattr__")))
    (pg_Book : PySem.W.plainGet K C_Book Str.empty = true)
    (hd_Book : PySem.W.hasDictIn K C_Book = true)
    (po_Book : PySem.W.plainOver K C_Book = true)
    (sa_Book : PySem.W.findIn K (.ref C_Book) "__setattr__" = some (some (.builtin "object.__setattr__")))
    : ∃ fd : FuncData, (∀ (s : Shared) (v : Value), BindsTo s fd ⟨[v], []⟩ [("_law_script", v)]) ∧ ∀ base : Heap, K.In base → base.Ns mainGlobals mg → FnOk l.prog w K mg base CX0 10 fa fd ["_law_script"] (sp_law K) := by
  have e := hfa.symm.trans (PySem.W.mg_of X G a43)
  cases e
  have F0 := fun_mk (st := s_wall) l0 c0 k0
  have b0 := F0.binds (ps := ["k"]) fun _ _ _ _ _ _ us hl => match us, hl with | [_], _ => rfl
  have F1 := fun_mk (st := s_is_integer) l1 c1 k1
  have b1 := F1.binds (ps := ["thing"]) fun _ _ _ _ _ _ us hl => match us, hl with | [_], _ => rfl
  have F2 := fun_mk (st := s_is_within) l2 c2 k2
  have b2 := F2.binds (ps := ["thing", "least", "most"]) fun _ _ _ _ _ _ us hl => match us, hl with | [_, _, _], _ => rfl
  have F3 := fun_mk (st := s_is_tuple) l3 c3 k3
  have b3 := F3.binds (ps := ["thing"]) fun _ _ _ _ _ _ us hl => match us, hl with | [_], _ => rfl
  have F4 := fun_mk (st := s_is_sized) l4 c4 k4
  have b4 := F4.binds (ps := ["thing", "least", "most"]) fun _ _ _ _ _ _ us hl => match us, hl with | [_, _, _], _ => rfl
  have F5 := fun_mk (st := s_kept_label) l5 c5 k5
  have b5 := F5.binds (ps := ["thing"]) fun _ _ _ _ _ _ us hl => match us, hl with | [_], _ => rfl
  have F6 := fun_mk (st := s_judged_label) l6 c6 k6
  have b6 := F6.binds (ps := ["thing"]) fun _ _ _ _ _ _ us hl => match us, hl with | [_], _ => rfl
  have F7 := fun_mk (st := s_kept_page) l7 c7 k7
  have b7 := F7.binds (ps := ["thing"]) fun _ _ _ _ _ _ us hl => match us, hl with | [_], _ => rfl
  have F8 := fun_mk (st := s_write_label) l8 c8 k8
  have b8 := F8.binds (ps := ["label"]) fun _ _ _ _ _ _ us hl => match us, hl with | [_], _ => rfl
  have F9 := fun_mk (st := s_write_page) l9 c9 k9
  have b9 := F9.binds (ps := ["page"]) fun _ _ _ _ _ _ us hl => match us, hl with | [_], _ => rfl
  have F10 := fun_mk (st := s_place_word_true) l10 c10 k10
  have b10 := F10.binds (ps := ["book", "own", "goal", "word", "near"]) fun _ _ _ _ _ _ us hl => match us, hl with | [_, _, _, _, _], _ => rfl
  have F11 := fun_mk (st := s_preferred_place) l11 c11 k11
  have b11 := F11.binds (ps := ["book", "own", "goal", "near"]) fun _ _ _ _ _ _ us hl => match us, hl with | [_, _, _, _], _ => rfl
  have F12 := fun_mk (st := s_true_words) l12 c12 k12
  have b12 := F12.binds (ps := ["book", "own", "goal", "near"]) fun _ _ _ _ _ _ us hl => match us, hl with | [_, _, _, _], _ => rfl
  have F13 : FunD K "__init__" "Leaf.__init__" (defArgs s_Leaf_init) (defBody s_Leaf_init) (defScope s_Leaf_init) [V.ref eP0] [] f13 _ := ⟨⟨_, _, .ref tT13, _, _, _, _, _, _, _, rfl, l13, c13, .inr ⟨by simp, tT13, _, [Value.ref eP0], _, rfl, lt13, rfl, .cons rfl .nil⟩, .inl rfl⟩, k13⟩
  have b13 := leaf_b5 F13
  have F14 := fun_mk (st := s_is_token) l14 c14 k14
  have b14 := F14.binds (ps := ["thing"]) fun _ _ _ _ _ _ us hl => match us, hl with | [_], _ => rfl
  have F15 := fun_mk (st := s_is_row) l15 c15 k15
  have b15 := F15.binds (ps := ["thing"]) fun _ _ _ _ _ _ us hl => match us, hl with | [_], _ => rfl
  have F16 := fun_mk (st := s_judged_rows) l16 c16 k16
  have b16 := F16.binds (ps := ["rows", "least", "side"]) fun _ _ _ _ _ _ us hl => match us, hl with | [_, _, _], _ => rfl
  have F17 := fun_mk (st := s_judged_pen) l17 c17 k17
  have b17 := F17.binds (ps := ["front", "back", "pen"]) fun _ _ _ _ _ _ us hl => match us, hl with | [_, _, _], _ => rfl
  have F18 := fun_mk (st := s_kept_strokes) l18 c18 k18
  have b18 := F18.binds (ps := ["strokes"]) fun _ _ _ _ _ _ us hl => match us, hl with | [_], _ => rfl
  have F19 := fun_mk (st := s_is_stroke) l19 c19 k19
  have b19 := F19.binds (ps := ["thing"]) fun _ _ _ _ _ _ us hl => match us, hl with | [_], _ => rfl
  have F20 := fun_mk (st := s_is_place) l20 c20 k20
  have b20 := F20.binds (ps := ["front", "back", "place"]) fun _ _ _ _ _ _ us hl => match us, hl with | [_, _, _], _ => rfl
  have F21 := fun_mk (st := s_Book_init) l21 c21 k21
  have b21 := F21.binds (ps := ["self", "leaves"]) fun _ _ _ _ _ _ us hl => match us, hl with | [_, _], _ => rfl
  have F22 := fun_mk (st := s_Book_facing) l22 c22 k22
  have b22 := F22.binds (ps := ["self", "page"]) fun _ _ _ _ _ _ us hl => match us, hl with | [_, _], _ => rfl
  have F23 := fun_mk (st := s_Book_judged_page) l23 c23 k23
  have b23 := F23.binds (ps := ["self", "page"]) fun _ _ _ _ _ _ us hl => match us, hl with | [_, _], _ => rfl
  have F24 := fun_mk (st := s_judged_leaves) l24 c24 k24
  have b24 := F24.binds (ps := ["leaves"]) fun _ _ _ _ _ _ us hl => match us, hl with | [_], _ => rfl
  have F25 := fun_mk (st := s_source) l25 c25 k25
  have b25 := F25.binds (ps := ["_law_script", "_law_k"]) fun _ _ _ _ _ _ us hl => match us, hl with | [_, _], _ => rfl
  have F26 := fun_mk (st := s_pick) l26 c26 k26
  have b26 := F26.binds (ps := ["_law_source_here", "_law_many"]) fun _ _ _ _ _ _ us hl => match us, hl with | [_, _], _ => rfl
  have F27 := fun_mk (st := s_law_is_integer) l27 c27 k27
  have b27 := F27.binds (ps := ["_law_actual"]) fun _ _ _ _ _ _ us hl => match us, hl with | [_], _ => rfl
  have F28 := fun_mk (st := s_label_word) l28 c28 k28
  have b28 := F28.binds (ps := ["_law_label"]) fun _ _ _ _ _ _ us hl => match us, hl with | [_], _ => rfl
  have F29 := fun_mk (st := s_page_word) l29 c29 k29
  have b29 := F29.binds (ps := ["_law_page"]) fun _ _ _ _ _ _ us hl => match us, hl with | [_], _ => rfl
  have F30 := fun_mk (st := s_faces) l30 c30 k30
  have b30 := F30.binds (ps := ["_law_labels", "_law_one", "_law_other"]) fun _ _ _ _ _ _ us hl => match us, hl with | [_, _, _], _ => rfl
  have F31 := fun_mk (st := s_place_true) l31 c31 k31
  have b31 := F31.binds (ps := ["_law_labels", "_law_own", "_law_goal", "_law_word", "_law_nigh"]) fun _ _ _ _ _ _ us hl => match us, hl with | [_, _, _, _, _], _ => rfl
  have F32 := fun_mk (st := s_place_word) l32 c32 k32
  have b32 := F32.binds (ps := ["_law_labels", "_law_own", "_law_goal", "_law_nigh"]) fun _ _ _ _ _ _ us hl => match us, hl with | [_, _, _, _], _ => rfl
  have F33 := fun_mk (st := s_book_labels) l33 c33 k33
  have b33 := F33.binds (ps := ["_law_source_here", "_law_many"]) fun _ _ _ _ _ _ us hl => match us, hl with | [_, _], _ => rfl
  have F34 := fun_mk (st := s_all_pages) l34 c34 k34
  have b34 := F34.binds (ps := ["_law_leaves"]) fun _ _ _ _ _ _ us hl => match us, hl with | [_], _ => rfl
  have F35 := fun_mk (st := s_is_book) l35 c35 k35
  have b35 := F35.binds (ps := ["_law_actual", "_law_leaves"]) fun _ _ _ _ _ _ us hl => match us, hl with | [_, _], _ => rfl
  have F36 := fun_mk (st := s_deep_tuple) l36 c36 k36
  have b36 := F36.binds (ps := ["_law_thing"]) fun _ _ _ _ _ _ us hl => match us, hl with | [_], _ => rfl
  have F37 := fun_mk (st := s_leaves_in) l37 c37 k37
  have b37 := F37.binds (ps := ["_law_book"]) fun _ _ _ _ _ _ us hl => match us, hl with | [_], _ => rfl
  have F38 := fun_mk (st := s_draw_leaves) l38 c38 k38
  have b38 := F38.binds (ps := ["_law_source_here"]) fun _ _ _ _ _ _ us hl => match us, hl with | [_], _ => rfl
  have F39 := fun_mk (st := s_some_spots) l39 c39 k39
  have b39 := F39.binds (ps := ["_law_source_here", "_law_pages"]) fun _ _ _ _ _ _ us hl => match us, hl with | [_, _], _ => rfl
  have F40 := fun_mk (st := s_goals) l40 c40 k40
  have b40 := F40.binds (ps := ["_law_pages", "_law_at"]) fun _ _ _ _ _ _ us hl => match us, hl with | [_, _], _ => rfl
  have F41 := fun_mk (st := s_words) l41 c41 k41
  have b41 := F41.binds (ps := ["_law_source_here", "_law_pages", "_law_goal"]) fun _ _ _ _ _ _ us hl => match us, hl with | [_, _, _], _ => rfl
  have F42 := fun_mk (st := s_pair_right) l42 c42 k42
  have b42 := F42.binds (ps := ["_law_source_here", "_law_book", "_law_leaves", "_law_own", "_law_goal"]) fun _ _ _ _ _ _ us hl => match us, hl with | [_, _, _, _, _], _ => rfl
  have F43 := fun_mk (st := s_law) l43 c43 k43
  have b43 := F43.binds (ps := ["_law_script"]) fun _ _ _ _ _ _ us hl => match us, hl with | [_], _ => rfl
  let T : Tab K mg := ⟨C_Leaf, C_Book, _, _, F0, b0, PySem.W.mg_of X G a0, _, _, F1, b1, PySem.W.mg_of X G a1, _, _, F2, b2, PySem.W.mg_of X G a2, _, _, F3, b3, PySem.W.mg_of X G a3, _, _, F4, b4, PySem.W.mg_of X G a4, _, _, F5, b5, PySem.W.mg_of X G a5, _, _, F6, b6, PySem.W.mg_of X G a6, _, _, F7, b7, PySem.W.mg_of X G a7, _, _, F8, b8, PySem.W.mg_of X G a8, _, _, F9, b9, PySem.W.mg_of X G a9, _, _, F10, b10, PySem.W.mg_of X G a10, _, _, F11, b11, PySem.W.mg_of X G a11, _, _, F12, b12, PySem.W.mg_of X G a12, eP0, fun H => written_nil le0, _, _, F13, b13, a13, leaf_b4 F13, _, _, F14, b14, PySem.W.mg_of X G a14, _, _, F15, b15, PySem.W.mg_of X G a15, _, _, F16, b16, PySem.W.mg_of X G a16, _, _, F17, b17, PySem.W.mg_of X G a17, _, _, F18, b18, PySem.W.mg_of X G a18, _, _, F19, b19, PySem.W.mg_of X G a19, _, _, F20, b20, PySem.W.mg_of X G a20, _, _, F21, b21, a21, _, _, F22, b22, a22, _, _, F23, b23, a23, _, _, F24, b24, PySem.W.mg_of X G a24, _, _, F25, b25, PySem.W.mg_of X G a25, _, _, F26, b26, PySem.W.mg_of X G a26, _, _, F27, b27, PySem.W.mg_of X G a27, _, _, F28, b28, PySem.W.mg_of X G a28, _, _, F29, b29, PySem.W.mg_of X G a29, _, _, F30, b30, PySem.W.mg_of X G a30, _, _, F31, b31, PySem.W.mg_of X G a31, _, _, F32, b32, PySem.W.mg_of X G a32, _, _, F33, b33, PySem.W.mg_of X G a33, _, _, F34, b34, PySem.W.mg_of X G a34, _, _, F35, b35, PySem.W.mg_of X G a35, _, _, F36, b36, PySem.W.mg_of X G a36, _, _, F37, b37, PySem.W.mg_of X G a37, _, _, F38, b38, PySem.W.mg_of X G a38, _, _, F39, b39, PySem.W.mg_of X G a39, _, _, F40, b40, PySem.W.mg_of X G a40, _, _, F41, b41, PySem.W.mg_of X G a41, _, _, F42, b42, PySem.W.mg_of X G a42, _, _, F43, b43, PySem.W.mg_of X G a43, PySem.W.mg_of X G h_cg_Book, PySem.W.mg_of X G h_cg_Leaf, ⟨pg_Leaf, hd_Leaf, po_Leaf, sa_Leaf⟩, h_ms_Leaf, h_kc_Leaf, h_ca_Leaf, h_cn_Leaf, h_ct_Leaf, h_cm_Leaf, h_ic_Leaf, h_tc_Leaf, h_na_Leaf_label, h_na_Leaf_front, h_na_Leaf_back, h_na_Leaf_pen, h_na_Leaf__strokes, ⟨pg_Book, hd_Book, po_Book, sa_Book⟩, h_ms_Book, h_kc_Book, h_ca_Book, h_cn_Book, h_ct_Book, h_cm_Book, h_ic_Book, h_tc_Book, h_na_Book_leaves, h_na_Book__spots, h_fn_Leaf_init, h_fn_Book_init, h_fn_Book_facing, h_fn_Book_judged_page, _, PySem.W.mg_of X G v_FACING, _, PySem.W.mg_of X G v_HERE, _, PySem.W.mg_of X G v_LONGEST_ROW, _, PySem.W.mg_of X G v_MOST_LEAVES, _, PySem.W.mg_of X G v_MOST_PARTS, _, PySem.W.mg_of X G v_MOST_ROWS, _, PySem.W.mg_of X G v_MOST_SIGNS, _, PySem.W.mg_of X G v_MOST_TOKENS, _, PySem.W.mg_of X G v_OVERLEAF, _, PySem.W.mg_of X G v_SIDES, PySem.W.mg_none_of X G z_abs, PySem.W.mg_none_of X G z_all, PySem.W.mg_none_of X G z_bool, PySem.W.mg_none_of X G z_enumerate, PySem.W.mg_none_of X G z_int, PySem.W.mg_none_of X G z_isinstance, PySem.W.mg_none_of X G z_len, PySem.W.mg_none_of X G z_list, PySem.W.mg_none_of X G z_range, PySem.W.mg_none_of X G z_str, PySem.W.mg_none_of X G z_sum, PySem.W.mg_none_of X G z_tuple, PySem.W.mg_none_of X G z_zip⟩
  exact ⟨PySem.W.fnOf "law" "law" (defArgs s_law) (defBody s_law) (defScope s_law) .none kV43 dc43 pm43 an43 cd43 ct43, fun s v => .of_eq rfl, fun base _ _ => ok_law T⟩
end K23
open PySem PySem.W PyProof.Rows
set_option maxRecDepth 100000 in
set_option maxHeartbeats 0 in
theorem PySem.Challenge.cw_afterleaves_k23_place_words_holds : PySem.Challenge.rw_afterleaves_k23_place_words.Holds := by
  w_on; o_law; k_head; (case hw => w_witness2)
  k_fill
  refine L2.walk_of (l := PySem.Challenge.rw_afterleaves_k23_place_words) (n := 63) (k := 10) (x := "_law_script") (CX := fun _ => L2.CX0) (sp := fun w => K23.sp_law _) rfl (by decide) rfl ⟨rfl, by decide, by decide⟩ (fun w h Y => PySem.W.kIn_of Y) ?F (fun _ _ a ns hl _ hS => ⟨a, ns, rfl, hS, hl, fun _ => rfl⟩) (fun _ _ _ _ _ h => h)
  case F =>
    intro w mg fa h KX G hmg
    refine' K23.all_mk KX G hmg ?a0 ?l0 ?c0 ?k0 ?a1 ?l1 ?c1 ?k1 ?a2 ?l2 ?c2 ?k2 ?a3 ?l3 ?c3 ?k3 ?a4 ?l4 ?c4 ?k4 ?a5 ?l5 ?c5 ?k5 ?a6 ?l6 ?c6 ?k6 ?a7 ?l7 ?c7 ?k7 ?a8 ?l8 ?c8 ?k8 ?a9 ?l9 ?c9 ?k9 ?a10 ?l10 ?c10 ?k10 ?a11 ?l11 ?c11 ?k11 ?a12 ?l12 ?c12 ?k12 ?a13 ?l13 ?c13 ?k13 ?lt13 ?le0 ?a14 ?l14 ?c14 ?k14 ?a15 ?l15 ?c15 ?k15 ?a16 ?l16 ?c16 ?k16 ?a17 ?l17 ?c17 ?k17 ?a18 ?l18 ?c18 ?k18 ?a19 ?l19 ?c19 ?k19 ?a20 ?l20 ?c20 ?k20 ?a21 ?l21 ?c21 ?k21 ?a22 ?l22 ?c22 ?k22 ?a23 ?l23 ?c23 ?k23 ?a24 ?l24 ?c24 ?k24 ?a25 ?l25 ?c25 ?k25 ?a26 ?l26 ?c26 ?k26 ?a27 ?l27 ?c27 ?k27 ?a28 ?l28 ?c28 ?k28 ?a29 ?l29 ?c29 ?k29 ?a30 ?l30 ?c30 ?k30 ?a31 ?l31 ?c31 ?k31 ?a32 ?l32 ?c32 ?k32 ?a33 ?l33 ?c33 ?k33 ?a34 ?l34 ?c34 ?k34 ?a35 ?l35 ?c35 ?k35 ?a36 ?l36 ?c36 ?k36 ?a37 ?l37 ?c37 ?k37 ?a38 ?l38 ?c38 ?k38 ?a39 ?l39 ?c39 ?k39 ?a40 ?l40 ?c40 ?k40 ?a41 ?l41 ?c41 ?k41 ?a42 ?l42 ?c42 ?k42 ?a43 ?l43 ?c43 ?k43 ?v_FACING ?v_HERE ?v_LONGEST_ROW ?v_MOST_LEAVES ?v_MOST_PARTS ?v_MOST_ROWS ?v_MOST_SIGNS ?v_MOST_TOKENS ?v_OVERLEAF ?v_SIDES ?z_abs ?z_all ?z_bool ?z_enumerate ?z_int ?z_isinstance ?z_len ?z_list ?z_range ?z_str ?z_sum ?z_tuple ?z_zip ?h_cg_Book ?h_cg_Leaf ?h_ms_Leaf ?h_kc_Leaf ?h_ca_Leaf ?h_cn_Leaf ?h_ct_Leaf ?h_cm_Leaf ?h_ic_Leaf ?h_tc_Leaf ?h_na_Leaf_label ?h_na_Leaf_front ?h_na_Leaf_back ?h_na_Leaf_pen ?h_na_Leaf__strokes ?h_ms_Book ?h_kc_Book ?h_ca_Book ?h_cn_Book ?h_ct_Book ?h_cm_Book ?h_ic_Book ?h_tc_Book ?h_na_Book_leaves ?h_na_Book__spots ?h_fn_Leaf_init ?h_fn_Book_init ?h_fn_Book_facing ?h_fn_Book_judged_page ?pg_Leaf ?hd_Leaf ?po_Leaf ?sa_Leaf ?pg_Book ?hd_Book ?po_Book ?sa_Book
    (case h_cg_Book => k_is)
    (case h_cg_Leaf => k_is)
    (case a0 => k_is)
    (case l0 => k_is)
    (case c0 => k_is)
    (case k0 => k_is)
    (case a1 => k_is)
    (case l1 => k_is)
    (case c1 => k_is)
    (case k1 => k_is)
    (case a2 => k_is)
    (case l2 => k_is)
    (case c2 => k_is)
    (case k2 => k_is)
    (case a3 => k_is)
    (case l3 => k_is)
    (case c3 => k_is)
    (case k3 => k_is)
    (case a4 => k_is)
    (case l4 => k_is)
    (case c4 => k_is)
    (case k4 => k_is)
    (case a5 => k_is)
    (case l5 => k_is)
    (case c5 => k_is)
    (case k5 => k_is)
    (case a6 => k_is)
    (case l6 => k_is)
    (case c6 => k_is)
    (case k6 => k_is)
    (case a7 => k_is)
    (case l7 => k_is)
    (case c7 => k_is)
    (case k7 => k_is)
    (case a8 => k_is)
    (case l8 => k_is)
    (case c8 => k_is)
    (case k8 => k_is)
    (case a9 => k_is)
    (case l9 => k_is)
    (case c9 => k_is)
    (case k9 => k_is)
    (case a10 => k_is)
    (case l10 => k_is)
    (case c10 => k_is)
    (case k10 => k_is)
    (case a11 => k_is)
    (case l11 => k_is)
    (case c11 => k_is)
    (case k11 => k_is)
    (case a12 => k_is)
    (case l12 => k_is)
    (case c12 => k_is)
    (case k12 => k_is)
    (case a13 => k_is)
    (case l13 => k_is)
    (case c13 => k_is)
    (case k13 => k_is)
    (case lt13 => k_is)
    (case le0 => k_is)
    (case a14 => k_is)
    (case l14 => k_is)
    (case c14 => k_is)
    (case k14 => k_is)
    (case a15 => k_is)
    (case l15 => k_is)
    (case c15 => k_is)
    (case k15 => k_is)
    (case a16 => k_is)
    (case l16 => k_is)
    (case c16 => k_is)
    (case k16 => k_is)
    (case a17 => k_is)
    (case l17 => k_is)
    (case c17 => k_is)
    (case k17 => k_is)
    (case a18 => k_is)
    (case l18 => k_is)
    (case c18 => k_is)
    (case k18 => k_is)
    (case a19 => k_is)
    (case l19 => k_is)
    (case c19 => k_is)
    (case k19 => k_is)
    (case a20 => k_is)
    (case l20 => k_is)
    (case c20 => k_is)
    (case k20 => k_is)
    (case a21 => k_is)
    (case l21 => k_is)
    (case c21 => k_is)
    (case k21 => k_is)
    (case a22 => k_is)
    (case l22 => k_is)
    (case c22 => k_is)
    (case k22 => k_is)
    (case a23 => k_is)
    (case l23 => k_is)
    (case c23 => k_is)
    (case k23 => k_is)
    (case a24 => k_is)
    (case l24 => k_is)
    (case c24 => k_is)
    (case k24 => k_is)
    (case a25 => k_is)
    (case l25 => k_is)
    (case c25 => k_is)
    (case k25 => k_is)
    (case a26 => k_is)
    (case l26 => k_is)
    (case c26 => k_is)
    (case k26 => k_is)
    (case a27 => k_is)
    (case l27 => k_is)
    (case c27 => k_is)
    (case k27 => k_is)
    (case a28 => k_is)
    (case l28 => k_is)
    (case c28 => k_is)
    (case k28 => k_is)
    (case a29 => k_is)
    (case l29 => k_is)
    (case c29 => k_is)
    (case k29 => k_is)
    (case a30 => k_is)
    (case l30 => k_is)
    (case c30 => k_is)
    (case k30 => k_is)
    (case a31 => k_is)
    (case l31 => k_is)
    (case c31 => k_is)
    (case k31 => k_is)
    (case a32 => k_is)
    (case l32 => k_is)
    (case c32 => k_is)
    (case k32 => k_is)
    (case a33 => k_is)
    (case l33 => k_is)
    (case c33 => k_is)
    (case k33 => k_is)
    (case a34 => k_is)
    (case l34 => k_is)
    (case c34 => k_is)
    (case k34 => k_is)
    (case a35 => k_is)
    (case l35 => k_is)
    (case c35 => k_is)
    (case k35 => k_is)
    (case a36 => k_is)
    (case l36 => k_is)
    (case c36 => k_is)
    (case k36 => k_is)
    (case a37 => k_is)
    (case l37 => k_is)
    (case c37 => k_is)
    (case k37 => k_is)
    (case a38 => k_is)
    (case l38 => k_is)
    (case c38 => k_is)
    (case k38 => k_is)
    (case a39 => k_is)
    (case l39 => k_is)
    (case c39 => k_is)
    (case k39 => k_is)
    (case a40 => k_is)
    (case l40 => k_is)
    (case c40 => k_is)
    (case k40 => k_is)
    (case a41 => k_is)
    (case l41 => k_is)
    (case c41 => k_is)
    (case k41 => k_is)
    (case a42 => k_is)
    (case l42 => k_is)
    (case c42 => k_is)
    (case k42 => k_is)
    (case a43 => k_is)
    (case l43 => k_is)
    (case c43 => k_is)
    (case k43 => k_is)
    (case v_FACING => k_is)
    (case v_HERE => k_is)
    (case v_LONGEST_ROW => k_is)
    (case v_MOST_LEAVES => k_is)
    (case v_MOST_PARTS => k_is)
    (case v_MOST_ROWS => k_is)
    (case v_MOST_SIGNS => k_is)
    (case v_MOST_TOKENS => k_is)
    (case v_OVERLEAF => k_is)
    (case v_SIDES => k_is)
    (case z_abs => k_is)
    (case z_all => k_is)
    (case z_bool => k_is)
    (case z_enumerate => k_is)
    (case z_int => k_is)
    (case z_isinstance => k_is)
    (case z_len => k_is)
    (case z_list => k_is)
    (case z_range => k_is)
    (case z_str => k_is)
    (case z_sum => k_is)
    (case z_tuple => k_is)
    (case z_zip => k_is)
    (case h_ms_Leaf => k_is)
    (case h_kc_Leaf => k_is)
    (case h_ca_Leaf => k_is)
    (case h_cn_Leaf => k_is)
    (case h_ct_Leaf => k_is)
    (case h_cm_Leaf => k_is)
    (case h_ic_Leaf => k_is)
    (case h_tc_Leaf => k_is)
    (case h_na_Leaf_label => k_is)
    (case h_na_Leaf_front => k_is)
    (case h_na_Leaf_back => k_is)
    (case h_na_Leaf_pen => k_is)
    (case h_na_Leaf__strokes => k_is)
    (case h_ms_Book => k_is)
    (case h_kc_Book => k_is)
    (case h_ca_Book => k_is)
    (case h_cn_Book => k_is)
    (case h_ct_Book => k_is)
    (case h_cm_Book => k_is)
    (case h_ic_Book => k_is)
    (case h_tc_Book => k_is)
    (case h_na_Book_leaves => k_is)
    (case h_na_Book__spots => k_is)
    (case h_fn_Leaf_init => k_is)
    (case h_fn_Book_init => k_is)
    (case h_fn_Book_facing => k_is)
    (case h_fn_Book_judged_page => k_is)
    (case pg_Leaf => k_is)
    (case hd_Leaf => k_is)
    (case po_Leaf => k_is)
    (case sa_Leaf => k_is)
    (case pg_Book => k_is)
    (case hd_Book => k_is)
    (case po_Book => k_is)
    (case sa_Book => k_is)

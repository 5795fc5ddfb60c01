import PyProof.Rows.All
import Wide.All
import OpenK.AllK
import Wide.FinOn
import HandS.ForMost
import HandS.Codes
import HandS.IsInst
import HandS.Walk
import HandS.TupLe
import HandS.SortRule
import HandS.NamedTupSort
import KE.GoesRaise
import HandS.HotCalls
import HandS.DeepEq
import HandS.TupAny
import HandS.Deep
import HandS.FStr
import HandS.StrMore
import HandS.TryMany
import HandS.NoneIn
import HandS.ForExc
import HandS.ExcInit
import HandS.ExcField
import HandS.ExcIs
import KE.KExcIs
import KE.KRevSl
import PyProof.StrLawsRepr
import HandS.Flow
import HandS.OwnEq
import HandS.DictComp
import HandS.IterVal
import HandS.Property
import KE.DataCmp
import KE.SortCalls
import KE.SortData
import KE.GoesEnum
import HandS.Zip
import HandS.Defaults
import HandS.MakeKw
import HandS.MakeKwOnly
import KE.KDictKeyed
import HandS.Strs
import KE.DataMinMax
import HandS.ForDict
import HandS.Iter
import PySem.Challenge.RW_afterleaves_k38_whole_fewest_ranges
set_option Elab.async false
set_option linter.all false
set_option maxRecDepth 100000
set_option maxHeartbeats 4000000
namespace K38
open PySem PySem.Spec PyProof.Rows L2
/-! ### the text -/
def topS (i : Nat) : Stmt := PySem.Challenge.pw_afterleaves_k38_whole_fewest_ranges.main.body.getD i (.Pass ⟨0, 0, 0, 0⟩)
abbrev s_wall : Stmt := topS 0
abbrev N_wall : List Str := ["k"]
theorem sc_wall : FnScope N_wall ["k"] (defScope s_wall) := ⟨rfl, rfl, rfl, by decide +kernel, rfl, by decide +kernel, by decide +kernel⟩
abbrev s_is_integer : Stmt := topS 13
abbrev N_is_integer : List Str := ["thing"]
theorem sc_is_integer : FnScope N_is_integer ["thing"] (defScope s_is_integer) := ⟨rfl, rfl, rfl, by decide +kernel, rfl, by decide +kernel, by decide +kernel⟩
abbrev s_is_within : Stmt := topS 14
abbrev N_is_within : List Str := ["thing", "least", "most"]
theorem sc_is_within : FnScope N_is_within ["thing", "least", "most"] (defScope s_is_within) := ⟨rfl, rfl, rfl, by decide +kernel, rfl, by decide +kernel, by decide +kernel⟩
abbrev s_is_tuple : Stmt := topS 15
abbrev N_is_tuple : List Str := ["thing"]
theorem sc_is_tuple : FnScope N_is_tuple ["thing"] (defScope s_is_tuple) := ⟨rfl, rfl, rfl, by decide +kernel, rfl, by decide +kernel, by decide +kernel⟩
abbrev s_is_sized : Stmt := topS 16
abbrev N_is_sized : List Str := ["thing", "least", "most"]
theorem sc_is_sized : FnScope N_is_sized ["thing", "least", "most"] (defScope s_is_sized) := ⟨rfl, rfl, rfl, by decide +kernel, rfl, by decide +kernel, by decide +kernel⟩
abbrev s_kept_label : Stmt := topS 19
abbrev N_kept_label : List Str := ["thing", "part"]
theorem sc_kept_label : FnScope N_kept_label ["thing"] (defScope s_kept_label) := ⟨rfl, rfl, rfl, by decide +kernel, rfl, by decide +kernel, by decide +kernel⟩
abbrev s_judged_label : Stmt := topS 20
abbrev N_judged_label : List Str := ["thing", "label"]
theorem sc_judged_label : FnScope N_judged_label ["thing"] (defScope s_judged_label) := ⟨rfl, rfl, rfl, by decide +kernel, rfl, by decide +kernel, by decide +kernel⟩
abbrev s_kept_page : Stmt := topS 21
abbrev N_kept_page : List Str := ["thing", "label"]
theorem sc_kept_page : FnScope N_kept_page ["thing"] (defScope s_kept_page) := ⟨rfl, rfl, rfl, by decide +kernel, rfl, by decide +kernel, by decide +kernel⟩
abbrev s_preferred_ranges : Stmt := topS 23
abbrev N_preferred_ranges : List Str := ["book", "pages", "shown", "spots", "ranges", "page", "k"]
theorem sc_preferred_ranges : FnScope N_preferred_ranges ["book", "pages"] (defScope s_preferred_ranges) := ⟨rfl, rfl, rfl, by decide +kernel, rfl, by decide +kernel, by decide +kernel⟩
abbrev s_judged_pages : Stmt := topS 24
abbrev N_judged_pages : List Str := ["book", "pages", "shown", "kept", "page", "one", "other"]
theorem sc_judged_pages : FnScope N_judged_pages ["book", "pages"] (defScope s_judged_pages) := ⟨rfl, rfl, rfl, by decide +kernel, rfl, by decide +kernel, by decide +kernel⟩
abbrev s_shown_pages : Stmt := topS 25
abbrev N_shown_pages : List Str := ["book", "leaf", "side"]
theorem sc_shown_pages : FnScope N_shown_pages ["book"] (defScope s_shown_pages) := ⟨rfl, rfl, rfl, by decide +kernel, rfl, by decide +kernel, by decide +kernel⟩
abbrev s_Leaf_init : Stmt := inClass (topS 31) 0
abbrev N_Leaf_init : List Str := ["self", "label", "front", "back", "pen", "stroke"]
theorem sc_Leaf_init : FnScope N_Leaf_init ["self", "label", "front", "back", "pen"] (defScope s_Leaf_init) := ⟨rfl, rfl, rfl, by decide +kernel, rfl, by decide +kernel, by decide +kernel⟩
abbrev s_Leaf_side_rows : Stmt := inClass (topS 31) 2
abbrev N_Leaf_side_rows : List Str := ["self", "side"]
theorem sc_Leaf_side_rows : FnScope N_Leaf_side_rows ["self", "side"] (defScope s_Leaf_side_rows) := ⟨rfl, rfl, rfl, by decide +kernel, rfl, by decide +kernel, by decide +kernel⟩
abbrev s_is_token : Stmt := topS 32
abbrev N_is_token : List Str := ["thing"]
theorem sc_is_token : FnScope N_is_token ["thing"] (defScope s_is_token) := ⟨rfl, rfl, rfl, by decide +kernel, rfl, by decide +kernel, by decide +kernel⟩
abbrev s_is_row : Stmt := topS 33
abbrev N_is_row : List Str := ["thing", "tokens", "token"]
theorem sc_is_row : FnScope N_is_row ["thing"] (defScope s_is_row) := ⟨rfl, rfl, rfl, by decide +kernel, rfl, by decide +kernel, by decide +kernel⟩
abbrev s_judged_rows : Stmt := topS 34
abbrev N_judged_rows : List Str := ["rows", "least", "side", "row"]
theorem sc_judged_rows : FnScope N_judged_rows ["rows", "least", "side"] (defScope s_judged_rows) := ⟨rfl, rfl, rfl, by decide +kernel, rfl, by decide +kernel, by decide +kernel⟩
abbrev s_judged_pen : Stmt := topS 35
abbrev N_judged_pen : List Str := ["front", "back", "pen", "strokes", "stroke", "one", "other"]
theorem sc_judged_pen : FnScope N_judged_pen ["front", "back", "pen"] (defScope s_judged_pen) := ⟨rfl, rfl, rfl, by decide +kernel, rfl, by decide +kernel, by decide +kernel⟩
abbrev s_kept_strokes : Stmt := topS 36
abbrev N_kept_strokes : List Str := ["strokes", "stroke"]
theorem sc_kept_strokes : FnScope N_kept_strokes ["strokes"] (defScope s_kept_strokes) := ⟨rfl, rfl, rfl, by decide +kernel, rfl, by decide +kernel, by decide +kernel⟩
abbrev s_is_stroke : Stmt := topS 37
abbrev N_is_stroke : List Str := ["thing"]
theorem sc_is_stroke : FnScope N_is_stroke ["thing"] (defScope s_is_stroke) := ⟨rfl, rfl, rfl, by decide +kernel, rfl, by decide +kernel, by decide +kernel⟩
abbrev s_is_place : Stmt := topS 38
abbrev N_is_place : List Str := ["front", "back", "place", "side", "row", "word", "rows"]
theorem sc_is_place : FnScope N_is_place ["front", "back", "place"] (defScope s_is_place) := ⟨rfl, rfl, rfl, by decide +kernel, rfl, by decide +kernel, by decide +kernel⟩
abbrev s_Book_init : Stmt := inClass (topS 41) 0
abbrev N_Book_init : List Str := ["self", "leaves", "k", "leaf"]
theorem sc_Book_init : FnScope N_Book_init ["self", "leaves"] (defScope s_Book_init) := ⟨rfl, rfl, rfl, by decide +kernel, rfl, by decide +kernel, by decide +kernel⟩
abbrev s_Book_iter : Stmt := inClass (topS 41) 5
abbrev N_Book_iter : List Str := ["self"]
theorem sc_Book_iter : FnScope N_Book_iter ["self"] (defScope s_Book_iter) := ⟨rfl, rfl, rfl, by decide +kernel, rfl, by decide +kernel, by decide +kernel⟩
abbrev s_judged_leaves : Stmt := topS 42
abbrev N_judged_leaves : List Str := ["leaves", "k", "leaf"]
theorem sc_judged_leaves : FnScope N_judged_leaves ["leaves"] (defScope s_judged_leaves) := ⟨rfl, rfl, rfl, by decide +kernel, rfl, by decide +kernel, by decide +kernel⟩
abbrev s_source : Stmt := topS 44
abbrev N_source : List Str := ["_law_script", "_law_k", "_law_cell", "_law_number", "_law_great"]
theorem sc_source : FnScope N_source ["_law_script", "_law_k"] (defScope s_source) := ⟨rfl, rfl, rfl, by decide +kernel, rfl, by decide +kernel, by decide +kernel⟩
abbrev s_pick : Stmt := topS 45
abbrev N_pick : List Str := ["_law_source_here", "_law_many", "_law_taken"]
theorem sc_pick : FnScope N_pick ["_law_source_here", "_law_many"] (defScope s_pick) := ⟨rfl, rfl, rfl, by decide +kernel, rfl, by decide +kernel, by decide +kernel⟩
abbrev s_law_is_integer : Stmt := topS 46
abbrev N_law_is_integer : List Str := ["_law_actual"]
theorem sc_law_is_integer : FnScope N_law_is_integer ["_law_actual"] (defScope s_law_is_integer) := ⟨rfl, rfl, rfl, by decide +kernel, rfl, by decide +kernel, by decide +kernel⟩
abbrev s_all_pages : Stmt := topS 47
abbrev N_all_pages : List Str := ["_law_leaves_here", "_law_pages", "_law_sheet"]
theorem sc_all_pages : FnScope N_all_pages ["_law_leaves_here"] (defScope s_all_pages) := ⟨rfl, rfl, rfl, by decide +kernel, rfl, by decide +kernel, by decide +kernel⟩
abbrev s_told_pages : Stmt := topS 48
abbrev N_told_pages : List Str := ["_law_leaves_here", "_law_pairs", "_law_found", "_law_sheet", "_law_side_here", "_law_page", "_law_pair"]
theorem sc_told_pages : FnScope N_told_pages ["_law_leaves_here", "_law_pairs"] (defScope s_told_pages) := ⟨rfl, rfl, rfl, by decide +kernel, rfl, by decide +kernel, by decide +kernel⟩
abbrev s_as_lists : Stmt := topS 49
abbrev N_as_lists : List Str := ["_law_thing", "_law_part"]
theorem sc_as_lists : FnScope N_as_lists ["_law_thing"] (defScope s_as_lists) := ⟨rfl, rfl, rfl, by decide +kernel, rfl, by decide +kernel, by decide +kernel⟩
abbrev s_label : Stmt := topS 50
abbrev N_label : List Str := ["_law_source_here", "_law_most", "_law_parts", "_law_step"]
theorem sc_label : FnScope N_label ["_law_source_here", "_law_most"] (defScope s_label) := ⟨rfl, rfl, rfl, by decide +kernel, rfl, by decide +kernel, by decide +kernel⟩
abbrev s_labels : Stmt := topS 51
abbrev N_labels : List Str := ["_law_source_here", "_law_many", "_law_most", "_law_labels_here", "_law_k", "_law_label_here", "_law_step"]
theorem sc_labels : FnScope N_labels ["_law_source_here"] (defScope s_labels) := ⟨rfl, rfl, rfl, by decide +kernel, rfl, by decide +kernel, by decide +kernel⟩
abbrev s_side : Stmt := topS 52
abbrev N_side : List Str := ["_law_source_here", "_law_menu", "_law_step"]
theorem sc_side : FnScope N_side ["_law_source_here"] (defScope s_side) := ⟨rfl, rfl, rfl, by decide +kernel, rfl, by decide +kernel, by decide +kernel⟩
abbrev s_leaves : Stmt := topS 53
abbrev N_leaves : List Str := ["_law_source_here", "_law_leaves_here", "_law_label_here", "_law_back"]
theorem sc_leaves : FnScope N_leaves ["_law_source_here"] (defScope s_leaves) := ⟨rfl, rfl, rfl, by decide +kernel, rfl, by decide +kernel, by decide +kernel⟩
abbrev s_changed : Stmt := topS 54
abbrev N_changed : List Str := ["_law_source_here", "_law_leaves_here", "_law_at", "_law_back"]
theorem sc_changed : FnScope N_changed ["_law_source_here", "_law_leaves_here"] (defScope s_changed) := ⟨rfl, rfl, rfl, by decide +kernel, rfl, by decide +kernel, by decide +kernel⟩
abbrev s_made : Stmt := topS 55
abbrev N_made : List Str := ["_law_leaves_here", "_law_one"]
theorem sc_made : FnScope N_made ["_law_leaves_here"] (defScope s_made) := ⟨rfl, rfl, rfl, by decide +kernel, rfl, by decide +kernel, by decide +kernel⟩
abbrev s_with_rows : Stmt := topS 56
abbrev N_with_rows : List Str := ["_law_leaves_here", "_law_pages", "_law_one", "_law_side_here"]
theorem sc_with_rows : FnScope N_with_rows ["_law_leaves_here"] (defScope s_with_rows) := ⟨rfl, rfl, rfl, by decide +kernel, rfl, by decide +kernel, by decide +kernel⟩
abbrev s_stranger : Stmt := topS 57
abbrev N_stranger : List Str := ["_law_leaves_here", "_law_labels_here", "_law_free", "_law_one", "_law_step"]
theorem sc_stranger : FnScope N_stranger ["_law_leaves_here"] (defScope s_stranger) := ⟨rfl, rfl, rfl, by decide +kernel, rfl, by decide +kernel, by decide +kernel⟩
abbrev s_truths : Stmt := topS 58
abbrev N_truths : List Str := ["_law_label_here", "_law_part"]
theorem sc_truths : FnScope N_truths ["_law_label_here"] (defScope s_truths) := ⟨rfl, rfl, rfl, by decide +kernel, rfl, by decide +kernel, by decide +kernel⟩
abbrev s_bad_pages : Stmt := topS 59
abbrev N_bad_pages : List Str := ["_law_source_here", "_law_leaves_here", "_law_pages", "_law_way", "_law_at", "_law_blank", "_law_small", "_law_odd", "_law_one", "_law_k"]
theorem sc_bad_pages : FnScope N_bad_pages ["_law_source_here", "_law_leaves_here", "_law_pages"] (defScope s_bad_pages) := ⟨rfl, rfl, rfl, by decide +kernel, rfl, by decide +kernel, by decide +kernel⟩
abbrev s_refused : Stmt := topS 60
abbrev N_refused : List Str := ["_law_book", "_law_pages", "e"]
theorem sc_refused : FnScope N_refused ["_law_book", "_law_pages"] (defScope s_refused) := ⟨rfl, rfl, rfl, by decide +kernel, rfl, by decide +kernel, by decide +kernel⟩
abbrev s_is_page : Stmt := topS 61
abbrev N_is_page : List Str := ["_law_thing", "_law_part"]
theorem sc_is_page : FnScope N_is_page ["_law_thing"] (defScope s_is_page) := ⟨rfl, rfl, rfl, by decide +kernel, rfl, by decide +kernel, by decide +kernel⟩
abbrev s_walked : Stmt := topS 62
abbrev N_walked : List Str := ["_law_leaves_here", "_law_pages", "_law_told", "_law_pair", "_law_rest", "_law_at", "_law_page"]
theorem sc_walked : FnScope N_walked ["_law_leaves_here", "_law_pages", "_law_told"] (defScope s_walked) := ⟨rfl, rfl, rfl, by decide +kernel, rfl, by decide +kernel, by decide +kernel⟩
abbrev s_masks : Stmt := topS 63
abbrev N_masks : List Str := ["_law_leaves_here", "_law_pages", "_law_known", "_law_inside", "_law_found", "_law_low", "_law_mask", "_law_high"]
theorem sc_masks : FnScope N_masks ["_law_leaves_here", "_law_pages"] (defScope s_masks) := ⟨rfl, rfl, rfl, by decide +kernel, rfl, by decide +kernel, by decide +kernel⟩
abbrev s_fewer_tell : Stmt := topS 64
abbrev N_fewer_tell : List Str := ["_law_leaves_here", "_law_pages", "_law_many", "_law_masks_here", "_law_goal", "_law_reach", "_law_turn", "_law_more", "_law_union", "_law_mask"]
theorem sc_fewer_tell : FnScope N_fewer_tell ["_law_leaves_here", "_law_pages", "_law_many"] (defScope s_fewer_tell) := ⟨rfl, rfl, rfl, by decide +kernel, rfl, by decide +kernel, by decide +kernel⟩
abbrev s_law : Stmt := topS 65
abbrev N_law : List Str := ["_law_script", "_law_earlier", "_law_k", "_law_source_here", "_law_leaves_here", "_law_share", "_law_pages", "_law_changed_here", "_law_there", "_law_left", "_law_book", "_law_handed", "_law_told", "_law_one", "_law_page"]
theorem sc_law : FnScope N_law ["_law_script"] (defScope s_law) := ⟨rfl, rfl, rfl, by decide +kernel, rfl, by decide +kernel, by decide +kernel⟩
structure Tab (K : PySem.W.Frag) (mg : Str → Option Value) where
  C_AfterError : Addr
  C_BadForm : Addr
  C_NotThere : Addr
  C_BadPages : Addr
  C_Leaf : Addr
  C_Book : Addr
  f_wall : Addr
  d_wall : FuncData
  F_wall : Fun K "_wall" "_wall" s_wall f_wall d_wall
  b_wall : Binds K d_wall ["k"] []
  g_wall : mg "_wall" = some (.ref f_wall)
  f_is_integer : Addr
  d_is_integer : FuncData
  F_is_integer : Fun K "is_integer" "is_integer" s_is_integer f_is_integer d_is_integer
  b_is_integer : Binds K d_is_integer ["thing"] []
  g_is_integer : mg "is_integer" = some (.ref f_is_integer)
  f_is_within : Addr
  d_is_within : FuncData
  F_is_within : Fun K "is_within" "is_within" s_is_within f_is_within d_is_within
  b_is_within : Binds K d_is_within ["thing", "least", "most"] []
  g_is_within : mg "is_within" = some (.ref f_is_within)
  f_is_tuple : Addr
  d_is_tuple : FuncData
  F_is_tuple : Fun K "is_tuple" "is_tuple" s_is_tuple f_is_tuple d_is_tuple
  b_is_tuple : Binds K d_is_tuple ["thing"] []
  g_is_tuple : mg "is_tuple" = some (.ref f_is_tuple)
  f_is_sized : Addr
  d_is_sized : FuncData
  F_is_sized : Fun K "is_sized" "is_sized" s_is_sized f_is_sized d_is_sized
  b_is_sized : Binds K d_is_sized ["thing", "least", "most"] []
  g_is_sized : mg "is_sized" = some (.ref f_is_sized)
  f_kept_label : Addr
  d_kept_label : FuncData
  F_kept_label : Fun K "kept_label" "kept_label" s_kept_label f_kept_label d_kept_label
  b_kept_label : Binds K d_kept_label ["thing"] []
  g_kept_label : mg "kept_label" = some (.ref f_kept_label)
  f_judged_label : Addr
  d_judged_label : FuncData
  F_judged_label : Fun K "judged_label" "judged_label" s_judged_label f_judged_label d_judged_label
  b_judged_label : Binds K d_judged_label ["thing"] []
  g_judged_label : mg "judged_label" = some (.ref f_judged_label)
  f_kept_page : Addr
  d_kept_page : FuncData
  F_kept_page : Fun K "kept_page" "kept_page" s_kept_page f_kept_page d_kept_page
  b_kept_page : Binds K d_kept_page ["thing"] []
  g_kept_page : mg "kept_page" = some (.ref f_kept_page)
  f_preferred_ranges : Addr
  d_preferred_ranges : FuncData
  F_preferred_ranges : Fun K "preferred_ranges" "preferred_ranges" s_preferred_ranges f_preferred_ranges d_preferred_ranges
  b_preferred_ranges : Binds K d_preferred_ranges ["book", "pages"] []
  g_preferred_ranges : mg "preferred_ranges" = some (.ref f_preferred_ranges)
  f_judged_pages : Addr
  d_judged_pages : FuncData
  F_judged_pages : Fun K "judged_pages" "judged_pages" s_judged_pages f_judged_pages d_judged_pages
  b_judged_pages : Binds K d_judged_pages ["book", "pages"] []
  g_judged_pages : mg "judged_pages" = some (.ref f_judged_pages)
  f_shown_pages : Addr
  d_shown_pages : FuncData
  F_shown_pages : Fun K "shown_pages" "shown_pages" s_shown_pages f_shown_pages d_shown_pages
  b_shown_pages : Binds K d_shown_pages ["book"] []
  g_shown_pages : mg "shown_pages" = some (.ref f_shown_pages)
  e_Leaf : Addr
  el_Leaf : ∀ H, SqT K H e_Leaf []
  f_Leaf_init : Addr
  d_Leaf_init : FuncData
  F_Leaf_init : FunD K "__init__" "Leaf.__init__" (defArgs s_Leaf_init) (defBody s_Leaf_init) (defScope s_Leaf_init) [V.ref e_Leaf] [] f_Leaf_init d_Leaf_init
  b_Leaf_init : Binds K d_Leaf_init ["self", "label", "front", "back", "pen"] []
  g_Leaf_init : PySem.W.findIn K (.ref C_Leaf) "__init__" = some (some (.ref f_Leaf_init))
  b3_Leaf_init : ∃ ds, Vals [V.ref e_Leaf] ds ∧ Binds K d_Leaf_init ["self", "label", "front", "back", "pen"] ds
  f_Leaf_side_rows : Addr
  d_Leaf_side_rows : FuncData
  F_Leaf_side_rows : Fun K "side_rows" "Leaf.side_rows" s_Leaf_side_rows f_Leaf_side_rows d_Leaf_side_rows
  b_Leaf_side_rows : Binds K d_Leaf_side_rows ["self", "side"] []
  g_Leaf_side_rows : PySem.W.findIn K (.ref C_Leaf) "side_rows" = some (some (.ref f_Leaf_side_rows))
  f_is_token : Addr
  d_is_token : FuncData
  F_is_token : Fun K "is_token" "is_token" s_is_token f_is_token d_is_token
  b_is_token : Binds K d_is_token ["thing"] []
  g_is_token : mg "is_token" = some (.ref f_is_token)
  f_is_row : Addr
  d_is_row : FuncData
  F_is_row : Fun K "_is_row" "_is_row" s_is_row f_is_row d_is_row
  b_is_row : Binds K d_is_row ["thing"] []
  g_is_row : mg "_is_row" = some (.ref f_is_row)
  f_judged_rows : Addr
  d_judged_rows : FuncData
  F_judged_rows : Fun K "_judged_rows" "_judged_rows" s_judged_rows f_judged_rows d_judged_rows
  b_judged_rows : Binds K d_judged_rows ["rows", "least", "side"] []
  g_judged_rows : mg "_judged_rows" = some (.ref f_judged_rows)
  f_judged_pen : Addr
  d_judged_pen : FuncData
  F_judged_pen : Fun K "_judged_pen" "_judged_pen" s_judged_pen f_judged_pen d_judged_pen
  b_judged_pen : Binds K d_judged_pen ["front", "back", "pen"] []
  g_judged_pen : mg "_judged_pen" = some (.ref f_judged_pen)
  f_kept_strokes : Addr
  d_kept_strokes : FuncData
  F_kept_strokes : Fun K "_kept_strokes" "_kept_strokes" s_kept_strokes f_kept_strokes d_kept_strokes
  b_kept_strokes : Binds K d_kept_strokes ["strokes"] []
  g_kept_strokes : mg "_kept_strokes" = some (.ref f_kept_strokes)
  f_is_stroke : Addr
  d_is_stroke : FuncData
  F_is_stroke : Fun K "_is_stroke" "_is_stroke" s_is_stroke f_is_stroke d_is_stroke
  b_is_stroke : Binds K d_is_stroke ["thing"] []
  g_is_stroke : mg "_is_stroke" = some (.ref f_is_stroke)
  f_is_place : Addr
  d_is_place : FuncData
  F_is_place : Fun K "_is_place" "_is_place" s_is_place f_is_place d_is_place
  b_is_place : Binds K d_is_place ["front", "back", "place"] []
  g_is_place : mg "_is_place" = some (.ref f_is_place)
  f_Book_init : Addr
  d_Book_init : FuncData
  F_Book_init : Fun K "__init__" "Book.__init__" s_Book_init f_Book_init d_Book_init
  b_Book_init : Binds K d_Book_init ["self", "leaves"] []
  g_Book_init : PySem.W.findIn K (.ref C_Book) "__init__" = some (some (.ref f_Book_init))
  f_Book_iter : Addr
  d_Book_iter : FuncData
  F_Book_iter : Fun K "__iter__" "Book.__iter__" s_Book_iter f_Book_iter d_Book_iter
  b_Book_iter : Binds K d_Book_iter ["self"] []
  g_Book_iter : PySem.W.findIn K (.ref C_Book) "__iter__" = some (some (.ref f_Book_iter))
  f_judged_leaves : Addr
  d_judged_leaves : FuncData
  F_judged_leaves : Fun K "_judged_leaves" "_judged_leaves" s_judged_leaves f_judged_leaves d_judged_leaves
  b_judged_leaves : Binds K d_judged_leaves ["leaves"] []
  g_judged_leaves : mg "_judged_leaves" = some (.ref f_judged_leaves)
  f_source : Addr
  d_source : FuncData
  F_source : Fun K "_law_source" "_law_source" s_source f_source d_source
  b_source : Binds K d_source ["_law_script", "_law_k"] []
  g_source : mg "_law_source" = some (.ref f_source)
  f_pick : Addr
  d_pick : FuncData
  F_pick : Fun K "_law_pick" "_law_pick" s_pick f_pick d_pick
  b_pick : Binds K d_pick ["_law_source_here", "_law_many"] []
  g_pick : mg "_law_pick" = some (.ref f_pick)
  f_law_is_integer : Addr
  d_law_is_integer : FuncData
  F_law_is_integer : Fun K "_law_is_integer" "_law_is_integer" s_law_is_integer f_law_is_integer d_law_is_integer
  b_law_is_integer : Binds K d_law_is_integer ["_law_actual"] []
  g_law_is_integer : mg "_law_is_integer" = some (.ref f_law_is_integer)
  f_all_pages : Addr
  d_all_pages : FuncData
  F_all_pages : Fun K "_law_all_pages" "_law_all_pages" s_all_pages f_all_pages d_all_pages
  b_all_pages : Binds K d_all_pages ["_law_leaves_here"] []
  g_all_pages : mg "_law_all_pages" = some (.ref f_all_pages)
  f_told_pages : Addr
  d_told_pages : FuncData
  F_told_pages : Fun K "_law_told_pages" "_law_told_pages" s_told_pages f_told_pages d_told_pages
  b_told_pages : Binds K d_told_pages ["_law_leaves_here", "_law_pairs"] []
  g_told_pages : mg "_law_told_pages" = some (.ref f_told_pages)
  f_as_lists : Addr
  d_as_lists : FuncData
  F_as_lists : Fun K "_law_as_lists" "_law_as_lists" s_as_lists f_as_lists d_as_lists
  b_as_lists : Binds K d_as_lists ["_law_thing"] []
  g_as_lists : mg "_law_as_lists" = some (.ref f_as_lists)
  f_label : Addr
  d_label : FuncData
  F_label : Fun K "_law_label" "_law_label" s_label f_label d_label
  b_label : Binds K d_label ["_law_source_here", "_law_most"] []
  g_label : mg "_law_label" = some (.ref f_label)
  f_labels : Addr
  d_labels : FuncData
  F_labels : Fun K "_law_labels" "_law_labels" s_labels f_labels d_labels
  b_labels : Binds K d_labels ["_law_source_here"] []
  g_labels : mg "_law_labels" = some (.ref f_labels)
  f_side : Addr
  d_side : FuncData
  F_side : Fun K "_law_side" "_law_side" s_side f_side d_side
  b_side : Binds K d_side ["_law_source_here"] []
  g_side : mg "_law_side" = some (.ref f_side)
  f_leaves : Addr
  d_leaves : FuncData
  F_leaves : Fun K "_law_leaves" "_law_leaves" s_leaves f_leaves d_leaves
  b_leaves : Binds K d_leaves ["_law_source_here"] []
  g_leaves : mg "_law_leaves" = some (.ref f_leaves)
  f_changed : Addr
  d_changed : FuncData
  F_changed : Fun K "_law_changed" "_law_changed" s_changed f_changed d_changed
  b_changed : Binds K d_changed ["_law_source_here", "_law_leaves_here"] []
  g_changed : mg "_law_changed" = some (.ref f_changed)
  f_made : Addr
  d_made : FuncData
  F_made : Fun K "_law_made" "_law_made" s_made f_made d_made
  b_made : Binds K d_made ["_law_leaves_here"] []
  g_made : mg "_law_made" = some (.ref f_made)
  f_with_rows : Addr
  d_with_rows : FuncData
  F_with_rows : Fun K "_law_with_rows" "_law_with_rows" s_with_rows f_with_rows d_with_rows
  b_with_rows : Binds K d_with_rows ["_law_leaves_here"] []
  g_with_rows : mg "_law_with_rows" = some (.ref f_with_rows)
  f_stranger : Addr
  d_stranger : FuncData
  F_stranger : Fun K "_law_stranger" "_law_stranger" s_stranger f_stranger d_stranger
  b_stranger : Binds K d_stranger ["_law_leaves_here"] []
  g_stranger : mg "_law_stranger" = some (.ref f_stranger)
  f_truths : Addr
  d_truths : FuncData
  F_truths : Fun K "_law_truths" "_law_truths" s_truths f_truths d_truths
  b_truths : Binds K d_truths ["_law_label_here"] []
  g_truths : mg "_law_truths" = some (.ref f_truths)
  f_bad_pages : Addr
  d_bad_pages : FuncData
  F_bad_pages : Fun K "_law_bad_pages" "_law_bad_pages" s_bad_pages f_bad_pages d_bad_pages
  b_bad_pages : Binds K d_bad_pages ["_law_source_here", "_law_leaves_here", "_law_pages"] []
  g_bad_pages : mg "_law_bad_pages" = some (.ref f_bad_pages)
  f_refused : Addr
  d_refused : FuncData
  F_refused : Fun K "_law_refused" "_law_refused" s_refused f_refused d_refused
  b_refused : Binds K d_refused ["_law_book", "_law_pages"] []
  g_refused : mg "_law_refused" = some (.ref f_refused)
  f_is_page : Addr
  d_is_page : FuncData
  F_is_page : Fun K "_law_is_page" "_law_is_page" s_is_page f_is_page d_is_page
  b_is_page : Binds K d_is_page ["_law_thing"] []
  g_is_page : mg "_law_is_page" = some (.ref f_is_page)
  f_walked : Addr
  d_walked : FuncData
  F_walked : Fun K "_law_walked" "_law_walked" s_walked f_walked d_walked
  b_walked : Binds K d_walked ["_law_leaves_here", "_law_pages", "_law_told"] []
  g_walked : mg "_law_walked" = some (.ref f_walked)
  f_masks : Addr
  d_masks : FuncData
  F_masks : Fun K "_law_masks" "_law_masks" s_masks f_masks d_masks
  b_masks : Binds K d_masks ["_law_leaves_here", "_law_pages"] []
  g_masks : mg "_law_masks" = some (.ref f_masks)
  f_fewer_tell : Addr
  d_fewer_tell : FuncData
  F_fewer_tell : Fun K "_law_fewer_tell" "_law_fewer_tell" s_fewer_tell f_fewer_tell d_fewer_tell
  b_fewer_tell : Binds K d_fewer_tell ["_law_leaves_here", "_law_pages", "_law_many"] []
  g_fewer_tell : mg "_law_fewer_tell" = some (.ref f_fewer_tell)
  f_law : Addr
  d_law : FuncData
  F_law : Fun K "law" "law" s_law f_law d_law
  b_law : Binds K d_law ["_law_script"] []
  g_law : mg "law" = some (.ref f_law)
  cg_Book : mg "Book" = some (.ref C_Book)
  cg_Leaf : mg "Leaf" = some (.ref C_Leaf)
  cg_AfterError : mg "AfterError" = some (.ref C_AfterError)
  cg_BadForm : mg "BadForm" = some (.ref C_BadForm)
  cg_NotThere : mg "NotThere" = some (.ref C_NotThere)
  cg_BadPages : mg "BadPages" = some (.ref C_BadPages)
  x_BadPages : PySem.W.excIn K C_BadPages [.type "ValueError", .type "Exception", .type "BaseException", .type "object"] "ValueError.__new__" = true
  k_BadPages : PySem.W.keepIn K (.ref C_BadPages) = true
  t_BadPages : PySem.W.typeIn K (.ref C_BadPages) = some (.type "type")
  hg_BadPages : PySem.W.findIn K (.ref C_BadPages) "__getattribute__" = some (some (.builtin "BaseException.__getattribute__"))
  hk_BadPages : PySem.W.findIn K (.ref C_BadPages) "__getattr__" = some none
  hs_BadPages : PySem.W.subIn K (.ref C_BadPages) (.type "BaseException") = some true
  hd_BadPages : PySem.W.hasDictIn K C_BadPages = true
  ha_BadPages : PySem.W.findIn K (.ref C_BadPages) "__class__" = some (some (.builtin "object.__class__"))
  hn_BadPages : PySem.W.specialIn K (.builtin "object.__class__") "__get__" = some (some (.builtin "getset_descriptor.__get__"))
  ht_BadPages : PySem.W.takesIn K (.builtin "object.__class__") = some true
  hm_BadPages : PySem.W.mroIn K C_BadPages (.type "object") = some true
  cl_Leaf : Cls K C_Leaf
  ms_Leaf : PySem.W.makesIn K C_Leaf = true
  kc_Leaf : PySem.W.keepIn K (.ref C_Leaf) = true
  ca_Leaf : PySem.W.findIn K (.ref C_Leaf) "__class__" = some (some (.builtin "object.__class__"))
  cn_Leaf : PySem.W.specialIn K (.builtin "object.__class__") "__get__" = some (some (.builtin "getset_descriptor.__get__"))
  ct_Leaf : PySem.W.takesIn K (.builtin "object.__class__") = some true
  cm_Leaf : PySem.W.mroIn K C_Leaf (.type "object") = some true
  ic_Leaf : PySem.W.isClsIn K C_Leaf = true
  tc_Leaf : PySem.W.typeIn K (.ref C_Leaf) = some (.type "type")
  na_Leaf_label : NoAttr K C_Leaf "label"
  na_Leaf_front : NoAttr K C_Leaf "front"
  na_Leaf_back : NoAttr K C_Leaf "back"
  na_Leaf_pen : NoAttr K C_Leaf "pen"
  na_Leaf__strokes : NoAttr K C_Leaf "_strokes"
  cl_Book : Cls K C_Book
  ms_Book : PySem.W.makesIn K C_Book = true
  kc_Book : PySem.W.keepIn K (.ref C_Book) = true
  ca_Book : PySem.W.findIn K (.ref C_Book) "__class__" = some (some (.builtin "object.__class__"))
  cn_Book : PySem.W.specialIn K (.builtin "object.__class__") "__get__" = some (some (.builtin "getset_descriptor.__get__"))
  ct_Book : PySem.W.takesIn K (.builtin "object.__class__") = some true
  cm_Book : PySem.W.mroIn K C_Book (.type "object") = some true
  ic_Book : PySem.W.isClsIn K C_Book = true
  tc_Book : PySem.W.typeIn K (.ref C_Book) = some (.type "type")
  na_Book_leaves : NoAttr K C_Book "leaves"
  na_Book__spots : NoAttr K C_Book "_spots"
  fn_Leaf_init : PySem.W.isFn K (.ref f_Leaf_init) = true
  fn_Leaf_side_rows : PySem.W.isFn K (.ref f_Leaf_side_rows) = true
  fn_Book_init : PySem.W.isFn K (.ref f_Book_init) = true
  fn_Book_iter : PySem.W.isFn K (.ref f_Book_iter) = true
  q_BadPages_AfterError : PySem.W.kitOne K (.ref C_BadPages) (.ref C_AfterError) = some true
  q_BadPages_BadForm : PySem.W.kitOne K (.ref C_BadPages) (.ref C_BadForm) = some true
  q_BadPages_NotThere : PySem.W.kitOne K (.ref C_BadPages) (.ref C_NotThere) = some false
  e_BadPages_BadPages : PySem.W.exmOne K (.ref C_BadPages) (.ref C_BadPages) = some true
  t_LONGEST_ROW : Tok
  c_LONGEST_ROW : mg "LONGEST_ROW" = some (.int 120 t_LONGEST_ROW)
  t_MOST_LEAVES : Tok
  c_MOST_LEAVES : mg "MOST_LEAVES" = some (.int 60 t_MOST_LEAVES)
  t_MOST_PARTS : Tok
  c_MOST_PARTS : mg "MOST_PARTS" = some (.int 3 t_MOST_PARTS)
  t_MOST_ROWS : Tok
  c_MOST_ROWS : mg "MOST_ROWS" = some (.int 12 t_MOST_ROWS)
  t_MOST_SIGNS : Tok
  c_MOST_SIGNS : mg "MOST_SIGNS" = some (.int 20 t_MOST_SIGNS)
  t_MOST_TOKENS : Tok
  c_MOST_TOKENS : mg "MOST_TOKENS" = some (.int 30 t_MOST_TOKENS)
  m_abs : mg "abs" = none
  m_all : mg "all" = none
  m_bool : mg "bool" = none
  m_enumerate : mg "enumerate" = none
  m_int : mg "int" = none
  m_isinstance : mg "isinstance" = none
  m_iter : mg "iter" = none
  m_len : mg "len" = none
  m_list : mg "list" = none
  m_max : mg "max" = none
  m_min : mg "min" = none
  m_range : mg "range" = none
  m_sorted : mg "sorted" = none
  m_str : mg "str" = none
  m_sum : mg "sum" = none
  m_tuple : mg "tuple" = none
  m_zip : mg "zip" = none
/-! ### heaps and sources -/
theorem un2 {k : Nat} {A : Around} (r : Room k A) : A.units + 65 < cLine := by have := r.un; omega
theorem same_upd {H : Hp} {p : Addr} {o : HO} (h : H p = none) : Same H (upd H p o) := fun b x e => by
  rw [upd_ne (ne_of_none e h)]
  exact e
/-- all but a stand as they stood -/
def But (a : Addr) (H H' : Hp) : Prop := ∀ b o, b ≠ a → H b = some o → H' b = some o
theorem But.refl (a : Addr) (H : Hp) : But a H H := fun _ _ _ e => e
theorem But.trans {a : Addr} {H H1 H2 : Hp} (x : But a H H1) (y : But a H1 H2) : But a H H2 := fun b o n e => y b o n (x b o n e)
theorem But.of {a : Addr} {H H1 : Hp} (x : Same H H1) : But a H H1 := fun b o _ e => x b o e
theorem But.upd {a : Addr} {H : Hp} (o : HO) : But a H (upd H a o) := fun b u n e => by
  rw [upd_ne n]
  exact e
/-- what changes is not there at first -/
theorem But.same {a : Addr} {H0 H H' : Hp} (n : H0 a = none) (s : Same H0 H) (x : But a H H') : Same H0 H' := fun b o e => x b o (ne_of_none e n) (s b o e)
/-- a source of numbers: three ints -/
def Src (H : Hp) (a : Addr) : Prop := ∃ g x c : Int, H a = some (.lst [.int g, .int x, .int c])
theorem cut_map (ns : List Int) (lo hi : Option Int) : ∃ ms : List Int, cutV (ns.map V.int) lo hi = ms.map V.int := by
  unfold cutV
  exact ⟨_, by rw [← List.map_drop, ← List.map_take]⟩
theorem at_of' {α : Type} {xs : List α} {z : Int} {j : Nat} {v : α} (e : z = (j : Int)) (h : xs[j]? = some v) : atI xs z = some v := by
  subst e
  exact atI_nat h
theorem str_len_snoc (z : Str) (c : Nat) : (z ++ (⟨#[c]⟩ : Str)).length = z.length + 1 := by
  show (z.cps ++ #[c]).size = z.cps.size + 1
  rw [Array.size_append]
  rfl
theorem But.none {a D : Addr} {H H3 : Hp} (x : But a H H3) (n : H3 D = .none) (h : D ≠ a) : H D = .none := by
  cases e : H D with
  | none => rfl
  | some o =>
    rw [x D o h e] at n
    cases n
theorem But.put {a D : Addr} {H H' : Hp} (x : But a H H') (n : H D = .none) (o : HO) : But a H (L2.upd H' D o) := fun b u nb e => by
  rw [upd_ne (ne_of_none e n)]
  exact x b u nb e
theorem Src.put {a D : Addr} {H : Hp} (x : Src H a) (n : a ≠ D) (o : HO) : Src (upd H D o) a := by
  obtain ⟨g, y, c, e⟩ := x
  exact ⟨g, y, c, by rw [upd_ne n]; exact e⟩
theorem Src.ne {a D : Addr} {H : Hp} (x : Src H a) (n : H D = .none) : a ≠ D := by
  obtain ⟨g, y, c, e⟩ := x
  exact ne_of_none e n
theorem get_map {xs : List Str} {i : Nat} {x : V} (h : (xs.map V.str)[i]? = some x) : ∃ z, x = .str z ∧ xs[i]? = some z := by
  rw [List.getElem?_map] at h
  cases e : xs[i]? with
  | none => rw [e] at h; cases h
  | some z => rw [e] at h; exact ⟨z, (Option.some.inj h).symm, rfl⟩
theorem get_mapR {xs : List Addr} {i : Nat} {x : V} (h : (xs.map V.ref)[i]? = some x) : ∃ z, x = .ref z ∧ z ∈ xs := by
  rw [List.getElem?_map] at h
  cases e : xs[i]? with
  | none => rw [e] at h; cases h
  | some z => rw [e] at h; exact ⟨z, (Option.some.inj h).symm, List.mem_of_getElem? e⟩
section
variable {X : Cx} {tg e : Expr} {w1 w2 : TI}
theorem pi_or (a : PI X tg e w1) (b : PI X tg e w2) : PI X tg e (fun σ H R => w1 σ H R ∨ w2 σ H R) :=
  ⟨fun pins s σ H R I h => h.elim (fun h => a.run pins s σ H R I h) (fun h => b.run pins s σ H R I h)⟩
theorem op_rep_str : OpR X (binaryOp .Mult) (fun x y H Q => ∃ z n, x = .str z ∧ y = .int n ∧ PySem.MulOk z n ∧ Q (.str (Txt.mul z n)) H) := by
  intro pins s σ H x y v u Q I rx ry h
  obtain ⟨z, n, rfl, rfl, hm, q⟩ := h
  obtain ⟨t, rfl⟩ := rx
  obtain ⟨t', rfl⟩ := ry
  exact PySem.SB.mul hm (fun t' tk => ⟨.str _, H, I.tok _, ⟨_, rfl⟩, q⟩)
end
theorem eq_strs {K : PySem.W.Frag} {H : Hp} : ∀ zs : List Str, Paired (EqV K H 1) (zs.map V.str) (zs.map V.str)
  | [] => .nil
  | z :: r => .cons (.inl ⟨rfl, rfl⟩) (eq_strs r)
theorem same_seqT {K : PySem.W.Frag} {H H' : Hp} {a : Addr} {xs : List V} (e : Same H H') (h : SqT K H a xs) : SqT K H' a xs :=
  h.elim (fun r => .inl (r.elim (fun e1 => .inl (e _ _ e1)) (fun ⟨o, e1⟩ => .inr ⟨o, e _ _ e1⟩))) .inr
theorem same_sq {K : PySem.W.Frag} {H H' : Hp} {a : Addr} {xs : List V} (e : Same H H') (h : SqL K H a xs ∨ SqT K H a xs) : SqL K H' a xs ∨ SqT K H' a xs :=
  h.elim (fun h => .inl (e.seq h)) (fun h => .inr (same_seqT e h))
theorem same_put {H H' : Hp} {b : Addr} (x : Same H H') (n : H b = .none) (o : HO) : Same H (upd H' b o) := fun c u e => by
  rw [upd_ne (ne_of_none e n)]
  exact x c u e
/-! ### == of rows of texts and of numbers -/
theorem dp_strs {K : PySem.W.Frag} {H : Hp} : ∀ zs : List Str, DpAll K H (zs.map V.str) (zs.map PyData.str)
  | [] => .nil
  | z :: r => .cons (.str z) (dp_strs r)
theorem dp_ints {K : PySem.W.Frag} {H : Hp} : ∀ zs : List Int, DpAll K H (zs.map V.int) (zs.map PyData.int)
  | [] => .nil
  | z :: r => .cons (.int z) (dp_ints r)
theorem can_strs : ∀ zs : List Str, (∀ z ∈ zs, PyData.strOk z = true) → PyData.canLayAll0 (zs.map PyData.str) = true
  | [], _ => rfl
  | z :: r, h => by
    show (PyData.strOk z && PyData.canLayAll0 (r.map PyData.str)) = true
    rw [can_strs r fun y hy => h y (List.mem_cons_of_mem _ hy), Bool.and_true]
    exact h z (List.mem_cons_self ..)
theorem can_ints : ∀ zs : List Int, PyData.canLayAll0 (zs.map PyData.int) = true
  | [] => rfl
  | z :: r => by
    show (true && PyData.canLayAll0 (r.map PyData.int)) = true
    rw [can_ints r]
    rfl
theorem depth_strs : ∀ zs : List Str, PyData.depthAll (zs.map PyData.str) = 0
  | [] => rfl
  | z :: r => by
    show max 0 (PyData.depthAll (r.map PyData.str)) = 0
    rw [depth_strs r]
    rfl
theorem depth_ints : ∀ zs : List Int, PyData.depthAll (zs.map PyData.int) = 0
  | [] => rfl
  | z :: r => by
    show max 0 (PyData.depthAll (r.map PyData.int)) = 0
    rw [depth_ints r]
    rfl
theorem shaped_l (zs : List Str) (h : ∀ z ∈ zs, PyData.strOk z = true) : SeqAt.shaped (.list (zs.map PyData.str)) = true := by
  unfold SeqAt.shaped
  rw [Bool.and_eq_true]
  refine ⟨can_strs zs h, decide_eq_true ?_⟩
  show PyData.depthAll (zs.map PyData.str) + 1 ≤ 64
  rw [depth_strs]
  decide
theorem shaped_t (zs : List Str) (h : ∀ z ∈ zs, PyData.strOk z = true) : SeqAt.shaped (.tuple (zs.map PyData.str)) = true := by
  unfold SeqAt.shaped
  rw [Bool.and_eq_true]
  refine ⟨can_strs zs h, decide_eq_true ?_⟩
  show PyData.depthAll (zs.map PyData.str) + 1 ≤ 64
  rw [depth_strs]
  decide
theorem shaped_il (zs : List Int) : SeqAt.shaped (.list (zs.map PyData.int)) = true := by
  unfold SeqAt.shaped
  rw [Bool.and_eq_true]
  refine ⟨can_ints zs, decide_eq_true ?_⟩
  show PyData.depthAll (zs.map PyData.int) + 1 ≤ 64
  rw [depth_ints]
  decide
theorem shaped_it (zs : List Int) : SeqAt.shaped (.tuple (zs.map PyData.int)) = true := by
  unfold SeqAt.shaped
  rw [Bool.and_eq_true]
  refine ⟨can_ints zs, decide_eq_true ?_⟩
  show PyData.depthAll (zs.map PyData.int) + 1 ≤ 64
  rw [depth_ints]
  decide
theorem eqv_strs : ∀ xs ys : List Str, PyData.eqvAll (xs.map PyData.str) (ys.map PyData.str) = decide (xs = ys)
  | [], [] => rfl
  | [], y :: s => rfl
  | x :: r, [] => rfl
  | x :: r, y :: s => by
    show ((x == y) && PyData.eqvAll (r.map PyData.str) (s.map PyData.str)) = decide (x :: r = y :: s)
    rw [eqv_strs r s]
    by_cases h : x = y
    · subst h
      simp
    · simp [h]
theorem eqv_ints : ∀ xs ys : List Int, PyData.eqvAll (xs.map PyData.int) (ys.map PyData.int) = decide (xs = ys)
  | [], [] => rfl
  | [], y :: s => rfl
  | x :: r, [] => rfl
  | x :: r, y :: s => by
    show ((x == y) && PyData.eqvAll (r.map PyData.int) (s.map PyData.int)) = decide (x :: r = y :: s)
    rw [eqv_ints r s]
    by_cases h : x = y
    · subst h
      simp
    · simp [h]
theorem ok_app (a b : Str) (ha : PyData.strOk a = true) (hb : PyData.strOk b = true) : PyData.strOk (a ++ b) = true := by
  show (a.cps ++ b.cps).all (· < 0x110000) = true
  rw [Array.all_append]
  exact Bool.and_eq_true_iff.mpr ⟨ha, hb⟩
/-! ### labels, pages, ranges as words -/
def rdN : List Nat → Option Int
  | [a] => if 48 ≤ a ∧ a ≤ 57 then some ((a : Int) - 48) else none
  | [a, b] => if (48 < a ∧ a ≤ 57) ∧ (48 ≤ b ∧ b ≤ 57) then some (((a : Int) - 48) * 10 + ((b : Int) - 48)) else none
  | _ => none
def rdI (z : Str) : Option Int := rdN z.cps.toList
def allSome : List (Option Int) → Option (List Int)
  | [] => some []
  | none :: _ => none
  | some i :: r => match allSome r with | some L => some (i :: L) | none => none
def keep (os : List (Option Int)) : Option (List Int) :=
  match allSome os with
  | some L => if L.length ≤ 3 ∧ L.getLastD 0 ≠ 0 then some L else none
  | none => none
def rdL (z : Str) : Option (List Int) := keep ((Txt.split z ".").map rdI)
abbrev Pg := List Int × Int
def rdP (z : Str) : Option Pg :=
  match z.cps.toList.getLast? with
  | some c => if c = 97 ∨ c = 98 then (match rdL (cutS z none (some (-1))) with | some L => some (L, (c : Int) - 97) | none => none) else none
  | none => none
def rdR (z : Str) : Option (Pg × Pg) :=
  match (Txt.split z "-").map rdP with
  | [some p] => some (p, p)
  | [some p, some q] => some (p, q)
  | _ => none
def rdR2 : List (Option Pg) → Option (Pg × Pg)
  | [some p] => some (p, p)
  | [some p, some q] => some (p, q)
  | _ => none
theorem rdR_eq (z : Str) : rdR z = rdR2 ((Txt.split z "-").map rdP) := by
  unfold rdR
  generalize (Txt.split z "-").map rdP = ps
  match ps with
  | [] => rfl
  | [none] => rfl
  | [some p] => rfl
  | [none, b] => rfl
  | [some p, none] => rfl
  | [some p, some q] => rfl
  | none :: b :: c :: r => rfl
  | some a :: none :: c :: r => rfl
  | some a :: some b :: c :: r => rfl
def okL (L : List Int) : Prop := L.length ≤ 3 ∧ L.getLastD 0 ≠ 0 ∧ ∀ i ∈ L, 0 ≤ i ∧ i ≤ 99
def okP (p : Pg) : Prop := okL p.1 ∧ (p.2 = 0 ∨ p.2 = 1)
def fL (L : List Int) : Str := Txt.join "." (L.map fun i => (toString i : Str))
def fP (p : Pg) : Str := fL p.1 ++ (if p.2 = 0 then ("a" : Str) else "b")
def fR (p q : Pg) : Str := if fP p = fP q then fP p else fP p ++ "-" ++ fP q
def dL (L : List Int) : PyData := .tuple (L.map PyData.int)
def dP (p : Pg) : PyData := .tuple [dL p.1, .int p.2]
def dR (r : Pg × Pg) : PyData := .tuple [dP r.1, dP r.2]
def oD {α : Type} (f : α → PyData) : Option α → PyData
  | none => .none
  | some x => f x
def optI : Option Int → V
  | none => .non
  | some i => .int i
theorem num_all : ((List.range 100).all fun i => decide (((toString (i : Int) : Str)).length ≤ 2) && decide (1 ≤ ((toString (i : Int) : Str)).length) && ((toString (i : Int) : Str)).cps.toList.all (fun c => decide (48 ≤ c ∧ c ≤ 57)) && decide (rdI (toString (i : Int)) = some (i : Int))) = true := by decide +kernel
theorem num_ok {i : Int} (h0 : 0 ≤ i) (h1 : i ≤ 99) : ((toString i : Str)).length ≤ 2 ∧ 1 ≤ ((toString i : Str)).length ∧ (∀ c ∈ ((toString i : Str)).cps.toList, 48 ≤ c ∧ c ≤ 57) ∧ rdI (toString i) = some i := by
  have h := List.all_eq_true.mp num_all i.toNat (List.mem_range.mpr (by omega))
  rw [Int.toNat_of_nonneg h0] at h
  simp only [Bool.and_eq_true, decide_eq_true_eq, List.all_eq_true] at h
  exact ⟨h.1.1.1, h.1.1.2, h.1.2, h.2⟩
theorem int_all : ((List.range 10).all fun i => decide (PySem.intText? (⟨#[48 + i]⟩ : Str) = some (i : Int)) && (List.range 10).all fun j => decide (PySem.intText? (⟨#[48 + i, 48 + j]⟩ : Str) = some ((i : Int) * 10 + (j : Int)))) = true := by decide +kernel
theorem int1 {a : Nat} (h : 48 ≤ a ∧ a ≤ 57) : PySem.intText? (⟨#[a]⟩ : Str) = some ((a : Int) - 48) := by
  have h1 := List.all_eq_true.mp int_all (a - 48) (List.mem_range.mpr (by omega))
  simp only [Bool.and_eq_true, decide_eq_true_eq] at h1
  have h2 := h1.1
  rw [show 48 + (a - 48) = a by omega] at h2
  rw [h2]
  congr 1
  omega
theorem int2 {a b : Nat} (h : 48 ≤ a ∧ a ≤ 57) (hb : 48 ≤ b ∧ b ≤ 57) : PySem.intText? (⟨#[a, b]⟩ : Str) = some (((a : Int) - 48) * 10 + ((b : Int) - 48)) := by
  have h1 := List.all_eq_true.mp int_all (a - 48) (List.mem_range.mpr (by omega))
  simp only [Bool.and_eq_true, decide_eq_true_eq] at h1
  have h2 := List.all_eq_true.mp h1.2 (b - 48) (List.mem_range.mpr (by omega))
  simp only [decide_eq_true_eq] at h2
  rw [show 48 + (a - 48) = a by omega, show 48 + (b - 48) = b by omega] at h2
  rw [h2]
  congr 1
  omega
theorem rd_bound {z : Str} {i : Int} (h : rdI z = some i) : 0 ≤ i ∧ i ≤ 99 := by
  unfold rdI at h
  match e : z.cps.toList with
  | [] => rw [e] at h; cases h
  | [a] =>
    rw [e] at h
    simp only [rdN] at h
    split at h
    · injection h with h; omega
    · cases h
  | [a, b] =>
    rw [e] at h
    simp only [rdN] at h
    split at h
    · injection h with h; omega
    · cases h
  | a :: b :: c :: r => rw [e] at h; cases h
theorem allSome_map (L : List Int) : allSome (L.map some) = some L := by
  induction L with
  | nil => rfl
  | cons i r ih => rw [List.map_cons]; unfold allSome; rw [ih]
theorem keep_ok {L : List Int} (h : okL L) : keep (L.map some) = some L := by
  unfold keep
  rw [allSome_map]
  simp only
  rw [if_pos ⟨h.1, h.2.1⟩]
theorem okL_ne {L : List Int} (h : okL L) : L ≠ [] := fun e => by
  subst e
  exact h.2.1 rfl
theorem rdL_fL {L : List Int} (h : okL L) : rdL (fL L) = some L := by
  unfold rdL fL
  rw [TL.split_join (s := 46) (S := []) (by rfl) (by decide +kernel) (fun e => okL_ne h (List.map_eq_nil_iff.mp e)) fun p hp => ?_]
  · rw [List.map_map]
    have e : L.map (rdI ∘ fun i => (toString i : Str)) = L.map some := List.map_congr_left fun i hi => (num_ok (h.2.2 i hi).1 (h.2.2 i hi).2).2.2.2
    rw [e, keep_ok h]
  · obtain ⟨i, hi, rfl⟩ := List.mem_map.mp hp
    intro hc
    have := (num_ok (h.2.2 i hi).1 (h.2.2 i hi).2).2.2.1 46 hc
    omega
theorem cut_m1 (z : Str) (c : Nat) : cutS (z ++ (⟨#[c]⟩ : Str)) none (some (-1)) = z := by
  unfold cutS
  have e : (z ++ (⟨#[c]⟩ : Str)).cps.toList = z.cps.toList ++ [c] := cps_toList_append z _
  have l : (z ++ (⟨#[c]⟩ : Str)).length = z.length + 1 := str_len_snoc z c
  rw [e, HT.sIx_none, List.drop_zero, l]
  rw [show HT.sIx (z.length + 1) (z.length + 1) (some (-1)) = z.length by
    show ((-1 : Int) + ((z.length + 1 : Nat) : Int)).toNat = z.length
    omega]
  rw [Nat.sub_zero, List.take_left' (show z.cps.toList.length = z.length from rfl)]
theorem rdP_fP {p : Pg} (h : okP p) : rdP (fP p) = some p := by
  obtain ⟨L, s⟩ := p
  obtain ⟨hL, hs⟩ := h
  have key : ∀ c : Nat, rdP (fL L ++ (⟨#[c]⟩ : Str)) = if c = 97 ∨ c = 98 then some (L, (c : Int) - 97) else none := fun c => by
    unfold rdP
    rw [show (fL L ++ (⟨#[c]⟩ : Str)).cps.toList = (fL L).cps.toList ++ [c] from cps_toList_append _ _, List.getLast?_append, cut_m1, rdL_fL hL]
    rfl
  rcases hs with rfl | rfl
  · exact key 97
  · exact key 98
theorem fP_inj {p q : Pg} (hp : okP p) (hq : okP q) (e : fP p = fP q) : p = q := by
  have h := rdP_fP hp
  rw [e, rdP_fP hq] at h
  exact (Option.some.inj h).symm
theorem fL_free {L : List Int} (h : okL L) : ∀ c ∈ (fL L).cps.toList, c ≠ 45 := by
  intro c hc e
  subst e
  unfold fL at hc
  rw [TL.join_eq] at hc
  rcases (mem_join _ _ _).mp hc with ⟨t, ht, h1⟩ | ⟨_, h1⟩
  · obtain ⟨i, hi, rfl⟩ := List.mem_map.mp ht
    have := (num_ok (h.2.2 i hi).1 (h.2.2 i hi).2).2.2.1 45 h1
    omega
  · revert h1
    decide +kernel
theorem fP_free {p : Pg} (h : okP p) : 45 ∉ TL.tl (fP p) := by
  intro hc
  have hc2 : 45 ∈ (fP p).cps.toList := hc
  unfold fP at hc2
  rw [cps_toList_append] at hc2
  rcases List.mem_append.mp hc2 with h1 | h1
  · exact fL_free h.1 45 h1 rfl
  · split at h1 <;> (revert h1; decide +kernel)
theorem rdR_two {p q : Pg} (hp : okP p) (hq : okP q) : rdR (fP p ++ "-" ++ fP q) = some (p, q) := by
  unfold rdR
  have e : fP p ++ "-" ++ fP q = Txt.join "-" [fP p, fP q] := by rw [TL.join_eq]; rfl
  rw [e, TL.split_join (s := 45) (S := []) (by rfl) (by decide +kernel) (by simp) fun z hz => ?_]
  · simp only [List.map_cons, List.map_nil, rdP_fP hp, rdP_fP hq]
  · rcases List.mem_cons.mp hz with h | h
    · rw [h]; exact fP_free hp
    · rw [List.mem_singleton.mp h]; exact fP_free hq
theorem rdR_one {p : Pg} (hp : okP p) : rdR (fP p) = some (p, p) := by
  unfold rdR
  have e : fP p = Txt.join "-" [fP p] := by rw [TL.join_eq]; rfl
  rw [e, TL.split_join (s := 45) (S := []) (by rfl) (by decide +kernel) (by simp) fun z hz => ?_]
  · simp only [List.map_cons, List.map_nil]
    rw [rdP_fP hp]
  · rw [List.mem_singleton.mp hz]; exact fP_free hp
theorem rdR_fR {p q : Pg} (hp : okP p) (hq : okP q) : rdR (fR p q) = some (p, q) := by
  unfold fR
  split
  · rename_i e
    rw [← fP_inj hp hq e]
    exact rdR_one hp
  · exact rdR_two hp hq
theorem fL_len {L : List Int} (h : okL L) : (fL L).length ≤ 8 ∧ 1 ≤ (fL L).length := by
  have hn := okL_ne h
  have l1 : ("." : Str).length = 1 := by decide +kernel
  have ap : ∀ x y : Str, (x ++ y).length = x.length + y.length := fun x y => by
    show (x.cps ++ y.cps).size = _
    rw [Array.size_append]; rfl
  have nn := fun i hi => num_ok (h.2.2 i hi).1 (h.2.2 i hi).2
  unfold fL
  rw [TL.join_eq]
  match L, h, hn, nn with
  | [a], _, _, nn =>
    have := nn a (List.mem_singleton.mpr rfl)
    show ((toString a : Str)).length ≤ 8 ∧ 1 ≤ ((toString a : Str)).length
    omega
  | [a, b], _, _, nn =>
    have h1 := nn a (by simp)
    have h2 := nn b (by simp)
    show ((toString a : Str) ++ "." ++ (toString b : Str)).length ≤ 8 ∧ 1 ≤ ((toString a : Str) ++ "." ++ (toString b : Str)).length
    rw [ap, ap, l1]
    omega
  | [a, b, c], _, _, nn =>
    have h1 := nn a (by simp)
    have h2 := nn b (by simp)
    have h3 := nn c (by simp)
    show ((toString a : Str) ++ "." ++ ((toString b : Str) ++ "." ++ (toString c : Str))).length ≤ 8 ∧ 1 ≤ ((toString a : Str) ++ "." ++ ((toString b : Str) ++ "." ++ (toString c : Str))).length
    rw [ap, ap, ap, ap, l1]
    omega
  | a :: b :: c :: d :: r, h, _, _ => have := h.1; simp only [List.length_cons] at this; omega
theorem fP_len {p : Pg} (h : okP p) : (fP p).length ≤ 9 ∧ 2 ≤ (fP p).length := by
  have h1 := fL_len h.1
  have ap : ∀ x y : Str, (x ++ y).length = x.length + y.length := fun x y => by
    show (x.cps ++ y.cps).size = _
    rw [Array.size_append]; rfl
  unfold fP
  rw [ap]
  have : (if p.2 = 0 then ("a" : Str) else "b").length = 1 := by split <;> decide +kernel
  omega
/-! ### data in the heap -/
def Seq (K : PySem.W.Frag) (H : Hp) (a : Addr) (xs : List V) : Prop := SqL K H a xs ∨ SqT K H a xs
def PageAt (K : PySem.W.Frag) (H : Hp) (v : V) (p : Pg) : Prop := ∃ a l : Addr, v = .ref a ∧ Seq K H a [.ref l, .int p.2] ∧ Seq K H l (p.1.map V.int)
theorem ty_L {K : PySem.W.Frag} {H : Hp} {a : Addr} {xs : List V} (h : SqL K H a xs) : TyX K H (.ref a) (.type "list") := by
  rcases h with (h | ⟨o, h⟩) | ⟨o, its, n, h, c, _⟩
  · exact .base (.lst h)
  · exact .base (.frz h)
  · exact .kList h c
theorem ty_T {K : PySem.W.Frag} {H : Hp} {a : Addr} {xs : List V} (h : SqT K H a xs) : TyX K H (.ref a) (.type "tuple") := by
  rcases h with (h | ⟨o, h⟩) | ⟨o, its, n, h, c, _⟩
  · exact .base (.tup h)
  · exact .fTuple h
  · exact .kTuple h c
theorem kit2_T {K : PySem.W.Frag} : PySem.W.kitAny K (.type "tuple") [.type "tuple", .type "list"] = some true :=
  kitAny_cons (kit_ty (r := true) (by decide +kernel)) (fun h => nomatch h) (fun _ => rfl)
theorem kit2_L {K : PySem.W.Frag} : PySem.W.kitAny K (.type "list") [.type "tuple", .type "list"] = some true :=
  kitAny_cons (kit_ty (r := false) (by decide +kernel)) (fun _ => kitAny_cons (kit_ty (r := true) (by decide +kernel)) (fun h => nomatch h) (fun _ => rfl)) (fun h => nomatch h)
mutual
theorem dp_same {K : PySem.W.Frag} {H H' : Hp} (e : Same H H') : ∀ {v : V} {d : PyData}, Dp K H v d → Dp K H' v d
  | _, _, .non => .non
  | _, _, .bl b => .bl b
  | _, _, .int i => .int i
  | _, _, .str x => .str x
  | _, _, .lst h a => .lst (e.seq h) (dpAll_same e a)
  | _, _, .tup h a => .tup (same_seqT e h) (dpAll_same e a)
theorem dpAll_same {K : PySem.W.Frag} {H H' : Hp} (e : Same H H') : ∀ {vs : List V} {ds : List PyData}, DpAll K H vs ds → DpAll K H' vs ds
  | _, _, .nil => .nil
  | _, _, .cons h a => .cons (dp_same e h) (dpAll_same e a)
end
theorem dpL {K : PySem.W.Frag} {H : Hp} {a : Addr} {L : List Int} (h : SqT K H a (L.map V.int)) : Dp K H (.ref a) (dL L) := .tup h (dp_ints L)
theorem dp_ints_inv {K : PySem.W.Frag} {H : Hp} : ∀ {L : List Int} {vs : List V}, DpAll K H vs (L.map PyData.int) → vs = L.map V.int
  | [], _, .nil => rfl
  | i :: r, _, .cons h a => by
    cases h
    rw [dp_ints_inv a]
    rfl
theorem dL_inv {K : PySem.W.Frag} {H : Hp} {v : V} {L : List Int} (h : Dp K H v (dL L)) : ∃ a, v = .ref a ∧ SqT K H a (L.map V.int) := by
  cases h with
  | tup h a =>
    rw [dp_ints_inv a] at h
    exact ⟨_, rfl, h⟩
theorem dP_inv {K : PySem.W.Frag} {H : Hp} {v : V} {p : Pg} (h : Dp K H v (dP p)) : ∃ a l, v = .ref a ∧ SqT K H a [.ref l, .int p.2] ∧ SqT K H l (p.1.map V.int) := by
  cases h with
  | tup h a =>
    cases a with
    | cons h1 a =>
      cases a with
      | cons h2 a =>
        cases a
        cases h2
        obtain ⟨l, rfl, hl⟩ := dL_inv h1
        exact ⟨_, l, rfl, h, hl⟩
theorem dR_inv {K : PySem.W.Frag} {H : Hp} {v : V} {r : Pg × Pg} (h : Dp K H v (dR r)) : ∃ a x y, v = .ref a ∧ SqT K H a [x, y] ∧ Dp K H x (dP r.1) ∧ Dp K H y (dP r.2) := by
  cases h with
  | tup h a =>
    cases a with
    | cons h1 a =>
      cases a with
      | cons h2 a =>
        cases a
        exact ⟨_, _, _, rfl, h, h1, h2⟩
theorem pageAt_of {K : PySem.W.Frag} {H : Hp} {v : V} {p : Pg} (h : Dp K H v (dP p)) : PageAt K H v p := by
  obtain ⟨a, l, rfl, h1, h2⟩ := dP_inv h
  exact ⟨a, l, rfl, .inr h1, .inr h2⟩
theorem pageAt_same {K : PySem.W.Frag} {H H' : Hp} (e : Same H H') {v : V} {p : Pg} (h : PageAt K H v p) : PageAt K H' v p := by
  obtain ⟨a, l, rfl, h1, h2⟩ := h
  exact ⟨a, l, rfl, same_sq e h1, same_sq e h2⟩
theorem dp_opt {K : PySem.W.Frag} {H : Hp} {v : V} {α : Type} {f : α → PyData} (h : Dp K H v (oD f none)) : v = .non := by
  cases h
  rfl
theorem log_small {n : Nat} (h : n ≤ 99) : n.log2 < 1920 := Nat.lt_of_le_of_lt (Nat.log2_le_self n) (by omega)
section
variable {X : Cx} {e : Expr} {t u : TG}
theorem pg_or (a : PG X e t) (b : PG X e u) : PG X e (fun v σ H Q => t v σ H Q ∨ u v σ H Q) :=
  ⟨fun pins s σ H v w Q I r h => h.elim (fun h => a.run pins s σ H v w Q I r h) (fun h => b.run pins s σ H v w Q I r h)⟩
end
def dg (c : Nat) : Bool := decide (48 ≤ c ∧ c ≤ 57)
theorem dig_in (c : Nat) : decide (c ∈ ("0123456789" : Str).cps.toList) = dg c := by
  have e : ("0123456789" : Str).cps.toList = [48, 49, 50, 51, 52, 53, 54, 55, 56, 57] := by decide +kernel
  unfold dg
  rw [e]
  apply decide_eq_decide.mpr
  simp only [List.mem_cons, List.not_mem_nil, or_false]
  omega
theorem str1 {z : Str} {a : Nat} (h : z.cps.toList = [a]) : z = ⟨#[a]⟩ := TL.ext_tl h
theorem str2 {z : Str} {a b : Nat} (h : z.cps.toList = [a, b]) : z = ⟨#[a, b]⟩ := TL.ext_tl h
theorem len_cps (z : Str) : z.length = z.cps.toList.length := rfl
theorem zero_ne2 (a b : Nat) : (V.str ⟨#[a, b]⟩ = V.str "0") = False := by
  apply propext
  refine ⟨fun h => ?_, False.elim⟩
  injection h with h
  have := congrArg (fun s : Str => s.cps.size) h
  cases this
theorem zero_eq1 (a : Nat) : (V.str ⟨#[a]⟩ = V.str "0") = (a = 48) := by
  apply propext
  refine ⟨fun h => ?_, fun h => by subst h; rfl⟩
  injection h with h
  injection h with h
  exact (List.cons.inj (congrArg Array.toList h)).1
theorem split_cnt (x y : Str) (hy : 1 ≤ y.length) : (Txt.split x y).length ≤ x.length + 1 := by
  have := split_weight x y hy
  omega
theorem mem_sum {zs : List Str} {z : Str} (h : z ∈ zs) : z.length + zs.length ≤ (zs.map (·.length)).sum + zs.length := by
  have : z.length ≤ (zs.map (·.length)).sum := by
    induction zs with
    | nil => cases h
    | cons y r ih =>
      rw [List.map_cons, List.sum_cons]
      rcases List.mem_cons.mp h with e | e
      · rw [e]; omega
      · have := ih e; omega
  omega
theorem split_part (x y : Str) (hy : 1 ≤ y.length) {z : Str} (h : z ∈ Txt.split x y) : z.length ≤ x.length := by
  have h1 := split_weight x y hy
  have h2 := mem_sum h
  have h3 : 1 ≤ (Txt.split x y).length := List.length_pos_of_mem h
  omega
theorem rdI_some {os : List Str} {i : Int} (h : some i ∈ os.map rdI) : 0 ≤ i ∧ i ≤ 99 := by
  obtain ⟨z, _, e⟩ := List.mem_map.mp h
  exact rd_bound e
theorem some_bound {L : List Int} (h : okL L) {i : Int} (hi : some i ∈ L.map some) : 0 ≤ i ∧ i ≤ 99 := by
  obtain ⟨j, hj, e⟩ := List.mem_map.mp hi
  injection e with e
  subst e
  exact h.2.2 _ hj
theorem optI_map (L : List Int) : (L.map some).map optI = L.map V.int := by
  rw [List.map_map]
  rfl
theorem num_fit {L : List Int} (h : okL L) : ((L.map fun i => (toString i : Str)).map (·.length)).sum + (L.map fun i => (toString i : Str)).length * ("." : Str).length ≤ 16777216 := by
  have l1 : ("." : Str).length = 1 := by decide +kernel
  have h1 : ((L.map fun i => (toString i : Str)).map (·.length)).sum ≤ 2 * L.length := by
    have hb := h.2.2
    clear h
    induction L with
    | nil => exact Nat.le_refl _
    | cons i r ih =>
      have hi := num_ok (hb i (List.mem_cons_self ..)).1 (hb i (List.mem_cons_self ..)).2
      have := ih fun j hj => hb j (List.mem_cons_of_mem _ hj)
      simp only [List.map_cons, List.sum_cons, List.length_cons]
      omega
  have h2 := h.1
  rw [l1, List.length_map]
  omega
theorem split_ne (x y : Str) : Txt.split x y ≠ [] := by
  unfold Txt.split
  split
  · simp
  · split
    · simp
    · rw [StrLaws.partsBetween_eq]
      intro h
      generalize Builtin.Str.occurrences x y 0 x.length (x.length + 1) = cuts at h
      cases cuts with
      | nil => cases h
      | cons c r => cases h
theorem seqT_but {K : PySem.W.Frag} {H H' : Hp} {a p : Addr} {xs ys : List V} (ha : H a = some (.lst xs)) (b : But a H H') (h : SqT K H p ys) : SqT K H' p ys :=
  h.elim (fun r => .inl (r.elim (fun e => .inl (b p _ (ne_of e ha (by intro z; cases z)) e)) (fun ⟨o, e⟩ => .inr ⟨o, b p _ (ne_of e ha (by intro z; cases z)) e⟩))) .inr
/-- nothing, ints, tuples -/
def Pn : Nat → PyData → Prop
  | _, .none => True
  | _, .int _ => True
  | n + 1, .tuple ds => ∀ d ∈ ds, Pn n d
  | _, _ => False
mutual
theorem dp_but {K : PySem.W.Frag} {H H' : Hp} {a : Addr} {xs : List V} (ha : H a = some (.lst xs)) (b : But a H H') : ∀ {v : V} {d : PyData}, Dp K H v d → (∃ n, Pn n d) → Dp K H' v d
  | _, _, .non, _ => .non
  | _, _, .bl b, _ => .bl b
  | _, _, .int i, _ => .int i
  | _, _, .str x, _ => .str x
  | _, _, .lst _ _, ⟨n, h⟩ => by cases n <;> exact h.elim
  | _, _, .tup h k, ⟨0, z⟩ => z.elim
  | _, _, .tup h k, ⟨n + 1, z⟩ => .tup (seqT_but ha b h) (dpAll_but ha b k fun d hd => ⟨n, z d hd⟩)
theorem dpAll_but {K : PySem.W.Frag} {H H' : Hp} {a : Addr} {xs : List V} (ha : H a = some (.lst xs)) (b : But a H H') : ∀ {vs : List V} {ds : List PyData}, DpAll K H vs ds → (∀ d ∈ ds, ∃ n, Pn n d) → DpAll K H' vs ds
  | _, _, .nil, _ => .nil
  | _, _, .cons h k, z => .cons (dp_but ha b h (z _ (List.mem_cons_self ..))) (dpAll_but ha b k fun d hd => z d (List.mem_cons_of_mem _ hd))
end
theorem dpAll_snoc {K : PySem.W.Frag} {H : Hp} : ∀ {vs : List V} {ds : List PyData} {v : V} {d : PyData}, DpAll K H vs ds → Dp K H v d → DpAll K H (vs ++ [v]) (ds ++ [d])
  | _, _, _, _, .nil, h => .cons h .nil
  | _, _, _, _, .cons k r, h => .cons k (dpAll_snoc r h)
theorem dpAll_len {K : PySem.W.Frag} {H : Hp} : ∀ {vs : List V} {ds : List PyData}, DpAll K H vs ds → vs.length = ds.length
  | _, _, .nil => rfl
  | _, _, .cons _ r => congrArg (· + 1) (dpAll_len r)
theorem pn_L (L : List Int) : Pn 1 (dL L) := fun d hd => by
  obtain ⟨i, _, rfl⟩ := List.mem_map.mp hd
  trivial
theorem pn_P (p : Pg) : Pn 2 (dP p) := fun d hd => by
  rcases List.mem_cons.mp hd with h | h
  · rw [h]; exact pn_L p.1
  · rw [List.mem_singleton.mp h]; trivial
theorem pn_oL : ∀ o : Option (List Int), Pn 1 (oD dL o)
  | none => trivial
  | some L => pn_L L
theorem pn_oP : ∀ o : Option Pg, Pn 2 (oD dP o)
  | none => trivial
  | some p => pn_P p
theorem lay_pn : ∀ (n : Nat) (d : PyData), Pn n d → d.canLay0 = true ∧ d.depth ≤ n
  | _, .none, _ => ⟨rfl, Nat.zero_le _⟩
  | _, .int _, _ => ⟨rfl, Nat.zero_le _⟩
  | 0, .tuple ds, h => h.elim
  | n + 1, .tuple ds, h => by
    have key : ∀ es : List PyData, (∀ d ∈ es, Pn n d) → PyData.canLayAll0 es = true ∧ PyData.depthAll es ≤ n := by
      intro es
      induction es with
      | nil => exact fun _ => ⟨rfl, Nat.zero_le _⟩
      | cons d r ih =>
        intro hh
        have h1 := lay_pn n d (hh d (List.mem_cons_self ..))
        have h2 := ih fun e he => hh e (List.mem_cons_of_mem _ he)
        refine ⟨?_, ?_⟩
        · show (d.canLay0 && PyData.canLayAll0 r) = true
          rw [h1.1, h2.1]
          rfl
        · show max d.depth (PyData.depthAll r) ≤ n
          omega
    have := key ds h
    exact ⟨this.1, Nat.succ_le_succ this.2⟩
  | _, .bool _, h => by simp [Pn] at h
  | _, .str _, h => by simp [Pn] at h
  | _, .list _, h => by simp [Pn] at h
  | _, .dict _, h => by simp [Pn] at h
theorem shaped_pn {n : Nat} {d : PyData} (h : Pn n d) (hn : n ≤ 64) : SeqAt.shaped d = true := by
  have := lay_pn n d h
  unfold SeqAt.shaped
  rw [Bool.and_eq_true]
  exact ⟨this.1, decide_eq_true (by omega)⟩
theorem shaped_pnl {n : Nat} {ds : List PyData} (h : ∀ d ∈ ds, Pn n d) (hn : n ≤ 63) : SeqAt.shaped (.list ds) = true := by
  have := lay_pn (n + 1) (.tuple ds) h
  unfold SeqAt.shaped
  rw [Bool.and_eq_true]
  exact ⟨this.1, decide_eq_true (by have := this.2; show PyData.depthAll ds + 1 ≤ 64; have e : (PyData.tuple ds).depth = PyData.depthAll ds + 1 := rfl; omega)⟩
theorem none_in (os : List (Option Pg)) : ((os.map (oD dP)).any fun z => PyData.eqv z .none) = os.any (·.isNone) := by
  induction os with
  | nil => rfl
  | cons o r ih =>
    rw [List.map_cons, List.any_cons, List.any_cons, ih]
    cases o <;> rfl
theorem cut_end (z : Str) : (z.cps.toList = [] ∧ cutS z (some (-1)) none = Str.empty) ∨ ∃ c, z.cps.toList.getLast? = some c ∧ cutS z (some (-1)) none = ⟨#[c]⟩ := by
  cases e : z.cps.toList.getLast? with
  | none =>
    have h := List.getLast?_eq_none_iff.mp e
    refine .inl ⟨h, ?_⟩
    unfold cutS
    rw [h]
    simp [Str.empty]
  | some c =>
    refine .inr ⟨c, rfl, ?_⟩
    obtain ⟨l, hl⟩ := List.getLast?_eq_some_iff.mp e
    unfold cutS
    have hz : z.length = l.length + 1 := by
      show z.cps.toList.length = _
      rw [hl, List.length_append]
      rfl
    rw [hz, HT.sIx_none, show HT.sIx (l.length + 1) 0 (some (-1)) = l.length by
      show ((-1 : Int) + ((l.length + 1 : Nat) : Int)).toNat = l.length
      omega, hl, List.drop_left' rfl]
    rw [show l.length + 1 - l.length = 1 by omega]
    rfl
theorem ab_in (y : Str) : inV (.str y) [.str "a", .str "b"] = decide (y = ⟨#[97]⟩ ∨ y = ⟨#[98]⟩) := by
  show ((("a" : Str) == y) || ((("b" : Str) == y) || false)) = _
  have ea : ("a" : Str) = ⟨#[97]⟩ := rfl
  have eb : ("b" : Str) = ⟨#[98]⟩ := rfl
  rw [ea, eb, Bool.or_false]
  by_cases h1 : y = ⟨#[97]⟩
  · subst h1; simp
  · by_cases h2 : y = ⟨#[98]⟩
    · subst h2; simp
    · have h1' : ¬ (⟨#[97]⟩ : Str) = y := fun e => h1 e.symm
      have h2' : ¬ (⟨#[98]⟩ : Str) = y := fun e => h2 e.symm
      simp [h1, h2, h1', h2']
theorem one_inj {a b : Nat} (h : (⟨#[a]⟩ : Str) = ⟨#[b]⟩) : a = b := by
  injection h with h
  exact (List.cons.inj (congrArg Array.toList h)).1
theorem eqv_dP (p q : Pg) : PyData.eqv (dP p) (dP q) = decide (p = q) := by
  show (PyData.eqvAll (p.1.map PyData.int) (q.1.map PyData.int) && ((p.2 == q.2) && true)) = _
  rw [eqv_ints, Bool.and_true]
  obtain ⟨a, b⟩ := p
  obtain ⟨c, d⟩ := q
  by_cases h1 : a = c
  · by_cases h2 : b = d
    · subst h1; subst h2; simp
    · simp [h1, h2]
  · simp [h1]
theorem allSome_none {os : List (Option Int)} (h : none ∈ os) : allSome os = none := by
  induction os with
  | nil => cases h
  | cons o r ih =>
    rcases o with _ | i
    · rfl
    · have h2 : none ∈ r := (List.mem_cons.mp h).resolve_left (by simp)
      unfold allSome
      rw [ih h2]
theorem keep_none {os : List (Option Int)} (h : none ∈ os) : keep os = none := by
  unfold keep
  rw [allSome_none h]
theorem keep_map (L : List Int) : keep (L.map some) = if L.length ≤ 3 ∧ L.getLastD 0 ≠ 0 then some L else none := by
  unfold keep
  rw [allSome_map]
/-! ### data that was laid since -/
mutual
inductive Fd (H0 H : Hp) : V → PyData → Prop
  | int (i : Int) : Fd H0 H (.int i) (.int i)
  | lst {a : Addr} {vs : List V} {ds : List PyData} (h : H a = some (.lst vs)) (n : H0 a = none) (r : FdAll H0 H vs ds) : Fd H0 H (.ref a) (.list ds)
inductive FdAll (H0 H : Hp) : List V → List PyData → Prop
  | nil : FdAll H0 H [] []
  | cons {v : V} {vs : List V} {d : PyData} {ds : List PyData} (h : Fd H0 H v d) (r : FdAll H0 H vs ds) : FdAll H0 H (v :: vs) (d :: ds)
end
mutual
theorem fd_to {H0 H H0' H' : Hp} (hm : ∀ a o, H0 a = none → H a = some o → H0' a = none ∧ H' a = some o) : ∀ {v : V} {d : PyData}, Fd H0 H v d → Fd H0' H' v d
  | _, _, .int i => .int i
  | _, _, .lst h n r => .lst (hm _ _ n h).2 (hm _ _ n h).1 (fdAll_to hm r)
theorem fdAll_to {H0 H H0' H' : Hp} (hm : ∀ a o, H0 a = none → H a = some o → H0' a = none ∧ H' a = some o) : ∀ {vs : List V} {ds : List PyData}, FdAll H0 H vs ds → FdAll H0' H' vs ds
  | _, _, .nil => .nil
  | _, _, .cons h r => .cons (fd_to hm h) (fdAll_to hm r)
end
mutual
theorem fd_dp {K : PySem.W.Frag} {H0 H : Hp} : ∀ {v : V} {d : PyData}, Fd H0 H v d → Dp K H v d
  | _, _, .int i => .int i
  | _, _, .lst h _ r => .lst (.inl (.inl h)) (fdAll_dp r)
theorem fdAll_dp {K : PySem.W.Frag} {H0 H : Hp} : ∀ {vs : List V} {ds : List PyData}, FdAll H0 H vs ds → DpAll K H vs ds
  | _, _, .nil => .nil
  | _, _, .cons h r => .cons (fd_dp h) (fdAll_dp r)
end
theorem fdAll_snoc {H0 H : Hp} : ∀ {vs : List V} {ds : List PyData} {v : V} {d : PyData}, FdAll H0 H vs ds → Fd H0 H v d → FdAll H0 H (vs ++ [v]) (ds ++ [d])
  | _, _, _, _, .nil, h => .cons h .nil
  | _, _, _, _, .cons k r, h => .cons k (fdAll_snoc r h)
theorem fdAll_len {H0 H : Hp} : ∀ {vs : List V} {ds : List PyData}, FdAll H0 H vs ds → vs.length = ds.length
  | _, _, .nil => rfl
  | _, _, .cons _ r => congrArg (· + 1) (fdAll_len r)
theorem fdAll_same {H0 H H' : Hp} (s : Same H H') {vs : List V} {ds : List PyData} (h : FdAll H0 H vs ds) : FdAll H0 H' vs ds := fdAll_to (fun a o n e => ⟨n, s a o e⟩) h
theorem dpAll_get {K : PySem.W.Frag} {H : Hp} : ∀ {vs : List V} {ds : List PyData} {i : Nat} {v : V}, DpAll K H vs ds → vs[i]? = some v → ∃ d, ds[i]? = some d ∧ Dp K H v d
  | _, _, _, _, .nil, e => nomatch e
  | _, _, 0, _, .cons h r, e => by
    injection e with e
    subst e
    exact ⟨_, rfl, h⟩
  | _, _, i + 1, _, .cons h r, e => by
    obtain ⟨d, e1, e2⟩ := dpAll_get (i := i) r e
    exact ⟨d, e1, e2⟩
theorem dpAll_get2 {K : PySem.W.Frag} {H : Hp} {vs : List V} {ds : List PyData} {i : Nat} {d : PyData} (h : DpAll K H vs ds) (e : ds[i]? = some d) : ∃ v, vs[i]? = some v ∧ Dp K H v d := by
  have hi := (List.getElem?_eq_some_iff.mp e).1
  rw [← dpAll_len h] at hi
  have e1 := List.getElem?_eq_getElem hi
  obtain ⟨d', e2, e3⟩ := dpAll_get h e1
  rw [e] at e2
  injection e2 with e2
  subst e2
  exact ⟨_, e1, e3⟩
theorem ixN_end (R : List Int) (x : Int) : ixN ((R ++ [x]).map V.int).length (-1) = some R.length := by
  unfold ixN
  rw [List.length_map, List.length_append, List.length_singleton, if_neg (by decide), if_pos (by omega)]
  congr 1
  omega
theorem set_end (R : List Int) (x v : Int) : ((R ++ [x]).map V.int).set R.length (.int v) = (R ++ [v]).map V.int := by
  rw [List.map_append, List.map_append, List.set_append_right _ _ (by rw [List.length_map]; exact Nat.le_refl _), List.length_map, Nat.sub_self]
  rfl
theorem at_end (R : List Int) (x : Int) : atI ((R ++ [x]).map V.int) (-1) = some (.int x) := by
  rw [List.map_append]
  exact atI_last _ _
/-- a page that was laid apart from a -/
def PT (a : Addr) (H : Hp) (o : Addr) (p : Pg) : Prop := ∃ l, l ≠ a ∧ o ≠ a ∧ H o = some (.tup [.ref l, .int p.2]) ∧ H l = some (.tup (p.1.map V.int))
theorem PT.but {a o : Addr} {H H' : Hp} {p : Pg} (h : PT a H o p) (b : But a H H') : PT a H' o p := by
  obtain ⟨l, h1, h2, h3, h4⟩ := h
  exact ⟨l, h1, h2, b _ _ h2 h3, b _ _ h1 h4⟩
theorem PT.dp {K : PySem.W.Frag} {a o : Addr} {H : Hp} {p : Pg} (h : PT a H o p) : Dp K H (.ref o) (dP p) := by
  obtain ⟨l, h1, h2, h3, h4⟩ := h
  exact .tup (.inl (.inl h3)) (.cons (dpL (.inl (.inl h4))) (.cons (.int _) .nil))
theorem cut_to (z : Str) (k : Int) (h0 : 0 ≤ k) (h1 : k ≤ (z.length : Int)) : (cutS z none (some k)).length = k.toNat := by
  obtain ⟨n, rfl⟩ := Int.eq_ofNat_of_zero_le h0
  show (((z.cps.toList.drop 0).take (HT.sIx z.length z.length (some (n : Int)) - 0)).toArray).size = _
  rw [HT.sIx_nat, List.size_toArray, List.length_take, List.drop_zero, Array.length_toList]
  show min (min n z.length - 0) z.length = _
  omega
theorem cut_from (z : Str) (k : Int) (h0 : 0 ≤ k) : (cutS z (some k) none).length = z.length - k.toNat := by
  obtain ⟨n, rfl⟩ := Int.eq_ofNat_of_zero_le h0
  show (((z.cps.toList.drop (HT.sIx z.length 0 (some (n : Int)))).take (z.length - HT.sIx z.length 0 (some (n : Int)))).toArray).size = _
  rw [HT.sIx_nat, List.size_toArray, List.length_take, List.length_drop, Array.length_toList]
  show min (z.length - min n z.length) (z.length - min n z.length) = _
  omega
theorem at_some {α : Type} (xs : List α) (k : Int) (h0 : 0 ≤ k) (h1 : k < (xs.length : Int)) : ∃ c, atI xs k = some c := by
  obtain ⟨n, rfl⟩ := Int.eq_ofNat_of_zero_le h0
  exact ⟨_, atI_nat (List.getElem?_eq_getElem (show n < xs.length by omega))⟩
/-! ### what is kept of a thing as a label -/
def ok99 (L : List Int) : Prop := ∀ i ∈ L, 0 ≤ i ∧ i ≤ 99
theorem getD_99 {L : List Int} (h : ok99 L) (n : Nat) : 0 ≤ L.getD n 0 ∧ L.getD n 0 ≤ 99 := by
  rw [List.getD_eq_getElem?_getD]
  cases e : L[n]? with
  | none => exact ⟨by decide, by decide⟩
  | some i => exact h i (List.mem_of_getElem? e)
def items : PyData → Option (List PyData)
  | .list ds => some ds
  | .tuple ds => some ds
  | _ => none
def isI : PyData → Bool
  | .int _ => true
  | _ => false
def toO : PyData → Option Int
  | .int i => if 0 ≤ i ∧ i ≤ 99 then some i else none
  | _ => none
def keptD (d : PyData) : Option (List Int) := match items d with
  | some ds => keep (ds.map toO)
  | none => none
def wI (l m : Int) : PyData → Bool
  | .int i => decide (l ≤ i ∧ i ≤ m)
  | _ => false
theorem toO_some (d : PyData) : (toO d).isSome = wI 0 99 d := by
  cases d with
  | int i =>
    show (if 0 ≤ i ∧ i ≤ 99 then some i else none).isSome = decide (0 ≤ i ∧ i ≤ 99)
    by_cases h : 0 ≤ i ∧ i ≤ 99
    · rw [if_pos h, decide_eq_true h]; rfl
    · rw [if_neg h, decide_eq_false h]; rfl
  | _ => rfl
theorem toO_ints {L : List Int} (h : ok99 L) : (L.map PyData.int).map toO = L.map some := by
  rw [List.map_map]
  exact List.map_congr_left fun i hi => if_pos (h i hi)

/-- no lists in it -/
def Nl : Nat → PyData → Prop
  | _, .none => True
  | _, .int _ => True
  | _, .bool _ => True
  | _, .str _ => True
  | n + 1, .tuple ds => ∀ d ∈ ds, Nl n d
  | _, _ => False
mutual
theorem dp_butN {K : PySem.W.Frag} {H H' : Hp} {a : Addr} {xs : List V} (ha : H a = some (.lst xs)) (b : But a H H') : ∀ {v : V} {d : PyData}, Dp K H v d → (∃ n, Nl n d) → Dp K H' v d
  | _, _, .non, _ => .non
  | _, _, .bl b, _ => .bl b
  | _, _, .int i, _ => .int i
  | _, _, .str x, _ => .str x
  | _, _, .lst _ _, ⟨n, h⟩ => by cases n <;> exact h.elim
  | _, _, .tup h k, ⟨0, z⟩ => z.elim
  | _, _, .tup h k, ⟨n + 1, z⟩ => .tup (seqT_but ha b h) (dpAll_butN ha b k fun d hd => ⟨n, z d hd⟩)
theorem dpAll_butN {K : PySem.W.Frag} {H H' : Hp} {a : Addr} {xs : List V} (ha : H a = some (.lst xs)) (b : But a H H') : ∀ {vs : List V} {ds : List PyData}, DpAll K H vs ds → (∀ d ∈ ds, ∃ n, Nl n d) → DpAll K H' vs ds
  | _, _, .nil, _ => .nil
  | _, _, .cons h k, z => .cons (dp_butN ha b h (z _ (List.mem_cons_self ..))) (dpAll_butN ha b k fun d hd => z d (List.mem_cons_of_mem _ hd))
end
theorem kit2_no {K : PySem.W.Frag} {t : String} (h1 : kitB t "tuple" = some false) (h2 : kitB t "list" = some false) : PySem.W.kitAny K (.type t) [.type "tuple", .type "list"] = some false :=
  kitAny_cons (kit_ty h1) (fun _ => kitAny_cons (kit_ty h2) (fun _ => rfl) (fun z => by cases z)) (fun z => by cases z)
theorem allSome_all : ∀ {os : List (Option Int)} {L : List Int}, allSome os = some L → os = L.map some
  | [], L, h => by
    cases h
    rfl
  | none :: r, L, h => by cases h
  | some i :: r, L, h => by
    unfold allSome at h
    split at h
    · rename_i L' e
      cases h
      rw [allSome_all e]
      rfl
    · cases h
theorem map_bl (ds : List PyData) : (ds.map fun d => V.bl (wI 0 99 d)) = (ds.map (wI 0 99)).map V.bl := (List.map_map ..).symm
theorem all_bl (ds : List PyData) : (ds.map (wI 0 99)).all id = ds.all (wI 0 99) := by
  rw [List.all_map]
  rfl
theorem all_ints : ∀ {ds : List PyData}, ds.all (wI 0 99) = true → ∃ L : List Int, ds = L.map PyData.int ∧ ok99 L
  | [], _ => ⟨[], rfl, fun _ h => nomatch h⟩
  | d :: r, h => by
    rw [List.all_cons, Bool.and_eq_true] at h
    obtain ⟨L, e, hL⟩ := all_ints h.2
    cases d with
    | int i =>
      have hi := of_decide_eq_true h.1
      refine ⟨i :: L, by rw [e]; rfl, fun j hj => ?_⟩
      rcases List.mem_cons.mp hj with z | z
      · rw [z]; exact hi
      · exact hL j z
    | _ => cases h.1
theorem not_all {ds : List PyData} (h : ds.all (wI 0 99) = false) : none ∈ ds.map toO := by
  obtain ⟨d, hd, e⟩ := List.all_eq_false.mp h
  refine List.mem_map.mpr ⟨d, hd, ?_⟩
  cases q : toO d with
  | none => rfl
  | some i =>
    have := toO_some d
    rw [q] at this
    exact absurd this.symm e
/-- what stands behind an own error that was made: its dict alone is new -/
theorem toO_bd {d : PyData} {i : Int} (h : toO d = some i) : 0 ≤ i ∧ i ≤ 99 := by
  cases d with
  | int j =>
    have h : (if 0 ≤ j ∧ j ≤ 99 then some j else none) = some i := h
    by_cases hj : 0 ≤ j ∧ j ≤ 99
    · rw [if_pos hj] at h
      cases h
      exact hj
    · rw [if_neg hj] at h
      cases h
  | _ => cases h
theorem keep_some {os : List (Option Int)} {L : List Int} (h : keep os = some L) : os = L.map some ∧ L.length ≤ 3 ∧ L.getLastD 0 ≠ 0 := by
  unfold keep at h
  cases e : allSome os with
  | none => rw [e] at h; cases h
  | some M =>
    rw [e] at h
    simp only at h
    split at h
    · rename_i hM
      cases h
      exact ⟨allSome_all e, hM⟩
    · cases h
theorem kept_okL {d : PyData} {L : List Int} (h : keptD d = some L) : okL L := by
  unfold keptD at h
  cases e : items d with
  | none => rw [e] at h; cases h
  | some ds =>
    rw [e] at h
    simp only at h
    obtain ⟨h1, h2, h3⟩ := keep_some h
    refine ⟨h2, h3, fun i hi => ?_⟩
    have : some i ∈ ds.map toO := by rw [h1]; exact List.mem_map_of_mem hi
    obtain ⟨d, _, q⟩ := List.mem_map.mp this
    exact toO_bd q
theorem kept_ok {d : PyData} {L : List Int} (h : keptD d = some L) : ok99 L ∧ L.length ≤ 3 ∧ L ≠ [] := by
  have := kept_okL h
  exact ⟨this.2.2, this.1, okL_ne this⟩
theorem cutV_to (xs : List V) (n : Nat) : cutV xs none (some (n : Int)) = xs.take n := by
  unfold cutV
  rw [HT.sIx_none, HT.sIx_nat, List.drop_zero, Nat.sub_zero]
  by_cases h : n ≤ xs.length
  · rw [Nat.min_eq_left h]
  · rw [Nat.min_eq_right (by omega), List.take_length, List.take_of_length_le (by omega)]
theorem okL_snoc {R : List Int} {z : Int} (h : ok99 R) (l : R.length ≤ 2) (h1 : 1 ≤ z) (h9 : z ≤ 99) : okL (R ++ [z]) := by
  refine ⟨by rw [List.length_append]; show R.length + 1 ≤ 3; omega, ?_, fun i hi => ?_⟩
  · rw [List.getLastD_eq_getLast?, List.getLast?_append]
    show z ≠ 0
    omega
  · rcases List.mem_append.mp hi with e | e
    · exact h i e
    · rw [List.mem_singleton.mp e]; omega
theorem okL_split {L : List Int} (h : okL L) : ∃ R z, L = R ++ [z] ∧ ok99 R ∧ R.length ≤ 2 ∧ 1 ≤ z ∧ z ≤ 99 := by
  have hne := okL_ne h
  obtain ⟨R, z, rfl⟩ : ∃ R z, L = R ++ [z] := ⟨_, _, (List.dropLast_concat_getLast hne).symm⟩
  have hz := h.2.2 z (by simp)
  have hz0 : z ≠ 0 := by
    have := h.2.1
    rw [List.getLastD_eq_getLast?, List.getLast?_append] at this
    exact this
  have hl := h.1
  rw [List.length_append] at hl
  exact ⟨R, z, rfl, fun i hi => h.2.2 i (List.mem_append_left _ hi), by have : R.length + 1 ≤ 3 := hl; omega, by omega, hz.2⟩
theorem src_lst {H : Hp} {a : Addr} (s : Src H a) : ∃ xs, H a = some (.lst xs) := by
  obtain ⟨g, x, c, e⟩ := s
  exact ⟨_, e⟩
theorem sqT_src {K : PySem.W.Frag} {H H' : Hp} {a p : Addr} {ys : List V} (s : Src H a) (b : But a H H') (h : SqT K H p ys) : SqT K H' p ys := by
  obtain ⟨xs, e⟩ := src_lst s
  exact seqT_but e b h
theorem dpN_src {K : PySem.W.Frag} {H H' : Hp} {a : Addr} {v : V} {d : PyData} (s : Src H a) (b : But a H H') (h : Dp K H v d) (n : ∃ n, Nl n d) : Dp K H' v d := by
  obtain ⟨xs, e⟩ := src_lst s
  exact dp_butN e b h n
theorem nl_L (L : List Int) : ∃ n, Nl n (dL L) := ⟨1, fun d hd => by
  obtain ⟨i, _, rfl⟩ := List.mem_map.mp hd
  trivial⟩
theorem nl_O (o : Option (List Int)) : ∃ n, Nl n (oD dL o) := by
  cases o with
  | none => exact ⟨0, trivial⟩
  | some L => exact nl_L L
theorem srcN {H : Hp} {a p : Addr} (s : Src H a) (n : H p = none) (o : HO) : Src (upd H p o) a := s.put (s.ne n) o
theorem sIx_m1 (n : Nat) : HT.sIx n n (some (-1)) = n - 1 := by
  show ((-1 : Int) + (n : Int)).toNat = n - 1
  omega
theorem cut_last (xs : List V) : cutV xs none (some (-1)) = xs.dropLast := by
  unfold cutV
  rw [sIx_m1, HT.sIx_none, List.drop_zero, Nat.sub_zero, List.dropLast_eq_take]
/-! ### refused things: short, without lists -/
theorem cat_go {K : PySem.W.Frag} {H : Hp} {Q : VK} {a b : Addr} {xs ys : List V} (ha : SqT K H a xs) (hb : SqT K H b ys) (hl : xs.length + ys.length ≤ 1000) (h : ∀ c H', Same H H' → SqT K H' c (xs ++ ys) → Q (.ref c) H') : rCatA K (.ref a) (.ref b) H Q :=
  ⟨a, b, xs, ys, rfl, rfl, ha, hb, Nat.le_of_lt (small1000 hl), fun e => h b H (Same.refl H) (by rw [e]; exact hb), fun _ e => h a H (Same.refl H) (by rw [e, List.append_nil]; exact ha), fun _ _ p np => h p _ (same_upd np) (.inl (.inl upd_same))⟩
theorem cut_whole {xs : List V} {lo hi : Option Int} (h : HT.sIx xs.length 0 lo = 0 ∧ HT.sIx xs.length xs.length hi = xs.length) : cutV xs lo hi = xs := by
  unfold cutV
  rw [h.1, h.2, List.drop_zero, Nat.sub_zero, List.take_length]
theorem sl_go {K : PySem.W.Frag} {H : Hp} {Q : VK} {a : Addr} {xs : List V} {lo hi : Option Int} (ha : SqT K H a xs) (h : ∀ c H', Same H H' → SqT K H' c (cutV xs lo hi) → Q (.ref c) H') : rSlA K (.ref a) lo hi H Q :=
  ⟨a, xs, rfl, ha, fun e => h a H (Same.refl H) (by rw [cut_whole e]; exact ha), fun _ p np => h p _ (same_upd np) (.inl (.inl upd_same))⟩
theorem cutV_from (xs : List V) (k : Nat) : cutV xs (some (k : Int)) none = xs.drop k := by
  unfold cutV
  rw [HT.sIx_nat]
  have e : HT.sIx xs.length xs.length none = xs.length := HT.sIx_none ..
  rw [e]
  by_cases h : k ≤ xs.length
  · rw [Nat.min_eq_left h, List.take_of_length_le]
    rw [List.length_drop]
    omega
  · rw [Nat.min_eq_right (by omega), Nat.sub_self, List.take_zero, List.drop_eq_nil_of_le (by omega)]
theorem dpAll_app {K : PySem.W.Frag} {H : Hp} : ∀ {vs ws : List V} {ds es : List PyData}, DpAll K H vs ds → DpAll K H ws es → DpAll K H (vs ++ ws) (ds ++ es)
  | _, _, _, _, .nil, h => h
  | _, _, _, _, .cons k r, h => .cons k (dpAll_app r h)
/-! ### own errors: made with nothing, asked for their classes -/
section
variable {X : Cx} {C : Addr} {bmB : List Value} {B newId initId : String}
/-- X() -/
theorem pmk_own0 {x : Str} {p pos : Pos} (F : ExcBaseFacts B newId initId bmB) (q : PySem.W.excIn X.K C bmB newId = true) (gC : X.mg x = some (.ref C)) (kC : PySem.W.keepIn X.K (.ref C) = true) (r : Raises X (.ref C)) (hg : Gl X x)
    (hdb : (x == ("__debug__" : Str)) = false := by decide) : PMk X (.Call (.Name x p) [] [] pos) (fun _ H Q => Q (.ref C) none H) := by
  intro pins s σ H Q I h
  refine wpAny_Call_Name_kw (ld_glob I hg gC ?_ hdb)
  refine PySem.W.callWith_K0 I.kIn kC ?_
  obtain ⟨bm, N, nm, qn, bs, hdct, sn, sub, ab, col, dd, k0, k1, k2, k3, k5, mN, hC, hN, hni, T⟩ := exc_obj I.kIn q
  obtain ⟨hp, g, dr, tk, os⟩ := s
  refine wpAny_call_exc_subT F T hC hN hni ?_ (by decide)
  exact fun h' e hm => mk_of I hm r h (I.hok.gone hm.new)
end
/-- isinstance(e, c), e the error that the suite holds, with a dict of its own or without -/
def rIsX (K : PySem.W.Frag) (cls : Value) (a : Addr) (d : Option Addr) : List V → Hp → VK → Prop := fun xs H Q => ∃ (D : Addr) (c : V) (cv : Value) (b : Bool), xs = [.ref a, c] ∧ cls = .ref D ∧ ExcC K D ∧ (∀ u, RelV c u → u = cv) ∧
  (d = Option.none ∨ ∃ dd fs, d = some dd ∧ H dd = some (.xd fs)) ∧ PySem.W.kitOne K (.ref D) cv = some b ∧ Q (.bl b) H
theorem call_isX {X : Cx} {a : Addr} {cls : Value} {d : Option Addr} {oe : Obj} {pn : List (Addr × Obj)} (hz : Zc cls d oe) (hf : ∃ vs, oe.data = .fields vs) : CallR (X.suite a ((a, oe) :: pn)) (.builtin "isinstance") (rIsX X.K cls a d) := by
  intro pins s σ H xs us Q I r h
  obtain ⟨D, c, cv, b, rfl, rfl, C, hcv, hd, e, q⟩ := h
  obtain ⟨u1, u2, rfl, r1, r2⟩ := vals2 r
  obtain rfl : u1 = Value.ref a := r1
  obtain rfl := hcv _ r2
  obtain ⟨at_, _⟩ := I.pin (a, oe) (List.mem_append_left _ List.mem_cons_self)
  obtain ⟨vs, hv⟩ := hf
  have fin : ∀ {od : Option Obj}, PySem.W.InstAt s.heap a oe D od → wpAny (model X.prog X.w) (X.suite a ((a, oe) :: pn)).A (call (.builtin "isinstance") [.ref a, u2]) (EP (X.suite a ((a, oe) :: pn)) pins σ Q) (X.suite a ((a, oe) :: pn)).xe s := fun J =>
    PySem.W.kia_one (PySem.W.kitx_exc (PySem.W.any_some C.hd |>.elim fun _ z => by rw [z.1]; rfl) C.hg C.hk C.hs C.ha C.hn C.ht C.hm) I.kIn J e (fun z => nomatch z) fun tk => ⟨.bl b, H, I.kept (t' := tk) (fun _ _ z => z), rfl, q⟩
  have nc : PySem.W.notCls oe = true := by
    unfold PySem.W.notCls
    rw [hv] <;> rfl
  rcases hd with rfl | ⟨dd, fs, rfl, hdd⟩
  · exact fin (od := Option.none) ⟨at_, hz.1, nc, by rw [hz.2]; trivial⟩
  · obtain ⟨mA, hns, _⟩ := I.hok dd _ hdd
    obtain ⟨od, ho, _⟩ := lookIn_ns hns
    exact fin (od := some od) ⟨at_, hz.1, nc, by rw [hz.2]; exact ho⟩
theorem kit_ref {K : PySem.W.Frag} {D C : Addr} {b : Bool} (h1 : PySem.W.isClsIn K C = true) (h2 : PySem.W.typeIn K (.ref C) = some (.type "type")) (h3 : PySem.W.subIn K (.ref D) (.ref C) = some b) (h4 : D = C → b = true) : PySem.W.kitOne K (.ref D) (.ref C) = some b := by
  unfold PySem.W.kitOne
  by_cases q : (Value.ref D == Value.ref C) = true
  · rw [if_pos q, h4 (Value.ref.inj (beq_iff_eq.mp q))]
  · rw [if_neg q]
    unfold PySem.W.kitCls
    have h1' : (PySem.W.clsIn K C).isSome = true := h1
    simp only [h1', h2, beq_self_eq_true, Bool.and_self, if_true]
    exact h3
theorem kit_rty {K : PySem.W.Frag} {D : Addr} {T : String} {b : Bool} (h3 : PySem.W.subIn K (.ref D) (.type T) = some b) (h : PySem.W.kitMeta T = true) : PySem.W.kitOne K (.ref D) (.type T) = some b := by
  unfold PySem.W.kitOne
  rw [if_neg (by simp)]
  unfold PySem.W.kitCls
  simp only [h, if_true]
  exact h3
theorem relRef {a : Addr} : ∀ u : Value, RelV (.ref a) u → u = .ref a := fun _ h => h
theorem relTy {s : String} : ∀ u : Value, RelV (.ty s) u → u = .type s := fun _ h => h
/-- what isinstance must know of the class -/
theorem excC_of {K : PySem.W.Frag} {D : Addr} (h1 : PySem.W.findIn K (.ref D) "__getattribute__" = some (some (.builtin "BaseException.__getattribute__"))) (h2 : PySem.W.findIn K (.ref D) "__getattr__" = some none) (h3 : PySem.W.subIn K (.ref D) (.type "BaseException") = some true)
    (h4 : PySem.W.hasDictIn K D = true) (h5 : PySem.W.findIn K (.ref D) "__class__" = some (some (.builtin "object.__class__"))) (h6 : PySem.W.specialIn K (.builtin "object.__class__") "__get__" = some (some (.builtin "getset_descriptor.__get__"))) (h7 : PySem.W.takesIn K (.builtin "object.__class__") = some true)
    (h8 : PySem.W.mroIn K D (.type "object") = some true) : ExcC K D := ⟨h1, h2, h3, h4, h5, h6, h7, h8⟩
/-! ### xs[::-1], xs a list -/
section
variable {X : Cx} {e st : Expr} {te : TE} {tq : TO} {p2 pos : Pos}
def tRevL (K : PySem.W.Frag) (te : TE) (tq : TO) : TE := fun σ H Q => te σ H fun x H1 => tq σ H1 fun k H2 => ∃ a xs, k = some (-1) ∧ x = .ref a ∧ SqL K H2 a xs ∧ ∀ p, H2 p = none → Q (.ref p) (upd H2 p (.lst xs.reverse))
theorem pe_revL (he : PE X e te) (hk : PO X (some st) tq) : PE X (.Subscript e (.Slice none none (some st) p2) pos) (tRevL X.K te tq) := by
  constructor
  intro pins s σ H Q I h
  refine Subscript_ (thn (he.run pins s σ H _ I h) ?_)
  rintro v s1 ⟨x, H1, I1, r1, q1⟩
  refine wpAny_Slice ?_
  rw [evalPart_none]
  refine wpAny_pure ?_
  refine wpAny_pure (thn (hk.run pins s1 σ H1 _ I1 q1) ?_)
  rintro vk s2 ⟨k, H2, I2, pk, a, xs, rfl, rfl, hx, q⟩
  cases r1
  have J : Inv X pins σ H2 { s2 with heap := s2.heap.push { cls := .type "slice", data := .fields #[.none, .none, vk] } } := I2.kept (t' := s2.toks) (fun b ob q => Heap.get?_push_of_some _ q)
  obtain ⟨its, r, isl, hz⟩ := J.list hx
  have hlen := r.length
  have step : wpAny (model X.prog X.w) X.A (getItem (.ref a) (.ref s2.heap.objs.size)) (EP X pins σ Q) X.xe { s2 with heap := s2.heap.push { cls := .type "slice", data := .fields #[.none, .none, vk] } } := by
    refine wpAny_getItem_list_slice isl.isList (Heap.IsSliceOf.new ..) .none .none pk (by decide) ?_ (by rw [List.size_toArray]; omega)
    have er : slicePick its.toArray none none (some (-1)) = its.reverse.toArray := PySem.W.krv_pick its.toArray
    rw [er]
    refine ⟨.ref (s2.heap.push { cls := .type "slice", data := .fields #[.none, .none, vk] }).objs.size, _, J.laid (t' := s2.toks) (o := .lst xs.reverse) (fun b ob q => Heap.get?_push_of_some _ q) (Nat.le_refl _) ?_, rfl, q _ (J.hok.fresh (Nat.le_refl _))⟩
    exact ⟨by rw [List.length_reverse]; exact hz, _, 0, r.reverse, Heap.get?_push_size _ rfl⟩
  exact tail_any (ops := [.ref a, .ref s2.heap.objs.size]) isl.isList.typeIs slot_list_getitem.lookup step (by with_unfolding_all rfl)
end
theorem ix_listK {X : Cx} {K : PySem.W.Frag} (h : X.K = K) : IxR X (rIxL K) := h ▸ ix_list
theorem ix_tupK {X : Cx} {K : PySem.W.Frag} (h : X.K = K) : IxR X (rIxT K) := h ▸ ix_tup
/-! ### sorted of a list of tuples of ints, of any lengths -/
section
variable {prog : Program} {w : World} {A : Around} {s : Shared}
def IsIT (h : Heap) (v : Value) (ns : List Int) : Prop := ∃ (a : Addr) (o : Obj) (its : Array Value) (n : Nat), v = .ref a ∧ h.get? a = some o ∧ o.cls = .type "tuple" ∧ o.data = .seq its n ∧ IntsAre its.toList ns
theorem IsIT.keeps {h h' : Heap} {v : Value} {ns : List Int} (x : IsIT h v ns) (k : ∀ b o, h.get? b = some o → o.cls = .type "tuple" → h'.get? b = some o) : IsIT h' v ns := by
  obtain ⟨a, o, its, n, e, ho, hc, r⟩ := x
  exact ⟨a, o, its, n, e, k a o ho hc, hc, r⟩
theorem ints_length {us : List Value} {ns : List Int} (h : IntsAre us ns) : us.length = ns.length := by
  have := (vals_of_ints h).length
  rw [List.length_map] at this
  exact this.symm
theorem kat_ints {Q : Bool → Shared → Prop} : ∀ (xs ys : List Value) (ns ms : List Int) (i : Nat), IntsAre xs ns → IntsAre ys ms → Q (HT.lexLt ns ms) s → PySem.W.KatLex prog w A true (decide (ns.length < ms.length)) Q (xs.zip ys) i s
  | [], ys, ns, ms, i, h1, h2, q => by
    cases h1
    · cases ms with
      | nil => exact PySem.W.kat_nil q
      | cons m ms => exact PySem.W.kat_nil q
  | x :: xs, [], ns, ms, i, h1, h2, q => by
    cases h2
    · cases ns with
      | nil => cases h1
      | cons n ns =>
        rw [HT.lexLt_cons_nil] at q
        exact PySem.W.kat_nil q
  | x :: xs, y :: ys, ns, ms, i, h1, h2, q => by
    cases ns with
    | nil => cases h1
    | cons n ns =>
    cases ms with
    | nil => cases h2
    | cons m ms =>
    cases h1 with
    | cons _ t h1 =>
    cases h2 with
    | cons _ u h2 =>
    rw [HT.lexLt_cons] at q
    have z : decide ((n :: ns).length < (m :: ms).length) = decide (ns.length < ms.length) := by simp
    rw [z]
    show PySem.W.KatLex prog w A true (decide (ns.length < ms.length)) Q ((.int n t, .int m u) :: xs.zip ys) i s
    refine PySem.W.kat_cons (SeqAt.EqAt.int_int n t m u prog w _ _ ?_)
    refine PySem.W.kat_go (fun e1 => ?_) (fun e1 => ?_)
    · have e : n = m := by simpa using e1
      rw [if_pos e] at q
      exact PySem.W.kat_yes (kat_ints xs ys ns ms (i + 1) h1 h2 q)
    · have e : ¬ n = m := by simpa using e1
      rw [if_neg e] at q
      refine PySem.W.kat_no ?_
      cases i with
      | zero => exact TS.oneLt_ints true q
      | succ i => exact PySem.W.kat_one _ _ (PyProof.Rows.lt_int q)
theorem it_cmp {vs : List Value} {k : Value → List Int} (hp : ∀ v ∈ vs, IsIT s.heap v (k v)) : SrtO.Cmp prog w A s (tuples' true) (fun p => p.1 ∈ vs) (SrtO.lt2 fun v u => HT.lexLt (k v) (k u)) := by
  intro p q hm hm'
  obtain ⟨a, o, its, n, e, ho, hc, hd, hi⟩ := hp _ hm
  obtain ⟨a', o', its', n', e', ho', hc', hd', hi'⟩ := hp _ hm'
  show wpAny (model prog w) A (keyLt' (tuples' true) p.1 q.1) (fun r s' => s' = s ∧ r = HT.lexLt (k p.1) (k q.1)) (fun _ _ => False) s
  rw [e, e']
  rw [e] at hi
  rw [e'] at hi'
  refine PySem.W.kat_lt ho hd ho' hd' ?_
  have l1 : its.size = (k (.ref a)).length := by rw [← Array.length_toList]; exact ints_length hi
  have l2 : its'.size = (k (.ref a')).length := by rw [← Array.length_toList]; exact ints_length hi'
  rw [l1, l2]
  exact kat_ints _ _ _ _ 0 hi hi' ⟨rfl, rfl⟩
theorem it_firsts {h : Heap} : ∀ {vs : List Value} {k : Value → List Int}, (∀ v ∈ vs, IsIT h v (k v) ∧ k v ≠ []) → ∃ fs, PySem.W.KatTups h vs fs ∧ fs.length = vs.length ∧ ∀ f ∈ fs, ∃ x t, f = .int x t
  | [], _, _ => ⟨[], trivial, rfl, fun _ h => nomatch h⟩
  | v :: vs, k, hp => by
    obtain ⟨fs, t, l, r⟩ := it_firsts (vs := vs) (k := k) fun u hu => hp u (List.mem_cons_of_mem _ hu)
    obtain ⟨⟨a, o, its, n, rfl, ho, hc, hd, hi⟩, ne⟩ := hp v (List.mem_cons_self ..)
    cases ek : k (.ref a) with
    | nil => exact absurd ek ne
    | cons m ms =>
      rw [ek] at hi
      cases ei : its.toList with
      | nil => rw [ei] at hi; cases hi
      | cons x xs =>
        rw [ei] at hi
        cases hi with
        | cons _ t' hi =>
        have h0 : its[0]? = some (.int m t') := by rw [← Array.getElem?_toList, ei]; rfl
        refine ⟨.int m t' :: fs, PySem.W.KatTups.cons ho hc hd h0 t, by simp [l], fun f hf => ?_⟩
        rcases List.mem_cons.mp hf with e | hf
        · exact ⟨m, t', e⟩
        · exact r f hf
theorem it_sortable {a : Addr} {vs : List Value} {k : Value → List Int} (h0 : 0 < vs.length) (hp : ∀ v ∈ vs, IsIT s.heap v (k v) ∧ k v ≠ []) (ha : ∀ o, s.heap.get? a = some o → o.cls ≠ .type "tuple") : SrtO.SortableO prog w A s a vs fun v u => HT.lexLt (k v) (k u) := by
  intro h' keep
  have hp' : ∀ v ∈ vs, IsIT h' v (k v) ∧ k v ≠ [] := fun v hm => ⟨(hp v hm).1.keeps fun b o e c => keep b o (fun z => by subst z; exact ha o e c) e, (hp v hm).2⟩
  obtain ⟨fs, h1, h2, h3⟩ := it_firsts hp'
  refine ⟨tuples' true, fun Q E hq => ?_, it_cmp fun v hm => (hp' v hm).1⟩
  refine PySem.W.kat_kind (T := .type "int") h1 (by omega) (fun f hm => ?_) (by rfl) ?_
  · obtain ⟨x, t, rfl⟩ := h3 f hm
    exact PySem.W.Looks.now
  · have e : (Value.type "int" != Value.type "tuple") = true := by first | decide +kernel | rfl | decide
    rw [e]
    exact hq
end
section
variable {X : Cx}
def rSortedT3 (K : PySem.W.Frag) : List V → Hp → VK → Prop := fun vs H Q => ∃ (a : Addr) (xs : List V) (k : V → List Int), vs = [V.ref a] ∧ SqL K H a xs ∧ (∀ x ∈ xs, ∃ t, x = V.ref t ∧ SqT K H t ((k x).map V.int) ∧ k x ≠ []) ∧
  ∀ ys p, SrtO.Srtd (fun v u => HT.lexLt (k v) (k u)) ys → ys.Perm xs → H p = none → Q (.ref p) (upd H p (.lst ys))
theorem cr_sortedT3 : CallR X (.builtin "sorted") (rSortedT3 X.K) := by
  intro pins s σ H vs us Q I r h
  obtain ⟨a, xs, k, rfl, hs, hx, q⟩ := h
  obtain ⟨its, rv, hl, hz⟩ := I.list hs
  obtain ⟨u, rfl, ru⟩ := vals1 r
  obtain rfl : u = Value.ref a := ru
  obtain ⟨e1, e2⟩ := refs_back rv fun x m => by
    obtain ⟨t, e, _⟩ := hx x m
    exact ⟨t, e⟩
  have hit : ∀ v ∈ its, IsIT s.heap v (k (backV v)) ∧ k (backV v) ≠ [] := fun v hv => by
    obtain ⟨t, rfl⟩ := e2 v hv
    have hm : V.ref t ∈ xs := by rw [e1]; exact List.mem_map.mpr ⟨_, hv, rfl⟩
    obtain ⟨t', e, ht, ne⟩ := hx _ hm
    cases e
    obtain ⟨its2, r2, ⟨o, ho, hc, n, hd⟩, _⟩ := I.tuple ht
    exact ⟨⟨t, o, _, n, rfl, ho, hc, hd, intsAre_of r2⟩, ne⟩
  refine SrtO.sorted_ord (NtL.swo_lexL fun u => k (backV u)) hl.isList (by rw [← rv.length]; exact hz) (fun h2 h₁ a' ha' kk => ?_) fun out h1 h2 => ?_
  · refine it_sortable (s := { s with heap := h₁ }) (by omega) (fun v hm => ⟨(hit v hm).1.keeps fun b o e _ => (kk b o e).2, (hit v hm).2⟩) fun o e => ?_
    have e' : some o = some (seqObj "list" its.toArray 0) := e.symm.trans ha'
    cases e'
    intro c
    exact absurd (Value.type.inj c) (by decide)
  · have h3 : ∀ u ∈ out, ∃ a, u = Value.ref a := fun u hu => e2 u (h2.perm.mem_iff.mp hu)
    have hp : (out.map backV).Perm xs := by rw [e1]; exact h2.perm.map _
    obtain ⟨n, hn⟩ := sortedAll_at s.heap its out.toArray
    refine ⟨.ref (s.heap.objs.size + 1), upd H (s.heap.objs.size + 1) (.lst (out.map backV)), I.laid (t' := s.toks) (fun b o e => sortedAll_old e) (Nat.le_succ _) ⟨?_, out, n, vals_back h3, hn⟩, rfl, q _ _ (SrtO.srtd_map h1) hp (I.hok.fresh (Nat.le_succ _))⟩
    rw [hp.length_eq]
    exact hz
theorem op_inDK {K : PySem.W.Frag} (h : X.K = K) (hu : X.A.units + 65 < cLine) : OpR X (compareOp .In) (rInD K) := h ▸ op_inD hu
theorem op_notInDK {K : PySem.W.Frag} (h : X.K = K) (hu : X.A.units + 65 < cLine) : OpR X (compareOp .NotIn) (rNotInD K) := h ▸ op_notInD hu
theorem call_list_ofK {K : PySem.W.Frag} (h : X.K = K) : CallR X (.type "list") (fun xs H Q => ∃ p ys, xs = [.ref p] ∧ (SqL K H p ys ∨ SqT K H p ys) ∧ ∀ l, H l = none → Q (.ref l) (upd H l (.lst ys))) := h ▸ call_list_of
end
/-! ### a list of labels, sorted -/
def toIv : V → Int
  | .int i => i
  | _ => 0
def labK (H : Hp) : V → List Int
  | .ref t => match H t with | some (.tup xs) => xs.map toIv | _ => []
  | _ => []
theorem labK_at {H : Hp} {t : Addr} {L : List Int} (h : H t = some (.tup (L.map V.int))) : labK H (.ref t) = L := by
  show (match H t with | some (.tup xs) => xs.map toIv | _ => []) = L
  rw [h]
  show (L.map V.int).map toIv = L
  rw [List.map_map]
  exact List.map_id _
theorem lexLt_total : ∀ a b : List Int, HT.lexLt a b = false → HT.lexLt b a = false → a = b
  | [], [], _, _ => rfl
  | [], y :: s, h, _ => by rw [HT.lexLt_nil_cons] at h; cases h
  | x :: r, [], _, h => by rw [HT.lexLt_nil_cons] at h; cases h
  | x :: r, y :: s, h1, h2 => by
    rw [HT.lexLt_cons] at h1 h2
    by_cases e : x = y
    · subst e
      rw [if_pos rfl] at h1 h2
      rw [lexLt_total r s h1 h2]
    · rw [if_neg e] at h1
      rw [if_neg (fun z => e z.symm)] at h2
      have := of_decide_eq_false h1
      have := of_decide_eq_false h2
      omega
/-! ### order of data that are alike, and x in a tuple of data -/
section
variable {X : Cx}
def rCmpD (K : PySem.W.Frag) (f : PyData → PyData → Bool) : R2 := fun x y H Q => ∃ d e, Dp K H x d ∧ Dp K H y e ∧ PySem.W.alike d e = true ∧ d ≠ .none ∧ d.depth ≤ 60 ∧ Q (.bl (f d e)) H
theorem op_ltD (hu : X.A.units + 65 < cLine) : OpR X (compareOp .Lt) (rCmpD X.K fun d e => PySem.W.dataLt d e) := by
  intro pins s σ H x y v u Q I rx ry h
  obtain ⟨d, e, hd, he, al, nn, dep, q⟩ := h
  obtain ⟨as, r1⟩ := Dp.reads I d x v hd rx
  obtain ⟨bs, r2⟩ := Dp.reads I e y u he ry
  exact PySem.W.lt_data r1 r2 al nn (by omega) ⟨.bl _, H, I, rfl, q⟩
theorem op_leD (hu : X.A.units + 65 < cLine) : OpR X (compareOp .LtE) (rCmpD X.K fun d e => !PySem.W.dataLt e d) := by
  intro pins s σ H x y v u Q I rx ry h
  obtain ⟨d, e, hd, he, al, nn, dep, q⟩ := h
  obtain ⟨as, r1⟩ := Dp.reads I d x v hd rx
  obtain ⟨bs, r2⟩ := Dp.reads I e y u he ry
  exact PySem.W.le_data r1 r2 al nn (by omega) ⟨.bl _, H, I, rfl, q⟩
theorem op_gtD (hu : X.A.units + 65 < cLine) : OpR X (compareOp .Gt) (rCmpD X.K fun d e => PySem.W.dataLt e d) := by
  intro pins s σ H x y v u Q I rx ry h
  obtain ⟨d, e, hd, he, al, nn, dep, q⟩ := h
  obtain ⟨as, r1⟩ := Dp.reads I d x v hd rx
  obtain ⟨bs, r2⟩ := Dp.reads I e y u he ry
  exact PySem.W.gt_data r1 r2 al nn (by omega) ⟨.bl _, H, I, rfl, q⟩
theorem op_geD (hu : X.A.units + 65 < cLine) : OpR X (compareOp .GtE) (rCmpD X.K fun d e => !PySem.W.dataLt d e) := by
  intro pins s σ H x y v u Q I rx ry h
  obtain ⟨d, e, hd, he, al, nn, dep, q⟩ := h
  obtain ⟨as, r1⟩ := Dp.reads I d x v hd rx
  obtain ⟨bs, r2⟩ := Dp.reads I e y u he ry
  exact PySem.W.ge_data r1 r2 al nn (by omega) ⟨.bl _, H, I, rfl, q⟩
/-- x in c, c a list or a tuple of data -/
def rInDD (K : PySem.W.Frag) (neg : Bool) : R2 := fun x y H Q => ∃ d ds, Dp K H x d ∧ (Dp K H y (.list ds) ∨ Dp K H y (.tuple ds)) ∧ SeqAt.shaped d = true ∧ SeqAt.shaped (.list ds) = true ∧ Q (.bl (neg != ds.any fun z => PyData.eqv z d)) H
theorem op_inDD (hu : X.A.units + 65 < cLine) : OpR X (compareOp .In) (rInDD X.K false) := by
  intro pins s σ H x y v u Q I rx ry h
  obtain ⟨d, ds, hd, he, sd, se, q⟩ := h
  obtain ⟨as, r1⟩ := Dp.reads I d x v hd rx
  rw [Bool.false_bne] at q
  rcases he with he | he
  · obtain ⟨bs, r2⟩ := Dp.reads I (.list ds) y u he ry
    exact SeqAt.in_list_reads r2 r1 (SeqAt.canLay_of_shaped se) (SeqAt.canLay_of_shaped sd) (room_in_shaped sd hu) ⟨.bl _, H, I, rfl, q⟩
  · obtain ⟨bs, r2⟩ := Dp.reads I (.tuple ds) y u he ry
    exact SeqAt.in_tuple_reads r2 r1 (SeqAt.canLay_of_shaped se) (SeqAt.canLay_of_shaped sd) (room_in_shaped sd hu) ⟨.bl _, H, I, rfl, q⟩
theorem op_notInDD (hu : X.A.units + 65 < cLine) : OpR X (compareOp .NotIn) (rInDD X.K true) := by
  intro pins s σ H x y v u Q I rx ry h
  obtain ⟨d, ds, hd, he, sd, se, q⟩ := h
  obtain ⟨as, r1⟩ := Dp.reads I d x v hd rx
  rw [Bool.true_bne] at q
  rcases he with he | he
  · obtain ⟨bs, r2⟩ := Dp.reads I (.list ds) y u he ry
    exact SeqAt.notIn_list_reads r2 r1 (SeqAt.canLay_of_shaped se) (SeqAt.canLay_of_shaped sd) (room_in_shaped sd hu) ⟨.bl _, H, I, rfl, q⟩
  · obtain ⟨bs, r2⟩ := Dp.reads I (.tuple ds) y u he ry
    exact SeqAt.notIn_tuple_reads r2 r1 (SeqAt.canLay_of_shaped se) (SeqAt.canLay_of_shaped sd) (room_in_shaped sd hu) ⟨.bl _, H, I, rfl, q⟩
end
abbrev TO := PyProof.Rows.listOrd PyProof.Rows.itemOrd
theorem dlt_trans {a b c : PyData} (h1 : PySem.W.dataLt a b = true) (h2 : PySem.W.dataLt b c = true) : PySem.W.dataLt a c = true := TO.trans _ _ _ h1 h2
theorem dle_trans {a b c : PyData} (h1 : PySem.W.dataLt b a = false) (h2 : PySem.W.dataLt c b = false) : PySem.W.dataLt c a = false := by
  cases e : PySem.W.dataLt c a with
  | false => rfl
  | true =>
    rcases TO.negTrans _ (PySem.W.keyToks b) _ e with h | h
    · exact h.symm.trans h2
    · exact h.symm.trans h1
theorem dlt_irrefl (a : PyData) : PySem.W.dataLt a a = false := TO.irrefl _
/-- what the order of a label's signs says -/
theorem dlt_ints : ∀ L M : List Int, PyProof.Rows.lexLt PyProof.Rows.itemOrd (PySem.W.keyToksAll (L.map PyData.int)) (PySem.W.keyToksAll (M.map PyData.int)) = HT.lexLt L M
  | [], [] => by decide +kernel
  | [], y :: s => by
    show PyProof.Rows.lexLt PyProof.Rows.itemOrd (PySem.W.keyToksAll []) (PySem.W.keyToksAll (PyData.int y :: s.map PyData.int)) = true
    rw [PySem.W.toks_all_cons, PySem.W.keyToksAll, PySem.W.lex_atom (by simp), PySem.W.lex_one]
    decide +kernel
  | x :: r, [] => by
    show PyProof.Rows.lexLt PyProof.Rows.itemOrd (PySem.W.keyToksAll (PyData.int x :: r.map PyData.int)) (PySem.W.keyToksAll []) = false
    rw [PySem.W.toks_all_cons, PySem.W.keyToksAll, PySem.W.lex_atom (by simp), PySem.W.lex_one]
    decide +kernel
  | x :: r, y :: s => by
    show PyProof.Rows.lexLt PyProof.Rows.itemOrd (PySem.W.keyToksAll (PyData.int x :: r.map PyData.int)) (PySem.W.keyToksAll (PyData.int y :: s.map PyData.int)) = HT.lexLt (x :: r) (y :: s)
    rw [HT.lexLt_cons]
    have al : PySem.W.alike (.int x) (.int y) = true := rfl
    by_cases e : x = y
    · subst e
      rw [if_pos rfl, PySem.W.dataLt_all_yes al (by show (x == x) = true; exact beq_self_eq_true x)]
      exact dlt_ints r s
    · rw [if_neg e, PySem.W.dataLt_all_no al (by show (x == y) = false; exact beq_eq_false_iff_ne.mpr e), PySem.W.dataLt_int]
theorem dlt_L (L M : List Int) : PySem.W.dataLt (dL L) (dL M) = HT.lexLt L M := by
  unfold dL
  rw [PySem.W.dataLt_tuple, dlt_ints]
theorem alike_ints : ∀ L M : List Int, PySem.W.alikeAll (L.map PyData.int) (M.map PyData.int) = true
  | [], _ => by rw [List.map_nil, PySem.W.alikeAll]
  | _ :: _, [] => by rw [List.map_nil, List.map_cons, PySem.W.alikeAll]
  | _ :: r, _ :: s => by rw [List.map_cons, List.map_cons, PySem.W.alikeAll, alike_ints r s]; rfl
theorem alike_L (L M : List Int) : PySem.W.alike (dL L) (dL M) = true := by
  unfold dL
  rw [PySem.W.alike]
  exact alike_ints L M
theorem alike_P (p q : Pg) : PySem.W.alike (dP p) (dP q) = true := by
  unfold dP
  rw [PySem.W.alike, PySem.W.alikeAll, alike_L, PySem.W.alikeAll, PySem.W.alikeAll]
  rfl
theorem depthL (L : List Int) : (dL L).depth ≤ 1 := (lay_pn 1 _ (pn_L L)).2
theorem depthP (p : Pg) : (dP p).depth ≤ 2 := (lay_pn 2 _ (pn_P p)).2
theorem eqv_L (L M : List Int) : PyData.eqv (dL L) (dL M) = decide (L = M) := eqv_ints L M
theorem eqv_P (p q : Pg) : PyData.eqv (dP p) (dP q) = decide (p = q) := by
  show (PyData.eqv (dL p.1) (dL q.1) && ((p.2 == q.2) && true)) = _
  rw [eqv_L]
  by_cases h : p.1 = q.1
  · by_cases h2 : p.2 = q.2
    · have e : p = q := Prod.ext h h2
      subst e
      simp
    · have e : p ≠ q := fun z => h2 (by rw [z])
      simp [h, h2, e]
  · have e : p ≠ q := fun z => h (by rw [z])
    simp [h, e]
/-- pages in their order -/
def ltP (p q : Pg) : Bool := PySem.W.dataLt (dP p) (dP q)
def leP (p q : Pg) : Bool := !ltP q p
theorem leP_trans {p q r : Pg} (h1 : leP p q = true) (h2 : leP q r = true) : leP p r = true := by
  unfold leP ltP at *
  rw [Bool.not_eq_true'] at *
  exact dle_trans h1 h2
/-! ### the rules that speak of what is written, their fragment told (within a comprehension) -/
section
variable {X : Cx} {K : PySem.W.Frag}
theorem call_len_seqK (h : X.K = K) : CallR X (.builtin "len") (fun xs H Q => ∃ p ys, xs = [.ref p] ∧ (SqL K H p ys ∨ SqT K H p ys) ∧ Q (.int ys.length) H) := h ▸ call_len_seq
theorem cr_allK (h : X.K = K) (hc : X.calm = true) : CallR X (.builtin "all") (rAll K) := h ▸ cr_all hc
theorem cr_anyK (h : X.K = K) (hc : X.calm = true) : CallR X (.builtin "any") (rAny K) := h ▸ cr_any hc
theorem sl_listK (h : X.K = K) : SlR X (rSlL K) := h ▸ sl_list
theorem sl_tupAK (h : X.K = K) : SlR X (rSlA K) := h ▸ sl_tupA
theorem op_in_seqK (h : X.K = K) : OpR X (compareOp .In) (rIn K false) := h ▸ op_in_seq
theorem op_notIn_seqK (h : X.K = K) : OpR X (compareOp .NotIn) (rIn K true) := h ▸ op_notIn_seq
theorem op_eqDK (h : X.K = K) (hu : X.A.units + 64 < cLine) : OpR X (compareOp .Eq) (rEqD K) := h ▸ op_eqD hu
theorem op_neDK (h : X.K = K) (hu : X.A.units + 64 < cLine) : OpR X (compareOp .NotEq) (rNeD K) := h ▸ op_neD hu
theorem op_catAK (h : X.K = K) : OpR X (binaryOp .Add) (rCatA K) := h ▸ op_catA
theorem call_tuple_ofK (h : X.K = K) : CallR X (.type "tuple") (fun xs H Q => ∃ p ys, xs = [.ref p] ∧ ((SqL K H p ys ∧ ∀ l, H l = none → Q (.ref l) (upd H l (.tup ys))) ∨ (SqT K H p ys ∧ Q (.ref p) H))) := h ▸ call_tuple_of
theorem call_isiK' (h : X.K = K) : CallR X (.builtin "isinstance") (rIsi K) := h ▸ call_isi
theorem call_isiTK (h : X.K = K) : CallR X (.builtin "isinstance") (rIsiT K) := h ▸ call_isiT
theorem cr_sumK (h : X.K = K) (hc : X.calm = true) : CallR X (.builtin "sum") (rSum K) := h ▸ cr_sum hc
theorem cr_maxK (h : X.K = K) (hc : X.calm = true) : CallR X (.builtin "max") (rMax K) := h ▸ cr_max hc
theorem cr_minK (h : X.K = K) (hc : X.calm = true) : CallR X (.builtin "min") (rMin K) := h ▸ cr_min hc
theorem op_ltDK (h : X.K = K) (hu : X.A.units + 65 < cLine) : OpR X (compareOp .Lt) (rCmpD K fun d e => PySem.W.dataLt d e) := h ▸ op_ltD hu
theorem op_leDK (h : X.K = K) (hu : X.A.units + 65 < cLine) : OpR X (compareOp .LtE) (rCmpD K fun d e => !PySem.W.dataLt e d) := h ▸ op_leD hu
theorem op_gtDK (h : X.K = K) (hu : X.A.units + 65 < cLine) : OpR X (compareOp .Gt) (rCmpD K fun d e => PySem.W.dataLt e d) := h ▸ op_gtD hu
theorem op_geDK (h : X.K = K) (hu : X.A.units + 65 < cLine) : OpR X (compareOp .GtE) (rCmpD K fun d e => !PySem.W.dataLt d e) := h ▸ op_geD hu
theorem op_inDDK (h : X.K = K) (hu : X.A.units + 65 < cLine) : OpR X (compareOp .In) (rInDD K false) := h ▸ op_inDD hu
theorem op_notInDDK (h : X.K = K) (hu : X.A.units + 65 < cLine) : OpR X (compareOp .NotIn) (rInDD K true) := h ▸ op_notInDD hu
variable {tg l : Expr} {tl : TE}
theorem pi_listK (h : X.K = K) (hl : PE X l tl) : PI X tg l (iList K tl) := h ▸ pi_list hl
theorem pi_tupK (h : X.K = K) (hl : PE X l tl) : PI X tg l (iTup K tl) := h ▸ pi_tup hl
def tTru (K : PySem.W.Frag) (ta : TE) : TT := fun σ H Q => ta σ H fun x H' => ∃ k, TruV K x H' k ∧ Q k H'
theorem pt_truthK {a : Expr} {ta : TE} (h : X.K = K) (ha : PE X a ta) (he : ∀ whole, isTrue a X.env whole = (do let v ← whole; standAt a.pos; holding [v] (truthy v))) : L2.PT X a (tTru K ta) := h ▸ pt_truth ha he
theorem pe_fldK {e : Expr} {f : Str} {pos : Pos} {ta : TE} (h : X.K = K) (he : PE X e ta) (hb : attributeBase e f X.env (eval e X.env) = eval e X.env) : PE X (.Attribute e f pos) (tFld K ta f) := h ▸ pe_fld he hb
end
/-! ### what stays: all but lists; data of tracked tuples -/
def NL (H H' : Hp) : Prop := ∀ b o, H b = some o → (∀ ys, o ≠ .lst ys) → H' b = some o
theorem NL.refl (H : Hp) : NL H H := fun _ _ e _ => e
theorem NL.trans {H H1 H2 : Hp} (x : NL H H1) (y : NL H1 H2) : NL H H2 := fun b o e n => y b o (x b o e n) n
theorem NL.of {H H' : Hp} (x : Same H H') : NL H H' := fun b o e _ => x b o e
theorem NL.but {a : Addr} {H H' : Hp} {ys : List V} (x : But a H H') (h : H a = some (.lst ys)) : NL H H' := fun b o e n => x b o (fun z => by
  rw [z, h] at e
  exact n ys (Option.some.inj e).symm) e
theorem Src.nl {a : Addr} {H H' : Hp} (s : Src H a) (x : But a H H') : NL H H' := by
  obtain ⟨g, y, c, e⟩ := s
  exact NL.but x e
theorem NL.put {D : Addr} {H H' : Hp} {ys : List V} (x : NL H H') (h : H' D = some (.lst ys)) (o : HO) : NL H (upd H' D o) := fun b u e n => by
  have e' := x b u e n
  rw [upd_ne (fun z => by rw [z, h] at e'; exact n ys (Option.some.inj e').symm)]
  exact e'
theorem NL.new {D : Addr} {H H' : Hp} (x : NL H H') (h : H' D = none) (o : HO) : NL H (upd H' D o) := fun b u e n => by
  have e' := x b u e n
  rw [upd_ne (ne_of_none e' h)]
  exact e'
theorem NL.seqT {K : PySem.W.Frag} {H H' : Hp} {p : Addr} {xs : List V} (x : NL H H') (h : SqT K H p xs) : SqT K H' p xs :=
  h.elim (fun r => .inl (r.elim (fun e => .inl (x p _ e (fun _ z => nomatch z))) (fun ⟨o, e⟩ => .inr ⟨o, x p _ e (fun _ z => nomatch z)⟩))) .inr
mutual
inductive Tp (H : Hp) : V → PyData → Prop
  | non : Tp H .non .none
  | bl (b : Bool) : Tp H (.bl b) (.bool b)
  | int (i : Int) : Tp H (.int i) (.int i)
  | str (z : Str) : Tp H (.str z) (.str z)
  | tup {a : Addr} {vs : List V} {ds : List PyData} (h : H a = some (.tup vs)) (r : TpAll H vs ds) : Tp H (.ref a) (.tuple ds)
inductive TpAll (H : Hp) : List V → List PyData → Prop
  | nil : TpAll H [] []
  | cons {v : V} {vs : List V} {d : PyData} {ds : List PyData} (h : Tp H v d) (r : TpAll H vs ds) : TpAll H (v :: vs) (d :: ds)
end
mutual
theorem Tp.nl {H H' : Hp} (m : NL H H') : ∀ {v : V} {d : PyData}, Tp H v d → Tp H' v d
  | _, _, .non => .non
  | _, _, .bl b => .bl b
  | _, _, .int i => .int i
  | _, _, .str z => .str z
  | _, _, .tup h r => .tup (m _ _ h (fun _ z => nomatch z)) (TpAll.nl m r)
theorem TpAll.nl {H H' : Hp} (m : NL H H') : ∀ {vs : List V} {ds : List PyData}, TpAll H vs ds → TpAll H' vs ds
  | _, _, .nil => .nil
  | _, _, .cons h r => .cons (Tp.nl m h) (TpAll.nl m r)
end
mutual
theorem Tp.dp {K : PySem.W.Frag} {H : Hp} : ∀ {v : V} {d : PyData}, Tp H v d → Dp K H v d
  | _, _, .non => .non
  | _, _, .bl b => .bl b
  | _, _, .int i => .int i
  | _, _, .str z => .str z
  | _, _, .tup h r => .tup (.inl (.inl h)) (TpAll.dp r)
theorem TpAll.dp {K : PySem.W.Frag} {H : Hp} : ∀ {vs : List V} {ds : List PyData}, TpAll H vs ds → DpAll K H vs ds
  | _, _, .nil => .nil
  | _, _, .cons h r => .cons (Tp.dp h) (TpAll.dp r)
end
theorem TpAll.len {H : Hp} : ∀ {vs : List V} {ds : List PyData}, TpAll H vs ds → vs.length = ds.length
  | _, _, .nil => rfl
  | _, _, .cons _ r => congrArg (· + 1) (TpAll.len r)
theorem TpAll.snoc {H : Hp} : ∀ {vs : List V} {ds : List PyData} {v : V} {d : PyData}, TpAll H vs ds → Tp H v d → TpAll H (vs ++ [v]) (ds ++ [d])
  | _, _, _, _, .nil, h => .cons h .nil
  | _, _, _, _, .cons k r, h => .cons k (TpAll.snoc r h)
theorem TpAll.app {H : Hp} : ∀ {vs : List V} {ds : List PyData} {us : List V} {es : List PyData}, TpAll H vs ds → TpAll H us es → TpAll H (vs ++ us) (ds ++ es)
  | _, _, _, _, .nil, h => h
  | _, _, _, _, .cons k r, h => .cons k (TpAll.app r h)
theorem TpAll.get {H : Hp} : ∀ {vs : List V} {ds : List PyData} {i : Nat} {v : V}, TpAll H vs ds → vs[i]? = some v → ∃ d, ds[i]? = some d ∧ Tp H v d
  | _, _, _, _, .nil, e => nomatch e
  | _, _, 0, _, .cons h r, e => by
    injection e with e
    subst e
    exact ⟨_, rfl, h⟩
  | _, _, i + 1, _, .cons h r, e => by
    obtain ⟨d, e1, e2⟩ := TpAll.get (i := i) r e
    exact ⟨d, e1, e2⟩
theorem TpAll.get2 {H : Hp} {vs : List V} {ds : List PyData} {i : Nat} {d : PyData} (h : TpAll H vs ds) (e : ds[i]? = some d) : ∃ v, vs[i]? = some v ∧ Tp H v d := by
  have hi := (List.getElem?_eq_some_iff.mp e).1
  rw [← h.len] at hi
  have e1 := List.getElem?_eq_getElem hi
  obtain ⟨d', e2, e3⟩ := h.get e1
  rw [e] at e2
  injection e2 with e2
  subst e2
  exact ⟨_, e1, e3⟩
theorem TpAll.drop {H : Hp} : ∀ {vs : List V} {ds : List PyData} (n : Nat), TpAll H vs ds → TpAll H (vs.drop n) (ds.drop n)
  | _, _, 0, h => h
  | _, _, _ + 1, .nil => .nil
  | _, _, n + 1, .cons _ r => TpAll.drop n r
theorem TpAll.take {H : Hp} : ∀ {vs : List V} {ds : List PyData} (n : Nat), TpAll H vs ds → TpAll H (vs.take n) (ds.take n)
  | _, _, 0, _ => .nil
  | _, _, _ + 1, .nil => .nil
  | _, _, n + 1, .cons h r => .cons h (TpAll.take n r)
theorem TpAll.ints {H : Hp} : ∀ L : List Int, TpAll H (L.map V.int) (L.map PyData.int)
  | [] => .nil
  | i :: r => .cons (.int i) (TpAll.ints r)
theorem TpAll.strs {H : Hp} : ∀ L : List Str, TpAll H (L.map V.str) (L.map PyData.str)
  | [] => .nil
  | i :: r => .cons (.str i) (TpAll.strs r)
theorem TpAll.ints_inv {H : Hp} : ∀ {L : List Int} {vs : List V}, TpAll H vs (L.map PyData.int) → vs = L.map V.int
  | [], _, .nil => rfl
  | i :: r, _, .cons h a => by
    cases h
    rw [TpAll.ints_inv a]
    rfl
theorem TpAll.strs_inv {H : Hp} : ∀ {L : List Str} {vs : List V}, TpAll H vs (L.map PyData.str) → vs = L.map V.str
  | [], _, .nil => rfl
  | i :: r, _, .cons h a => by
    cases h
    rw [TpAll.strs_inv a]
    rfl
def dS (zs : List Str) : PyData := .tuple (zs.map PyData.str)
theorem tpL {H : Hp} {a : Addr} {L : List Int} (h : H a = some (.tup (L.map V.int))) : Tp H (.ref a) (dL L) := .tup h (.ints L)
theorem tpS {H : Hp} {a : Addr} {L : List Str} (h : H a = some (.tup (L.map V.str))) : Tp H (.ref a) (dS L) := .tup h (.strs L)
theorem tpL_inv {H : Hp} {v : V} {L : List Int} (h : Tp H v (dL L)) : ∃ a, v = .ref a ∧ H a = some (.tup (L.map V.int)) := by
  cases h with
  | tup h r => exact ⟨_, rfl, by rw [r.ints_inv] at h; exact h⟩
theorem tpS_inv {H : Hp} {v : V} {L : List Str} (h : Tp H v (dS L)) : ∃ a, v = .ref a ∧ H a = some (.tup (L.map V.str)) := by
  cases h with
  | tup h r => exact ⟨_, rfl, by rw [r.strs_inv] at h; exact h⟩
theorem tpP_inv {H : Hp} {v : V} {p : Pg} (h : Tp H v (dP p)) : ∃ a l, v = .ref a ∧ H a = some (.tup [.ref l, .int p.2]) ∧ H l = some (.tup (p.1.map V.int)) := by
  cases h with
  | tup h r =>
    cases r with
    | cons h1 r =>
      cases r with
      | cons h2 r =>
        cases r
        cases h2
        obtain ⟨l, rfl, hl⟩ := tpL_inv h1
        exact ⟨_, l, rfl, h, hl⟩
theorem tpP {H : Hp} {a l : Addr} {p : Pg} (h : H a = some (.tup [.ref l, .int p.2])) (hl : H l = some (.tup (p.1.map V.int))) : Tp H (.ref a) (dP p) := .tup h (.cons (tpL hl) (.cons (.int _) .nil))
theorem tpR_inv {H : Hp} {v : V} {r : Pg × Pg} (h : Tp H v (dR r)) : ∃ a x y, v = .ref a ∧ H a = some (.tup [x, y]) ∧ Tp H x (dP r.1) ∧ Tp H y (dP r.2) := by
  cases h with
  | tup h r =>
    cases r with
    | cons h1 r =>
      cases r with
      | cons h2 r =>
        cases r
        exact ⟨_, _, _, rfl, h, h1, h2⟩
theorem tpR {H : Hp} {a : Addr} {x y : V} {p q : Pg} (h : H a = some (.tup [x, y])) (h1 : Tp H x (dP p)) (h2 : Tp H y (dP q)) : Tp H (.ref a) (dR (p, q)) := .tup h (.cons h1 (.cons h2 .nil))
theorem smallM {n : Nat} (h : n < 1000000) : n < sizeLine := by rw [sizeLine_eq]; omega
theorem seqT_butI {K : PySem.W.Frag} {H H' : Hp} {x C dx p : Addr} {fs : List (Str × V)} {ys : List V} (hx : H x = some (.ins C dx fs)) (b : But x H H') (h : SqT K H p ys) : SqT K H' p ys :=
  h.elim (fun r => .inl (r.elim (fun e => .inl (b p _ (ne_of e hx (by intro z; cases z)) e)) (fun ⟨o, e⟩ => .inr ⟨o, b p _ (ne_of e hx (by intro z; cases z)) e⟩))) .inr
theorem tpAll_labs {H : Hp} : ∀ {us : List V} {Ls : List (List Int)}, TpAll H us (Ls.map dL) → us.map (labK H) = Ls ∧ ∀ u ∈ us, ∃ t, u = V.ref t ∧ H t = some (.tup ((labK H u).map V.int))
  | [], [], .nil => ⟨rfl, fun _ h => nomatch h⟩
  | _ :: _, L :: r, .cons h t => by
    obtain ⟨e1, e2⟩ := tpAll_labs t
    obtain ⟨a, rfl, ha⟩ := tpL_inv h
    have e3 := labK_at ha
    refine ⟨by rw [List.map_cons, e1, e3], fun u hu => ?_⟩
    rcases List.mem_cons.mp hu with h | h
    · rw [h]; exact ⟨a, rfl, by rw [e3]; exact ha⟩
    · exact e2 u h
theorem labs_tpAll {H : Hp} : ∀ {us : List V}, (∀ u ∈ us, ∃ t, u = V.ref t ∧ H t = some (.tup ((labK H u).map V.int))) → TpAll H us ((us.map (labK H)).map dL)
  | [], _ => .nil
  | u :: r, h => by
    obtain ⟨t, rfl, ht⟩ := h u (List.mem_cons_self ..)
    exact .cons (tpL ht) (labs_tpAll fun v hv => h v (List.mem_cons_of_mem _ hv))
theorem pn_Ls {Ls : List (List Int)} : SeqAt.shaped (.list (Ls.map dL)) = true := shaped_pnl (n := 1) (fun d hd => by obtain ⟨p, _, rfl⟩ := List.mem_map.mp hd; exact pn_L p) (by decide)
theorem shaped_L (L : List Int) : SeqAt.shaped (dL L) = true := shaped_pn (pn_L L) (by decide)
theorem in_L (L : List Int) (Ls : List (List Int)) : ((Ls.map dL).any fun z => PyData.eqv z (dL L)) = decide (L ∈ Ls) := by
  induction Ls with
  | nil => simp
  | cons q r ih =>
    rw [List.map_cons, List.any_cons, ih, eqv_L]
    by_cases h : q = L
    · subst h; simp
    · have : L ≠ q := fun z => h z.symm
      simp [h, this]
/-! ### data given as lists where it was tuples -/
def Pl : Nat → PyData → Prop
  | 0, _ => False
  | _ + 1, .int _ => True
  | n + 1, .tuple ds => ds.length ≤ 1000 ∧ ∀ d ∈ ds, Pl n d
  | _ + 1, _ => False
mutual
def toL : PyData → PyData
  | .tuple ds => .list (toLs ds)
  | d => d
def toLs : List PyData → List PyData
  | [] => []
  | d :: r => toL d :: toLs r
end
theorem toLs_map : ∀ ds : List PyData, toLs ds = ds.map toL
  | [] => rfl
  | d :: r => congrArg (toL d :: ·) (toLs_map r)
theorem toLs_ints (L : List Int) : toLs (L.map PyData.int) = L.map PyData.int := by
  induction L with
  | nil => rfl
  | cons i t ih => show PyData.int i :: toLs (t.map PyData.int) = _; rw [ih]; rfl
theorem lay_pl : ∀ (n : Nat) (d : PyData), Pl n d → (toL d).canLay0 = true ∧ (toL d).depth ≤ n
  | 0, _, h => h.elim
  | _ + 1, .int _, _ => ⟨rfl, Nat.zero_le _⟩
  | n + 1, .tuple ds, h => by
    have key : ∀ es : List PyData, (∀ d ∈ es, Pl n d) → PyData.canLayAll0 (toLs es) = true ∧ PyData.depthAll (toLs es) ≤ n := by
      intro es
      induction es with
      | nil => exact fun _ => ⟨rfl, Nat.zero_le _⟩
      | cons d r ih =>
        intro hh
        have h1 := lay_pl n d (hh d (List.mem_cons_self ..))
        have h2 := ih fun e he => hh e (List.mem_cons_of_mem _ he)
        refine ⟨?_, ?_⟩
        · show ((toL d).canLay0 && PyData.canLayAll0 (toLs r)) = true
          rw [h1.1, h2.1]
          rfl
        · show max (toL d).depth (PyData.depthAll (toLs r)) ≤ n
          omega
    have := key ds h.2
    exact ⟨this.1, Nat.succ_le_succ this.2⟩
  | _ + 1, .none, h => by simp [Pl] at h
  | _ + 1, .bool _, h => by simp [Pl] at h
  | _ + 1, .str _, h => by simp [Pl] at h
  | _ + 1, .list _, h => by simp [Pl] at h
  | _ + 1, .dict _, h => by simp [Pl] at h
theorem shaped_pl {n : Nat} {d : PyData} (h : Pl n d) (hn : n ≤ 64) : SeqAt.shaped (toL d) = true := by
  have := lay_pl n d h
  unfold SeqAt.shaped
  rw [Bool.and_eq_true]
  exact ⟨this.1, decide_eq_true (by omega)⟩
theorem eqv_pl {n : Nat} {d : PyData} (h : Pl n d) : PyData.eqv (toL d) (toL d) = true := SeqAt.eqv_refl _ (lay_pl n d h).1
theorem pl_dL {L : List Int} (h : L.length ≤ 1000) (n : Nat) : Pl (n + 2) (dL L) := ⟨by rw [List.length_map]; exact h, fun d hd => by
  obtain ⟨i, _, rfl⟩ := List.mem_map.mp hd
  exact trivial⟩
theorem pl_dP {p : Pg} (h : p.1.length ≤ 3) (n : Nat) : Pl (n + 3) (dP p) := ⟨(by show 2 ≤ 1000; decide), fun d hd => by
  rcases List.mem_cons.mp hd with rfl | hd
  · exact pl_dL (by omega) n
  · rw [List.mem_singleton.mp hd]; exact trivial⟩
theorem pl_dR' {r : Pg × Pg} (h : okP r.1 ∧ okP r.2) (n : Nat) : Pl (n + 4) (dR r) := ⟨(by show 2 ≤ 1000; decide), fun d hd => by
  rcases List.mem_cons.mp hd with rfl | hd
  · exact pl_dP h.1.1.1 n
  · rw [List.mem_singleton.mp hd]; exact pl_dP h.2.1.1 n⟩
theorem pl_tup {α : Type} {f : α → PyData} {n : Nat} {xs : List α} (h : ∀ x ∈ xs, Pl n (f x)) (hl : xs.length ≤ 1000) : Pl (n + 1) (.tuple (xs.map f)) := ⟨by rw [List.length_map]; exact hl, fun d hd => by
  obtain ⟨x, hx, rfl⟩ := List.mem_map.mp hd
  exact h x hx⟩
/-! ### list comprehensions whose turns change nothing that stood -/
theorem walkL {K : PySem.W.Frag} {a : Addr} {xs : List V} {n : Nat} (h : xs.length = n) : Walk (Itl K a) n (fun H => SqL K H a xs) (YAt xs) := h ▸ walk_list
theorem walkT {K : PySem.W.Frag} {a : Addr} {xs : List V} {n : Nat} (h : xs.length = n) : Walk (Itt K a) n (fun H => SqT K H a xs) (YAt xs) := h ▸ walk_tup
theorem walk_zipT {K : PySem.W.Frag} {a b : Addr} {xs ys : List V} {n : Nat} (hn : n = min xs.length ys.length) : Walk (RZ.ItzT K a b) n (fun H => SqT K H a xs ∧ SqT K H b ys) (YPair (fun i => xs[i]?) (fun i => ys[i]?)) := by
  subst hn
  refine ⟨fun i _ hi q => ?_, fun _ q => ⟨xs, ys, q.1, q.2, by omega⟩, fun i H v H' _ q y => ?_⟩
  · have h1 : i < xs.length := by omega
    have h2 : i < ys.length := by omega
    exact ⟨xs, ys, xs[i], ys[i], q.1, q.2, by simp [h1], by simp [h2]⟩
  · obtain ⟨p, x, z, h1, h2, h3, h4, h5⟩ := y
    exact ⟨p, x, z, h1, h2, h3, h4 xs q.1, h5 ys q.2⟩
section
variable {J : It} {G : Hp → Prop} {Y : Nat → Hp → V → Hp → Prop} {g : TG} {tt : TT} {te : TE} {vs : List Nat} {σ : L2.St} {H1 : Hp} {D : Addr} {Qd : Hp → Prop} {α : Type}
theorem fm_step {β : Type} {ds : List α} {f : α → Option β} {i : Nat} {d : α} (e : ds[i]? = some d) : (ds.take (i + 1)).filterMap f = (ds.take i).filterMap f ++ (f d).toList := by
  rw [List.take_add_one, e, List.filterMap_append, Option.toList_some, List.filterMap_cons, List.filterMap_nil]
  cases f d <;> rfl
theorem fm_len {β : Type} (ds : List α) (f : α → Option β) (i : Nat) : ((ds.take i).filterMap f).length ≤ ds.length := Nat.le_trans (List.length_filterMap_le ..) (by rw [List.length_take]; omega)
/-- the values are known -/
theorem lc_fm (ds : List α) (f : α → Option V) (w : Walk J ds.length G Y) (nD : H1 D = none) (hG : ∀ H, Same H1 H → G H) (hl : ds.length ≤ 100000)
    (hs : ∀ i d x H H', ds[i]? = some d → Same H1 H → Y i H x H' → ∀ (R : V → Hp → Prop) (N : Hp → Prop), (∀ v, f d = some v → ∀ H4, Same H H4 → R v H4) → (f d = none → ∀ H4, Same H H4 → N H4) →
      g x (wipe σ vs) H' fun σ2 H2 => wipe σ2 vs = wipe σ vs ∧ tt σ2 H2 fun b H3 => if b = true then te σ2 H3 R else N H3)
    (hd : ∀ H, Same H1 H → H D = some (.lst (ds.filterMap f)) → Qd H) :
    ∃ W : Nat → Nat → Hp → Prop, (∃ m, W 0 m (upd H1 D (.lst []))) ∧ ∀ i m H, W i m H →
      (J.stop i H ∧ Qd H) ∨ (J.go i H ∧ ∃ Nx : Hp → Prop, (∀ H', Nx H' → ∃ m', m' < m ∧ W (i + 1) m' H') ∧ ∀ x H', J.yld i H x H' → g x (wipe σ vs) H' fun σ2 H2 => wipe σ2 vs = wipe σ vs ∧ tt σ2 H2 fun b H3 =>
        if b = true then te σ2 H3 fun y H4 => ∃ acc, H4 D = some (.lst acc) ∧ acc.length < sizeLine ∧ Nx (upd H4 D (.lst (acc ++ [y]))) else Nx H3) := by
  refine lc_it w (fun i H => Same H1 H ∧ H D = some (.lst ((ds.take i).filterMap f))) ⟨same_upd nD, upd_same⟩ (fun i H _ h => hG H h.1) (fun i x H H' hi ⟨sm, eD⟩ y => ?_) (fun H ⟨sm, eD⟩ => hd H sm (by rw [List.take_length] at eD; exact eD))
  have ei := List.getElem?_eq_getElem hi
  refine hs i ds[i] x H H' ei sm y _ _ (fun v ev H4 s4 => ?_) (fun en H4 s4 => ?_)
  · refine ⟨_, s4 _ _ eD, ?_, same_put (sm.trans s4) nD _, ?_⟩
    · have := fm_len ds f i
      exact Nat.lt_of_le_of_lt (Nat.le_trans this hl) (by decide)
    · rw [upd_same, fm_step ei, ev]
      rfl
  · refine ⟨sm.trans s4, ?_⟩
    rw [fm_step ei, en, s4 _ _ eD]
    simp
/-- the data are known, all of tracked tuples -/
theorem lc_tp (ds : List α) (f : α → Option PyData) (w : Walk J ds.length G Y) (nD : H1 D = none) (hG : ∀ H, Same H1 H → G H) (hl : ds.length ≤ 100000)
    (hs : ∀ i d x H H', ds[i]? = some d → Same H1 H → Y i H x H' → ∀ (R : V → Hp → Prop) (N : Hp → Prop), (∀ v e, f d = some e → ∀ H4, Same H H4 → Tp H4 v e → R v H4) → (f d = none → ∀ H4, Same H H4 → N H4) →
      g x (wipe σ vs) H' fun σ2 H2 => wipe σ2 vs = wipe σ vs ∧ tt σ2 H2 fun b H3 => if b = true then te σ2 H3 R else N H3)
    (hd : ∀ H us, Same H1 H → H D = some (.lst us) → TpAll H us (ds.filterMap f) → Qd H) :
    ∃ W : Nat → Nat → Hp → Prop, (∃ m, W 0 m (upd H1 D (.lst []))) ∧ ∀ i m H, W i m H →
      (J.stop i H ∧ Qd H) ∨ (J.go i H ∧ ∃ Nx : Hp → Prop, (∀ H', Nx H' → ∃ m', m' < m ∧ W (i + 1) m' H') ∧ ∀ x H', J.yld i H x H' → g x (wipe σ vs) H' fun σ2 H2 => wipe σ2 vs = wipe σ vs ∧ tt σ2 H2 fun b H3 =>
        if b = true then te σ2 H3 fun y H4 => ∃ acc, H4 D = some (.lst acc) ∧ acc.length < sizeLine ∧ Nx (upd H4 D (.lst (acc ++ [y]))) else Nx H3) := by
  refine lc_it w (fun i H => Same H1 H ∧ ∃ us, H D = some (.lst us) ∧ TpAll H us ((ds.take i).filterMap f)) ⟨same_upd nD, [], upd_same, .nil⟩ (fun i H _ h => hG H h.1) (fun i x H H' hi ⟨sm, us, eD, tp⟩ y => ?_) (fun H ⟨sm, us, eD, tp⟩ => hd H us sm eD (by rw [List.take_length] at tp; exact tp))
  have ei := List.getElem?_eq_getElem hi
  refine hs i ds[i] x H H' ei sm y _ _ (fun v e ev H4 s4 tv => ?_) (fun en H4 s4 => ?_)
  · have e4 := s4 _ _ eD
    refine ⟨us, e4, ?_, same_put (sm.trans s4) nD _, us ++ [v], upd_same, ?_⟩
    · have := fm_len ds f i
      rw [← tp.len] at this
      exact Nat.lt_of_le_of_lt (Nat.le_trans this hl) (by decide)
    · rw [fm_step ei, ev]
      have m := (NL.refl H4).put e4 (.lst (us ++ [v]))
      exact ((tp.nl (NL.of s4)).nl m).snoc (tv.nl m)
  · refine ⟨sm.trans s4, us, s4 _ _ eD, ?_⟩
    rw [fm_step ei, en]
    simpa using tp.nl (NL.of s4)
end
theorem map_fm {α β : Type} (f : α → β) (ds : List α) : ds.filterMap (fun d => some (f d)) = ds.map f := by
  induction ds with
  | nil => rfl
  | cons d r ih => rw [List.filterMap_cons, ih]; rfl
theorem fm_filter {α β : Type} (p : α → Bool) (f : α → β) (ds : List α) : ds.filterMap (fun d => if p d = true then some (f d) else none) = (ds.filter p).map f := by
  induction ds with
  | nil => rfl
  | cons d r ih =>
    rw [List.filterMap_cons]
    cases e : p d with
    | true => rw [if_pos rfl, List.filter_cons_of_pos e, List.map_cons, ih]
    | false => rw [if_neg (by decide), List.filter_cons_of_neg (by rw [e]; decide), ih]
theorem all_map {α : Type} (p : α → Bool) (ds : List α) : (ds.map p).all id = ds.all p := by
  induction ds with
  | nil => rfl
  | cons d r ih => rw [List.map_cons, List.all_cons, List.all_cons, ih]; rfl
theorem any_map {α : Type} (p : α → Bool) (ds : List α) : (ds.map p).any id = ds.any p := by
  induction ds with
  | nil => rfl
  | cons d r ih => rw [List.map_cons, List.any_cons, List.any_cons, ih]; rfl
/-! ### two fors -/
section
variable {J J1 : It} {n n1 : Nat} {G G1 : Hp → Prop} {Y Y1 : Nat → Hp → V → Hp → Prop} {wi1 : TI} {g g1 : TG} {tt tt1 : TT} {te : TE} {vs vs1 : List Nat} {σ σ2 : L2.St} {H1 H4 : Hp} {D : Addr} {Qd Nx : Hp → Prop}
/-- the inner for, begun at H4 -/
theorem in2_it (w : Walk J1 n1 G1 Y1) (Pv : Nat → Hp → Prop) (h0 : Pv 0 H4) (hG : ∀ i H, i ≤ n1 → Pv i H → G1 H)
    (hs : ∀ i x H H', i < n1 → Pv i H → Y1 i H x H' → g1 x (wipe σ2 vs1) H' fun σ3 H5 => wipe σ3 vs1 = wipe σ2 vs1 ∧ tt1 σ3 H5 fun b H6 =>
      if b = true then te σ3 H6 fun y H7 => ∃ acc, H7 D = some (.lst acc) ∧ acc.length < sizeLine ∧ Pv (i + 1) (upd H7 D (.lst (acc ++ [y]))) else Pv (i + 1) H6) (hd : ∀ H, Pv n1 H → Nx H) :
    ∃ W1 : Nat → Nat → Hp → Prop, (∃ m, W1 0 m H4) ∧ ∀ j k H, W1 j k H →
      (J1.stop j H ∧ Nx H) ∨ (J1.go j H ∧ ∃ Nx1 : Hp → Prop, (∀ H', Nx1 H' → ∃ k', k' < k ∧ W1 (j + 1) k' H') ∧ ∀ x H', J1.yld j H x H' → g1 x (wipe σ2 vs1) H' fun σ3 H5 => wipe σ3 vs1 = wipe σ2 vs1 ∧ tt1 σ3 H5 fun b H6 =>
        if b = true then te σ3 H6 fun y H7 => ∃ acc, H7 D = some (.lst acc) ∧ acc.length < sizeLine ∧ Nx1 (upd H7 D (.lst (acc ++ [y]))) else Nx1 H6) := by
  refine ⟨fun i m H => m = n1 - i ∧ i ≤ n1 ∧ Pv i H, ⟨n1, by simp, Nat.zero_le _, h0⟩, ?_⟩
  rintro i m H ⟨rfl, hi, p⟩
  have q := hG i H hi p
  by_cases hlt : i < n1
  · exact .inr ⟨w.goes i H hlt q, Pv (i + 1), fun H' p' => ⟨n1 - (i + 1), by omega, rfl, hlt, p'⟩, fun x H' y => hs i x H H' hlt p (w.yields i H x H' hlt q y)⟩
  · have e : i = n1 := by omega
    subst e
    exact .inl ⟨w.stops H q, hd H p⟩
/-- the outer for: what the inner one is asked for, as it stands -/
theorem lc2_it (w : Walk J n G Y) (Pv : Nat → Hp → Prop) (h0 : Pv 0 (upd H1 D (.lst []))) (hG : ∀ i H, i ≤ n → Pv i H → G H)
    (hs : ∀ i x H H', i < n → Pv i H → Y i H x H' → g x (wipe σ vs) H' fun σ2 H2 => wipe σ2 vs = wipe σ vs ∧ tt σ2 H2 fun b H3 =>
      if b = true then wi1 σ2 H3 fun J1 H4 => ∃ W1 : Nat → Nat → Hp → Prop, (∃ m, W1 0 m H4) ∧ ∀ j k H, W1 j k H →
        (J1.stop j H ∧ Pv (i + 1) H) ∨ (J1.go j H ∧ ∃ Nx1 : Hp → Prop, (∀ H', Nx1 H' → ∃ k', k' < k ∧ W1 (j + 1) k' H') ∧ ∀ x H', J1.yld j H x H' → g1 x (wipe σ2 vs1) H' fun σ3 H5 => wipe σ3 vs1 = wipe σ2 vs1 ∧ tt1 σ3 H5 fun b H6 =>
          if b = true then te σ3 H6 fun y H7 => ∃ acc, H7 D = some (.lst acc) ∧ acc.length < sizeLine ∧ Nx1 (upd H7 D (.lst (acc ++ [y]))) else Nx1 H6)
      else Pv (i + 1) H3) (hd : ∀ H, Pv n H → Qd H) :
    ∃ W : Nat → Nat → Hp → Prop, (∃ m, W 0 m (upd H1 D (.lst []))) ∧ ∀ i m H, W i m H →
      (J.stop i H ∧ Qd H) ∨ (J.go i H ∧ ∃ Nx : Hp → Prop, (∀ H', Nx H' → ∃ m', m' < m ∧ W (i + 1) m' H') ∧ ∀ x H', J.yld i H x H' → g x (wipe σ vs) H' fun σ2 H2 => wipe σ2 vs = wipe σ vs ∧ tt σ2 H2 fun b H3 =>
        if b = true then wi1 σ2 H3 fun J1 H4 => ∃ W1 : Nat → Nat → Hp → Prop, (∃ m, W1 0 m H4) ∧ ∀ j k H, W1 j k H →
          (J1.stop j H ∧ Nx H) ∨ (J1.go j H ∧ ∃ Nx1 : Hp → Prop, (∀ H', Nx1 H' → ∃ k', k' < k ∧ W1 (j + 1) k' H') ∧ ∀ x H', J1.yld j H x H' → g1 x (wipe σ2 vs1) H' fun σ3 H5 => wipe σ3 vs1 = wipe σ2 vs1 ∧ tt1 σ3 H5 fun b H6 =>
            if b = true then te σ3 H6 fun y H7 => ∃ acc, H7 D = some (.lst acc) ∧ acc.length < sizeLine ∧ Nx1 (upd H7 D (.lst (acc ++ [y]))) else Nx1 H6)
        else Nx H3) := by
  refine ⟨fun i m H => m = n - i ∧ i ≤ n ∧ Pv i H, ⟨n, by simp, Nat.zero_le _, h0⟩, ?_⟩
  rintro i m H ⟨rfl, hi, p⟩
  have q := hG i H hi p
  by_cases hlt : i < n
  · exact .inr ⟨w.goes i H hlt q, Pv (i + 1), fun H' p' => ⟨n - (i + 1), by omega, rfl, hlt, p'⟩, fun x H' y => hs i x H H' hlt p (w.yields i H x H' hlt q y)⟩
  · have e : i = n := by omega
    subst e
    exact .inl ⟨w.stops H q, hd H p⟩
end
section
variable {K : PySem.W.Frag} {J : It} {G : Hp → Prop} {Y : Nat → Hp → V → Hp → Prop} {g : TG} {tt : TT} {te : TE} {vs : List Nat} {σ : L2.St} {H1 : Hp} {D : Addr} {Qd : Hp → Prop} {α : Type}
/-- the data are known, without lists -/
theorem lc_dp (ds : List α) (f : α → Option PyData) (hn : ∀ d e, f d = some e → ∃ n, Nl n e) (w : Walk J ds.length G Y) (nD : H1 D = none) (hG : ∀ H, Same H1 H → G H) (hl : ds.length ≤ 100000)
    (hs : ∀ i d x H H', ds[i]? = some d → Same H1 H → Y i H x H' → ∀ (R : V → Hp → Prop) (N : Hp → Prop), (∀ v e, f d = some e → ∀ H4, Same H H4 → Dp K H4 v e → R v H4) → (f d = none → ∀ H4, Same H H4 → N H4) →
      g x (wipe σ vs) H' fun σ2 H2 => wipe σ2 vs = wipe σ vs ∧ tt σ2 H2 fun b H3 => if b = true then te σ2 H3 R else N H3)
    (hd : ∀ H us, Same H1 H → H D = some (.lst us) → DpAll K H us (ds.filterMap f) → Qd H) :
    ∃ W : Nat → Nat → Hp → Prop, (∃ m, W 0 m (upd H1 D (.lst []))) ∧ ∀ i m H, W i m H →
      (J.stop i H ∧ Qd H) ∨ (J.go i H ∧ ∃ Nx : Hp → Prop, (∀ H', Nx H' → ∃ m', m' < m ∧ W (i + 1) m' H') ∧ ∀ x H', J.yld i H x H' → g x (wipe σ vs) H' fun σ2 H2 => wipe σ2 vs = wipe σ vs ∧ tt σ2 H2 fun b H3 =>
        if b = true then te σ2 H3 fun y H4 => ∃ acc, H4 D = some (.lst acc) ∧ acc.length < sizeLine ∧ Nx (upd H4 D (.lst (acc ++ [y]))) else Nx H3) := by
  refine lc_it w (fun i H => Same H1 H ∧ ∃ us, H D = some (.lst us) ∧ DpAll K H us ((ds.take i).filterMap f)) ⟨same_upd nD, [], upd_same, .nil⟩ (fun i H _ h => hG H h.1) (fun i x H H' hi ⟨sm, us, eD, tp⟩ y => ?_) (fun H ⟨sm, us, eD, tp⟩ => hd H us sm eD (by rw [List.take_length] at tp; exact tp))
  have ei := List.getElem?_eq_getElem hi
  refine hs i ds[i] x H H' ei sm y _ _ (fun v e ev H4 s4 tv => ?_) (fun en H4 s4 => ?_)
  · have e4 := s4 _ _ eD
    refine ⟨us, e4, ?_, same_put (sm.trans s4) nD _, us ++ [v], upd_same, ?_⟩
    · have := fm_len ds f i
      rw [← dpAll_len tp] at this
      exact Nat.lt_of_le_of_lt (Nat.le_trans this hl) (by decide)
    · rw [fm_step ei, ev]
      refine dpAll_snoc (dpAll_butN e4 (But.upd _) (dpAll_same s4 tp) fun d hd => ?_) (dp_butN e4 (But.upd _) tv (hn _ _ ev))
      obtain ⟨a, _, ea⟩ := List.mem_filterMap.mp hd
      exact hn _ _ ea
  · refine ⟨sm.trans s4, us, s4 _ _ eD, ?_⟩
    rw [fm_step ei, en]
    simpa using dpAll_same s4 tp
end
theorem nl_P (p : Pg) : ∃ n, Nl n (dP p) := ⟨2, fun d hd => by
  rcases List.mem_cons.mp hd with h | h
  · rw [h]
    exact fun e he => by
      obtain ⟨i, _, rfl⟩ := List.mem_map.mp he
      trivial
  · rw [List.mem_singleton.mp h]; trivial⟩
theorem nl_oP (o : Option Pg) : ∃ n, Nl n (oD dP o) := by
  cases o with
  | none => exact ⟨0, trivial⟩
  | some p => exact nl_P p
theorem in_P (p : Pg) (ps : List Pg) : ((ps.map dP).any fun z => PyData.eqv z (dP p)) = decide (p ∈ ps) := by
  induction ps with
  | nil => simp
  | cons q r ih =>
    rw [List.map_cons, List.any_cons, ih, eqv_P]
    by_cases h : q = p
    · subst h; simp
    · have : p ≠ q := fun z => h z.symm
      simp [h, this]
theorem shaped_P (p : Pg) : SeqAt.shaped (dP p) = true := shaped_pn (pn_P p) (by decide)
theorem shaped_Ps (ps : List Pg) : SeqAt.shaped (.list (ps.map dP)) = true := shaped_pnl (n := 2) (fun d hd => by obtain ⟨p, _, rfl⟩ := List.mem_map.mp hd; exact pn_P p) (by decide)
theorem nl_R (r : Pg × Pg) : ∃ n, Nl n (dR r) := ⟨3, fun d hd => by
  have two : ∀ p : Pg, Nl 2 (dP p) := fun p e he => by
    rcases List.mem_cons.mp he with h | h
    · rw [h]
      exact fun e he => by
        obtain ⟨i, _, rfl⟩ := List.mem_map.mp he
        trivial
    · rw [List.mem_singleton.mp h]; trivial
  rcases List.mem_cons.mp hd with h | h
  · rw [h]; exact two _
  · rw [List.mem_singleton.mp h]; exact two _⟩
/-! ### leaves and books in the heap -/
def gOr (a b : TG) : TG := fun v σ H Q => a v σ H Q ∨ b v σ H Q
abbrev Sk := (Int × Int × Int) × Str
def dSk (s : Sk) : PyData := .tuple [.int s.1.1, .int s.1.2.1, .int s.1.2.2, .str s.2]
def dPen (ss : List Sk) : PyData := .tuple (ss.map dSk)
def kSk (s : Sk) : List L2.Key := [.inl s.1.1, .inl s.1.2.1, .inl s.1.2.2]
def penT : List Sk → List (List L2.Key × V) := fun ss => ss.foldl (fun kvs s => putK kvs (kSk s) (.str s.2)) []
structure Lf where
  L : List Int
  fr : List Str
  bk : List Str
  pen : List Sk
def fLf (l f b p s : V) : List (Str × V) := [("label", l), ("front", f), ("back", b), ("pen", p), ("_strokes", s)]
def LfAt (C : Addr) (H : Hp) (v : V) (lf : Lf) : Prop := ∃ (x dx l f b p s : Addr), v = .ref x ∧ H x = some (.ins C dx (fLf (.ref l) (.ref f) (.ref b) (.ref p) (.ref s))) ∧ H l = some (.tup (lf.L.map V.int)) ∧
  H f = some (.tup (lf.fr.map V.str)) ∧ H b = some (.tup (lf.bk.map V.str)) ∧ Tp H (.ref p) (dPen lf.pen) ∧ H s = some (.dT (penT lf.pen))
inductive LfAll (C : Addr) (H : Hp) : List V → List Lf → Prop
  | nil : LfAll C H [] []
  | cons {v : V} {vs : List V} {l : Lf} {ls : List Lf} (h : LfAt C H v l) (r : LfAll C H vs ls) : LfAll C H (v :: vs) (l :: ls)
def fBk (l s : V) : List (Str × V) := [("leaves", l), ("_spots", s)]
/-- at each label the place of its leaf -/
def spots (ls : List Lf) : Nat → List (List L2.Key × V)
  | 0 => []
  | n + 1 => match ls[n]? with
    | some l => putK (spots ls n) (l.L.map Sum.inl) (.int (n : Nat))
    | none => spots ls n
def BkAt (C CB : Addr) (H : Hp) (v : V) (bk : List Lf) : Prop := ∃ (x dx l s : Addr) (vs : List V), v = .ref x ∧ H x = some (.ins CB dx (fBk (.ref l) (.ref s))) ∧ H l = some (.tup vs) ∧ LfAll C H vs bk ∧ H s = some (.dT (spots bk bk.length)) ∧ bk.length ≤ 60
theorem LfAt.nl {C : Addr} {H H' : Hp} {v : V} {lf : Lf} (m : NL H H') (h : LfAt C H v lf) : LfAt C H' v lf := by
  obtain ⟨x, dx, l, f, b, p, s, ev, h1, h2, h3, h4, h5, h6⟩ := h
  have k : ∀ {q : Addr} {o : HO}, H q = some o → (∀ ys, o ≠ .lst ys) → H' q = some o := fun e n => m _ _ e n
  exact ⟨x, dx, l, f, b, p, s, ev, k h1 (fun _ z => nomatch z), k h2 (fun _ z => nomatch z), k h3 (fun _ z => nomatch z), k h4 (fun _ z => nomatch z), h5.nl m, k h6 (fun _ z => nomatch z)⟩
theorem LfAll.nl {C : Addr} {H H' : Hp} (m : NL H H') : ∀ {vs : List V} {ls : List Lf}, LfAll C H vs ls → LfAll C H' vs ls
  | _, _, .nil => .nil
  | _, _, .cons h r => .cons (h.nl m) (LfAll.nl m r)
theorem LfAll.len {C : Addr} {H : Hp} : ∀ {vs : List V} {ls : List Lf}, LfAll C H vs ls → vs.length = ls.length
  | _, _, .nil => rfl
  | _, _, .cons _ r => congrArg (· + 1) (LfAll.len r)
theorem LfAll.snoc {C : Addr} {H : Hp} : ∀ {vs : List V} {ls : List Lf} {v : V} {l : Lf}, LfAll C H vs ls → LfAt C H v l → LfAll C H (vs ++ [v]) (ls ++ [l])
  | _, _, _, _, .nil, h => .cons h .nil
  | _, _, _, _, .cons k r, h => .cons k (LfAll.snoc r h)
theorem LfAll.get {C : Addr} {H : Hp} : ∀ {vs : List V} {ls : List Lf} {i : Nat} {v : V}, LfAll C H vs ls → vs[i]? = some v → ∃ l, ls[i]? = some l ∧ LfAt C H v l
  | _, _, _, _, .nil, e => nomatch e
  | _, _, 0, _, .cons h r, e => by
    injection e with e
    subst e
    exact ⟨_, rfl, h⟩
  | _, _, i + 1, _, .cons h r, e => by
    obtain ⟨d, e1, e2⟩ := LfAll.get (i := i) r e
    exact ⟨d, e1, e2⟩
theorem LfAll.get2 {C : Addr} {H : Hp} {vs : List V} {ls : List Lf} {i : Nat} {l : Lf} (h : LfAll C H vs ls) (e : ls[i]? = some l) : ∃ v, vs[i]? = some v ∧ LfAt C H v l := by
  have hi := (List.getElem?_eq_some_iff.mp e).1
  rw [← h.len] at hi
  have e1 := List.getElem?_eq_getElem hi
  obtain ⟨d', e2, e3⟩ := h.get e1
  rw [e] at e2
  injection e2 with e2
  subst e2
  exact ⟨_, e1, e3⟩
theorem BkAt.nl {C CB : Addr} {H H' : Hp} {v : V} {bk : List Lf} (m : NL H H') (h : BkAt C CB H v bk) : BkAt C CB H' v bk := by
  obtain ⟨x, dx, l, s, vs, ev, h1, h2, h3, h4, h5⟩ := h
  have k : ∀ {q : Addr} {o : HO}, H q = some o → (∀ ys, o ≠ .lst ys) → H' q = some o := fun e n => m _ _ e n
  exact ⟨x, dx, l, s, vs, ev, k h1 (fun _ z => nomatch z), k h2 (fun _ z => nomatch z), h3.nl m, k h4 (fun _ z => nomatch z), h5⟩
theorem spots_len (ls : List Lf) : ∀ n, (spots ls n).length ≤ n
  | 0 => Nat.le_refl _
  | n + 1 => by
    unfold spots
    cases ls[n]? with
    | none => exact Nat.le_succ_of_le (spots_len ls n)
    | some l => exact Nat.le_trans (length_putK _ _ _) (Nat.succ_le_succ (spots_len ls n))
theorem kL (L : List Int) : (L.map (Sum.inl : Int → L2.Key)).map kV = L.map V.int := by
  rw [List.map_map]
  rfl
theorem fLf_label {l f b p s : V} : (fLf l f b p s).lookup ("label" : Str) = some l := by
  have e : (("label" : Str) == ("label" : Str)) = true := beq_self_eq_true _
  simp only [fLf, List.lookup, e]
theorem fLf_front {l f b p s : V} : (fLf l f b p s).lookup ("front" : Str) = some f := by
  have e : (("front" : Str) == ("label" : Str)) = false := by decide +kernel
  have e2 : (("front" : Str) == ("front" : Str)) = true := beq_self_eq_true _
  simp only [fLf, List.lookup, e, e2]
theorem fLf_back {l f b p s : V} : (fLf l f b p s).lookup ("back" : Str) = some b := by
  have e : (("back" : Str) == ("label" : Str)) = false := by decide +kernel
  have e1 : (("back" : Str) == ("front" : Str)) = false := by decide +kernel
  have e2 : (("back" : Str) == ("back" : Str)) = true := beq_self_eq_true _
  simp only [fLf, List.lookup, e, e1, e2]
theorem fLf_pen {l f b p s : V} : (fLf l f b p s).lookup ("pen" : Str) = some p := by
  have e : (("pen" : Str) == ("label" : Str)) = false := by decide +kernel
  have e1 : (("pen" : Str) == ("front" : Str)) = false := by decide +kernel
  have e2 : (("pen" : Str) == ("back" : Str)) = false := by decide +kernel
  have e3 : (("pen" : Str) == ("pen" : Str)) = true := beq_self_eq_true _
  simp only [fLf, List.lookup, e, e1, e2, e3]
theorem fLf_strokes {l f b p s : V} : (fLf l f b p s).lookup ("_strokes" : Str) = some s := by
  have e : (("_strokes" : Str) == ("label" : Str)) = false := by decide +kernel
  have e1 : (("_strokes" : Str) == ("front" : Str)) = false := by decide +kernel
  have e2 : (("_strokes" : Str) == ("back" : Str)) = false := by decide +kernel
  have e3 : (("_strokes" : Str) == ("pen" : Str)) = false := by decide +kernel
  have e4 : (("_strokes" : Str) == ("_strokes" : Str)) = true := beq_self_eq_true _
  simp only [fLf, List.lookup, e, e1, e2, e3, e4]
theorem fLf_no {l f b p s : V} {m : Str} (h : ((m == ("label" : Str)) || (m == ("front" : Str)) || (m == ("back" : Str)) || (m == ("pen" : Str)) || (m == ("_strokes" : Str))) = false) : (fLf l f b p s).lookup m = none := by
  simp only [Bool.or_eq_false_iff] at h
  simp only [fLf, List.lookup, h.1.1.1.1, h.1.1.1.2, h.1.1.2, h.1.2, h.2]
theorem fBk_leaves {l s : V} : (fBk l s).lookup ("leaves" : Str) = some l := by
  have e : (("leaves" : Str) == ("leaves" : Str)) = true := beq_self_eq_true _
  simp only [fBk, List.lookup, e]
theorem fBk_spots {l s : V} : (fBk l s).lookup ("_spots" : Str) = some s := by
  have e : (("_spots" : Str) == ("leaves" : Str)) = false := by decide +kernel
  have e2 : (("_spots" : Str) == ("_spots" : Str)) = true := beq_self_eq_true _
  simp only [fBk, List.lookup, e, e2]
theorem fBk_no {l s : V} {m : Str} (h : ((m == ("leaves" : Str)) || (m == ("_spots" : Str))) = false) : (fBk l s).lookup m = none := by
  simp only [Bool.or_eq_false_iff] at h
  simp only [fBk, List.lookup, h.1, h.2]
/-- rows of words -/
def tokB (z : Str) : Bool := decide (1 ≤ z.length) && decide (z.length ≤ 20) && decide (32 ∉ z.cps.toList)
def rowB (z : Str) : Bool := decide (z.length ≤ 120) && decide ((Txt.split z " ").length ≤ 30) && (Txt.split z " ").all tokB
def rowsB (l : Nat) (zs : List Str) : Bool := decide (l ≤ zs.length) && decide (zs.length ≤ 12) && zs.all rowB
/-- the pages of a book -/
def allP (bk : List Lf) : List Pg := bk.flatMap fun l => [(l.L, 0), (l.L, 1)]
def sideP (l : Lf) : List Pg := (if l.fr = [] then [] else [(l.L, 0)]) ++ (if l.bk = [] then [] else [(l.L, 1)])
def shownP (bk : List Lf) : List Pg := bk.flatMap sideP
def dPs (ps : List Pg) : PyData := .tuple (ps.map dP)
/-- what is kept of a label, as a value -/
def KeptL (K : PySem.W.Frag) (H' : Hp) (v y : V) : Option (List Int) → Prop
  | none => y = .non
  | some L => (y = v ∧ ∃ a, v = .ref a ∧ SqT K H' a (L.map V.int)) ∨ ∃ b, y = .ref b ∧ H' b = some (.tup (L.map V.int))
theorem KeptL.dp {K : PySem.W.Frag} {H' : Hp} {v y : V} {o : Option (List Int)} (h : KeptL K H' v y o) : Dp K H' y (oD dL o) := by
  cases o with
  | none => cases h; exact .non
  | some L =>
    rcases h with ⟨rfl, a, rfl, h⟩ | ⟨b, rfl, h⟩
    · exact dpL h
    · exact dpL (.inl (.inl h))
/-- .. that was tracked -/
theorem KeptL.tup {K : PySem.W.Frag} {H H' : Hp} {a : Addr} {xs : List V} {y : V} {L : List Int} (m : NL H H') (e : H a = some (.tup xs)) (hx : xs = L.map V.int) (h : KeptL K H' (.ref a) y (some L)) : ∃ b, y = .ref b ∧ H' b = some (.tup (L.map V.int)) := by
  rcases h with ⟨rfl, _, _, _⟩ | h
  · exact ⟨a, rfl, by rw [← hx]; exact m _ _ e (fun _ z => nomatch z)⟩
  · exact h
/-- a page that is kept -/
def toI : PyData → Int
  | .int i => i
  | _ => 0
theorem kept_dL {L : List Int} (h : okL L) : keptD (dL L) = some L := by
  unfold keptD dL
  show keep ((L.map PyData.int).map toO) = some L
  rw [toO_ints h.2.2, keep_map, if_pos ⟨h.1, h.2.1⟩]
theorem kit_self {K : PySem.W.Frag} {C : Addr} : PySem.W.kitOne K (.ref C) (.ref C) = some true := if_pos (beq_self_eq_true _)
theorem NL.butI {H H' : Hp} {x C dx : Addr} (hx : H x = some (.ins C dx [])) (b : But x H H') {C' : Addr} {v : V} {lf : Lf} (h : LfAt C' H v lf) : LfAt C' H' v lf := by
  obtain ⟨y, dy, l, f, g, p, s, ev, h1, h2, h3, h4, h5, h6⟩ := h
  have k : ∀ {q : Addr} {o : HO}, H q = some o → o ≠ .ins C dx [] → H' q = some o := fun {q o} e n => b q o (fun z => n (by rw [z, hx] at e; exact (Option.some.inj e).symm)) e
  refine ⟨y, dy, l, f, g, p, s, ev, k h1 (by intro z; injection z with z1 z2 z3; cases z3), k h2 (fun z => nomatch z), k h3 (fun z => nomatch z), k h4 (fun z => nomatch z), ?_, k h6 (fun z => nomatch z)⟩
  have tp : ∀ {H1 : Hp}, (∀ q xs, H q = some (.tup xs) → H1 q = some (.tup xs)) → ∀ (ss : List Sk) {us : List V}, TpAll H us (ss.map dSk) → TpAll H1 us (ss.map dSk) := fun {H1} m ss => by
    induction ss with
    | nil => intro us t; cases t; exact .nil
    | cons q r ih =>
      intro us t
      cases t with
      | cons h0 t =>
        refine .cons ?_ (ih t)
        cases h0 with
        | tup e r4 =>
          refine .tup (m _ _ e) ?_
          cases r4 with
          | cons a1 r3 =>
            cases r3 with
            | cons a2 r2 =>
              cases r2 with
              | cons a3 r1 =>
                cases r1 with
                | cons a4 r0 =>
                  cases a1; cases a2; cases a3; cases a4; cases r0
                  exact .cons (.int _) (.cons (.int _) (.cons (.int _) (.cons (.str _) .nil)))
  cases h5 with
  | tup e r => exact .tup (k e (fun z => nomatch z)) (tp (fun q xs e => k e (fun z => nomatch z)) lf.pen r)
theorem LfAll.butI {H H' : Hp} {x C dx C' : Addr} (hx : H x = some (.ins C dx [])) (b : But x H H') : ∀ {vs : List V} {ls : List Lf}, LfAll C' H vs ls → LfAll C' H' vs ls
  | _, _, .nil => .nil
  | _, _, .cons h r => .cons (NL.butI hx b h) (LfAll.butI hx b r)
theorem allP_len : ∀ bk : List Lf, (allP bk).length = 2 * bk.length
  | [] => rfl
  | l :: r => by
    show ([(l.L, (0 : Int)), (l.L, 1)] ++ allP r).length = 2 * (r.length + 1)
    rw [List.length_append, allP_len r]
    show 2 + _ = _
    omega
def sideF (l : Lf) (s : Int) : Option Pg := if (if s = 1 then l.bk else l.fr) = [] then none else some (l.L, s)
theorem sideP_eq (l : Lf) : sideP l = [0, 1].filterMap (sideF l) := by
  unfold sideP sideF
  cases h1 : l.fr <;> cases h2 : l.bk <;> simp [h1, h2]
theorem shownP_snoc (bk : List Lf) (l : Lf) : shownP (bk ++ [l]) = shownP bk ++ sideP l := by
  unfold shownP
  rw [List.flatMap_append]
  simp
theorem shownP_len : ∀ bk : List Lf, (shownP bk).length ≤ 2 * bk.length
  | [] => Nat.le_refl _
  | l :: r => by
    show (sideP l ++ shownP r).length ≤ 2 * (r.length + 1)
    have := shownP_len r
    have h : (sideP l).length ≤ 2 := by
      rw [sideP_eq]
      exact List.length_filterMap_le ..
    rw [List.length_append]
    omega
theorem tru_tup {K : PySem.W.Frag} {H : Hp} {a : Addr} {xs : List V} (h : SqT K H a xs) : TruV K (.ref a) H (!xs.isEmpty) := .inr (.inl ⟨xs, h, rfl⟩)
theorem tru_lst {K : PySem.W.Frag} {H : Hp} {a : Addr} {xs : List V} (h : SqL K H a xs) : TruV K (.ref a) H (!xs.isEmpty) := .inl ⟨xs, h, rfl⟩
theorem sideF_none {l : Lf} {s : Int} (h : sideF l s = none) : (if s = 1 then l.bk else l.fr) = [] := by
  unfold sideF at h
  generalize (if s = 1 then l.bk else l.fr) = rs at h
  cases rs with
  | nil => rfl
  | cons u w => rw [if_neg (by simp)] at h; cases h
theorem sideF_some {l : Lf} {s : Int} {p : Pg} (h : sideF l s = some p) : (if s = 1 then l.bk else l.fr) ≠ [] ∧ p = (l.L, s) := by
  unfold sideF at h
  generalize (if s = 1 then l.bk else l.fr) = rs at h
  cases rs with
  | nil => rw [if_pos rfl] at h; cases h
  | cons u w => rw [if_neg (by simp)] at h; injection h with h; exact ⟨by simp, h.symm⟩
/-! ### a dict comprehension whose keys are tuples of ints and texts -/
section
variable {X : Cx} {D b : Addr} {kvs : List (List L2.Key × V)} {k : List L2.Key}
theorem put_tupkey {pins : List (Addr × Obj)} {σ : L2.St} {H : Hp} {s : Shared} {EE : Value → Shared → Prop} {v : V} {r : Value} {QQ : Unit → Shared → Prop} (hu : X.A.units + 1 < cLine) (I : Inv X pins σ H s) (hD : H D = some (.dT kvs)) (hb : H b = some (.tup (k.map kV)))
    (small : kvs.length < sizeLine) (rv : RelV v r) (go : ∀ s', Inv X pins σ (upd H D (.dT (putK kvs k v))) s' → QQ () s') : wpAny (model X.prog X.w) X.A (dictSet D (.ref b) r) QQ EE s := by
  obtain ⟨le, nsys, xs, rel, dd⟩ := dt_of I.hok hD
  have le2 : (putK kvs k v).length ≤ sizeLine := Nat.le_trans (length_putK kvs k v) small
  refine wpAny_dictSet_heap (knd := tupleKind (mixKind X.prog X.w)) (hsz := by rw [← Paired.length rel]; exact le) (show X.A.units < cLine by omega) (key_of I.hok hb) dd fun h' new only => go _ ?_
  obtain ⟨o, es, ep, at_, x1, x2, x3, _, x5⟩ := new
  refine d_write I (by rw [hD]; exact True.intro) only ⟨o, at_⟩ ⟨le2, nsys, _, (rel.put k hb rv).keeps fun c ys ec => ?_, o, es, ep, at_, x1, x2, x3, x5⟩
  exact (upd_ne (ne_of ec hD (by intro z; cases z))).trans ec
/-- {k: v for target in iter}: D the new dict -/
def tDcT (wi : TI) (g : TG) (tk tv : TE) (vs : List Nat) : TE := fun σ H Q => wi σ H fun J H1 => ∀ D, H1 D = Option.none → ∃ W : Nat → Nat → Hp → Prop, (∃ m, W 0 m (upd H1 D (.dT []))) ∧ ∀ i m H, W i m H →
  (J.stop i H ∧ Q (.ref D) H) ∨ (J.go i H ∧ ∃ Nx : Hp → Prop, (∀ H', Nx H' → ∃ m', m' < m ∧ W (i + 1) m' H') ∧ ∀ x H', J.yld i H x H' → g x (wipe σ vs) H' fun σ2 H2 => wipe σ2 vs = wipe σ vs ∧
    tk σ2 H2 fun y H4 => tv σ2 H4 fun z H5 => ∃ b kvs k, y = .ref b ∧ H5 D = some (.dT kvs) ∧ H5 b = some (.tup (k.map kV)) ∧ kvs.length < sizeLine ∧ Nx (upd H5 D (.dT (putK kvs k z))))
theorem pe_dcT {kx vx tg iter : Expr} {scope : Scope} {own : List (Str × Nat)} {pos : Pos} {wi : TI} {g : TG} {tk tv : TE} (hu : X.A.units + 1 < cLine) (hc : X.calm = true) (hN : X.N.Nodup) (hi : PI X tg iter wi) (ok : BlkOk X.N X.env.scope scope own)
    (hg : ∀ (s : Shared) (H : Hp) (C : Addr) (cl : List (Str × Addr)) (fp : List Addr), PG (X.blk s H scope (compEnvC scope cl C X.env) fp) tg g)
    (hk : ∀ (s : Shared) (H : Hp) (C : Addr) (cl : List (Str × Addr)) (fp : List Addr), PE (X.blk s H scope (compEnvC scope cl C X.env) fp) kx tk)
    (hv : ∀ (s : Shared) (H : Hp) (C : Addr) (cl : List (Str × Addr)) (fp : List Addr), PE (X.blk s H scope (compEnvC scope cl C X.env) fp) vx tv) (hs : ∀ x, foldedSetIterable iter X.env x = pure x := by intro _; rfl) :
    PE X (.DictComp kx vx [⟨tg, iter, [], 0⟩] scope pos) (tDcT wi g tk tv (own.map (·.2))) := by
  constructor
  intro pins s σ H Q I h
  rw [arm_eval_DictComp]
  have hfree : ∀ y ∈ scope.names, y.2 = .free → ∃ c, X.env.cells.lookup y.1 = some c := fun y hy e => (ok.free y hy e).elim (fun k => I.ok.has _ (.inl k)) (fun k => I.ok.has _ (.inr k))
  refine comprehension_at (use := Option.none) rfl hs (closure_ok hfree) ok.kind (fun y hy e => by rw [ok.uniq y hy, e]) (thn (hi.run pins s σ H _ I h) fun xv s1 hx => thn hx fun itv s2 h2 => ?_)
  obtain ⟨it, fp, tn, J, H2, rfl, I2, T, st2, f2, q⟩ := h2
  refine wpAny_newObj_type (newEnv_comp ?_)
  obtain ⟨D, hD⟩ : ∃ D, s2.heap.objs.size = D := ⟨_, rfl⟩
  obtain ⟨W, ⟨m0, w0⟩, turn⟩ := q D (I2.hok.fresh (Nat.le_of_eq hD))
  rw [hD]
  obtain ⟨s3, hs3⟩ : ∃ s3 : Shared, s3 = { s2 with heap := s2.heap.push { cls := .type "dict", data := .dict #[] } } := ⟨_, rfl⟩
  have h3 : s3.heap = s2.heap.push { cls := .type "dict", data := .dict #[] } := by rw [hs3]
  have I3 : Inv X pins σ (upd H2 D (.dT [])) s3 := by
    rw [hs3]
    refine I2.laid (t' := s2.toks) (fun b o e => Heap.get?_push_of_some _ e) (Nat.le_of_eq hD) ?_
    rw [← hD]
    exact dt_empty s2.heap I2.big
  have f3 : ∀ b ∈ fp, FpOk X pins (upd H2 D (.dT [])) b ∧ b < s3.heap.objs.size := fun b hb => by
    obtain ⟨o, e, _⟩ := T.obj _ _ st2 b hb
    have hlt := Heap.lt_size e
    refine ⟨⟨?_, (f2 b hb).2⟩, by rw [h3, Heap.size_push]; exact Nat.lt_succ_of_lt hlt⟩
    rw [upd_ne (by rw [← hD]; exact Nat.ne_of_lt hlt)]
    exact (f2 b hb).1
  have hch : ∀ b ∈ fp, (b ∈ X.ex ∨ X.s_0.heap.objs.size ≤ b) ∧ b ≠ X.env.locals ∧ (∀ x c, X.env.cells.lookup x = some c → c ≠ b) ∧ ∀ p ∈ X.pn ++ pins, p.1 ≠ b := fun b hb => ⟨(f3 b hb).1.2.2.2.1, (f3 b hb).1.2.1, (f3 b hb).1.2.2.2.2.1, (f3 b hb).1.2.2.2.2.2⟩
  have I4 := block_start I3 ok hN f3
  rw [← hs3]
  show codeAny _ _ (.compStart (.DictComp kx vx [⟨tg, iter, [], 0⟩] scope pos) 0 (.ref it) (.ref D) (compEnvC scope (cellsFrom (s3.heap.objs.size + 1) scope.names (cloFrom X.env.cells scope.names [])) s3.heap.objs.size X.env)) (compEnds (model X.prog X.w) X.A X.xe Option.none (EP X pins σ Q) (.ref D) (compEnvC scope (cellsFrom (s3.heap.objs.size + 1) scope.names (cloFrom X.env.cells scope.names [])) s3.heap.objs.size X.env)) { s3 with heap := pushCells (s3.heap.push { cls := .type "dict", data := .dict #[] }) scope.names }
  have pg := hg s3 (upd H2 D (.dT [])) s3.heap.objs.size (cellsFrom (s3.heap.objs.size + 1) scope.names (cloFrom X.env.cells scope.names [])) fp
  have pk := hk s3 (upd H2 D (.dT [])) s3.heap.objs.size (cellsFrom (s3.heap.objs.size + 1) scope.names (cloFrom X.env.cells scope.names [])) fp
  have pv := hv s3 (upd H2 D (.dT [])) s3.heap.objs.size (cellsFrom (s3.heap.objs.size + 1) scope.names (cloFrom X.env.cells scope.names [])) fp
  obtain ⟨ce, hce⟩ : ∃ ce, ce = compEnvC scope (cellsFrom (s3.heap.objs.size + 1) scope.names (cloFrom X.env.cells scope.names [])) s3.heap.objs.size X.env := ⟨_, rfl⟩
  have cL : ce.locals = s3.heap.objs.size := by rw [hce]; rfl
  rw [← hce] at I4 pg pk pv ⊢
  have nfp : ∀ b ∈ fp, (upd H2 D (.dT [])) b = Option.none := fun b hb => (f3 b hb).1.1
  have st4 : tn 0 (pushCells (s3.heap.push { cls := .type "dict", data := .dict #[] }) scope.names) := T.keep _ _ _ st2 fun b _ o e => pushCells_keeps _ _ _ _ (Heap.get?_push_of_some _ (by rw [h3]; exact Heap.get?_push_of_some _ e))
  generalize upd H2 D (.dT []) = H3 at I3 I4 pg pk pv w0 nfp f3
  have stat : ∀ {σ' : L2.St} {H' : Hp} {s' : Shared}, Inv (X.blk s3 H3 scope ce fp) [] σ' H' s' → (∀ b ∈ fp, H' b = Option.none) → ∀ b ∈ fp, FpOk (X.blk s3 H3 scope ce fp) [] H' b := fun {σ' H' s'} I' hn b hb =>
    ⟨hn b hb, (I'.ok.exf b hb).1, I'.ok.exfs b hb, .inl hb, fun x c e => (I'.ok.exf b hb).2 x c e, fun p hp => absurd (show p ∈ ([] : List (Addr × Obj)) ++ [] from hp) (by simp)⟩
  have loop : ∀ s4 : Shared, Inv (X.blk s3 H3 scope ce fp) [] (wipe σ (own.map (·.2))) H3 s4 → tn 0 s4.heap → codeAny (model X.prog X.w) X.A (.compLoop (.DictComp kx vx [⟨tg, iter, [], 0⟩] scope pos) 0 (.ref it) (.ref D) ce) (compEnds (model X.prog X.w) X.A X.xe Option.none (EP X pins σ Q) (.ref D) ce) s4 := by
    intro s4 I4 st4
    refine compLoop_anyD (fun n s' => ∃ i H', Inv (X.blk s3 H3 scope ce fp) [] (wipe σ (own.map (·.2))) H' s' ∧ tn i s'.heap ∧ (∀ b ∈ fp, H' b = Option.none) ∧ W i n H') ?_ m0 ⟨0, H3, I4, st4, nfp, w0⟩
    rintro n s5 ⟨i, H5, I5, st5, n5, w5⟩
    rcases turn i n H5 w5 with ⟨stop, qq⟩ | ⟨go, Nx, hNx, step⟩
    · refine thnF (T.done (X.blk s3 H3 scope ce fp) rfl rfl rfl hc i [] s5 _ H5 (fun _ _ => False) I5 (stat I5 n5) st5 stop) fun r s6 ⟨hr, I6⟩ => ?_
      subst hr
      have I7 : Inv X pins σ H5 s6 := I3.call' (ch := fp) I6.os I6.base I6.hok I6.bare hch
      have nC : H5 ce.locals = Option.none := I6.free
      obtain ⟨m, hn, _⟩ := I6.loc
      have f : FpOk X pins H5 ce.locals := by rw [cL] at nC ⊢; exact I3.fpOk (Nat.le_refl _) nC
      refine ⟨m, hn, fun h'' sb => ?_⟩
      obtain ⟨f0, f1, f2, f3, f4, f5⟩ := f
      exact ⟨.ref D, H5, I7.turned (t' := s6.toks) (fun b o hb e => (sb.2 b hb).trans e) f0 f1 f3 f4 f5, rfl, qq⟩
    · refine thnF (T.item (X.blk s3 H3 scope ce fp) rfl rfl rfl hc i [] s5 _ H5 (fun _ _ => False) I5 (stat I5 n5) st5 go) fun r s6 ⟨u, hr, h6⟩ => ?_
      subst hr
      refine thnF h6 fun _ s7 ⟨x, H7, I7, r7, y7, st7, n7⟩ => ?_
      refine thnF (pg.run _ s7 _ H7 x u _ (I7.pinned (stat I7 n7) (T.obj _ _ st7)) r7 (step x H7 y7)) fun _ s8 ⟨σ8, H8, I8, hw8, q8⟩ => ?_
      refine wpAny_tests_nil ?_
      have fin : ∀ {s' : Shared} {H' : Hp}, Inv (X.blk s3 H3 scope ce fp) ([] ++ pinsAt fp s7.heap) σ8 H' s' → Nx H' → ∃ m, m < n ∧ ∃ i H', Inv (X.blk s3 H3 scope ce fp) [] (wipe σ (own.map (·.2))) H' s' ∧ tn i s'.heap ∧ (∀ b ∈ fp, H' b = Option.none) ∧ W i m H' := fun {s' H'} I' nx => by
        obtain ⟨m', hm, w'⟩ := hNx H' nx
        have pin' : ∀ b ∈ fp, ∀ o, s7.heap.get? b = some o → s'.heap.get? b = some o ∧ H' b = Option.none := fun b hb o e =>
          let z := I'.pin (b, o) (List.mem_append_right _ (List.mem_append_right _ (mem_pinsAt hb e)))
          ⟨z.1, z.2.1⟩
        refine ⟨m', hm, i + 1, H', (I'.unpinned (pins := [])).weak (by rw [← hw8, wipe_length]) (fun j v e => ?_), T.keep _ _ _ st7 fun b hb o e => (pin' b hb o e).1, fun b hb => ?_, w'⟩
        · rw [← hw8] at e
          exact (wipe_some e).1
        · obtain ⟨o, e, _⟩ := T.obj _ _ st7 b hb
          exact (pin' b hb o e).2
      rw [if_pos rfl]
      refine thnF (pk.run _ s8 σ8 H8 _ I8 q8) fun z s10 ⟨yk, H10, I10, r10, q10⟩ => ?_
      refine thnF (pv.run _ s10 σ8 H10 _ I10 q10) fun z2 s11 ⟨yv, H11, I11, r11, b, kvs, k, ek, hD11, hb11, hz11, nx⟩ => ?_
      subst ek
      cases r10
      exact put_tupkey (X := X.blk s3 H3 scope ce fp) hu I11 hD11 hb11 hz11 r11 fun s12 I12 => fin I12 nx
  exact codeAny_compStart_dict (loop _ I4 st4) (T.self X.A 0 _ _ _ st4 (loop _ I4 st4))
end
/-! ### enumerate(t), t a tuple -/
section
variable {prog : Program} {w : World} {A : Around} {EE : Value → Shared → Prop} {s : Shared}
theorem meets_enum1 {v : Value} {o : Obj} {HH : Heap → Prop} (B : Begins v o HH) :
    Meets (Builtin.«enumerate.__new__» ⟨[.type "enumerate", v], []⟩) (fun _ R s => HH s.heap ∧
      R (.ok (.ret (.ref (s.heap.push o).objs.size))) { s with heap := (s.heap.push o).push { cls := .type "enumerate", data := .fields #[.none, .bool false, .ref s.heap.objs.size, rawInt 0, .none, .none] } }) :=
  .of_wp fun prog w A R s h => by
    obtain ⟨hp, g, d, tk, os⟩ := s
    obtain ⟨h1, h⟩ := h
    have hsub := sub_enumerate
    have begins : ∀ {A' : Around} {E : Value → Shared → Prop} {Q : Value → Shared → Prop}, Q (.ref hp.objs.size) ⟨hp.push o, g, d, tk, os⟩ → wpAny (model prog w) A' (pyIter v) Q E ⟨hp, g, d, tk, os⟩ := fun q => B.iter prog w _ _ ⟨hp, g, d, tk, os⟩ _ h1 q
    wp_walk using begins
    refine wpAny_stack_any fun st => wpAny_pure ?_
    split
    · rename_i c _ _ _ _ _
      cases (c == Value.type "enumerate") <;> (wp_walk using begins; exact ⟨_, rfl, h⟩)
    · wp_walk using begins
      exact ⟨_, rfl, h⟩
theorem call_enum1 {v : Value} {o : Obj} {HH : Heap → Prop} {QQ : Value → Shared → Prop} (B : Begins v o HH) (h1 : HH s.heap)
    (h : ∀ h', IsEnum h' (s.heap.objs.size + 1) s.heap.objs.size 0 .none → h'.get? s.heap.objs.size = some o → (∀ b u, s.heap.get? b = some u → h'.get? b = some u) → QQ (.ref (s.heap.objs.size + 1)) { s with heap := h' }) :
    wpAny (model prog w) A (call (.type "enumerate") [v]) QQ EE s := by
  refine callType_new F.called_enumerate (by decide) (F.typeCall_enumerate_1 _) (F.newCall_enumerate_1 _) (fun obj => F.args_object_init_2 obj _) F.entry_enumerate_new (meets_enum1 B) ⟨h1, ?_⟩
  have hz : (s.heap.push o).objs.size = s.heap.objs.size + 1 := Heap.size_push ..
  show _ ∧ _
  rw [hz]
  have at_ := Heap.get?_push_size (s.heap.push o) (o := { cls := .type "enumerate", data := .fields #[.none, .bool false, .ref s.heap.objs.size, rawInt 0, .none, .none] }) rfl
  rw [hz] at at_
  exact ⟨⟨_, at_, rfl⟩, h _ at_ (Heap.get?_push_of_some _ (Heap.get?_push_size _ B.free)) fun b u x => Heap.get?_push_of_some _ (Heap.get?_push_of_some _ x)⟩
end
def IteT (K : PySem.W.Frag) (a : Addr) : It :=
  ⟨fun i H => ∃ (xs : List V) (x : V), SqT K H a xs ∧ xs[i]? = some x, fun i H v H' => ∃ T x, v = .ref T ∧ H T = Option.none ∧ H' = upd H T (.tup [.int (i : Nat), x]) ∧ ∀ xs, SqT K H a xs → xs[i]? = some x, fun i H => ∃ xs : List V, SqT K H a xs ∧ xs.length = i⟩
theorem turn_enumT {P : Program} {w : World} {K : PySem.W.Frag} {elts : List Expr} {kk : Nat} {tpos : Pos} (a e it : Addr) :
    Turn P w K (.Tuple elts kk tpos) (IteT K a) [e, it] e (fun i h => (∃ old, IsEnum h e it ((i : Nat) : Int) old) ∧ h.IsTupleIter it a i ∧ e ≠ it) where
  mem := by simp
  obj := fun i h st b hb => by
    obtain ⟨⟨old, he⟩, ⟨o, ho, hc, hd⟩, _⟩ := st
    rcases List.mem_cons.mp hb with z | z
    · rw [z]; exact ⟨_, he, fun v q => nomatch q⟩
    · rw [List.mem_singleton.mp z]; exact ⟨o, ho, fun v q => by rw [hd] at q; cases q⟩
  keep := fun i h h' st k => let ⟨⟨old, he⟩, hi, hne⟩ := st; ⟨⟨old, k e (by simp) _ he⟩, hi.at fun o q => k it (by simp) o q, hne⟩
  item := by
    intro X hP hw hK hc i pins s σ H E I hf st hg
    subst hP hw hK
    obtain ⟨⟨old, he⟩, hit, hne⟩ := st
    obtain ⟨xs, x, hq, hx⟩ := hg
    obtain ⟨its, rv, p, hz⟩ := I.tuple hq
    obtain ⟨u, hu, ru⟩ := rv.get hx
    have tup : s.heap.IsTuple a its.toArray := p
    obtain ⟨oa, hoa, hca, na, hda⟩ := id tup
    obtain ⟨oi, hoi, hci, hdi⟩ := id hit
    have ea : a ≠ e := fun z => by rw [z, he] at hoa; cases hoa; exact absurd hca (show ¬ (Value.type "enumerate" = Value.type "tuple") by decide)
    have ia : a ≠ it := fun z => by
      rw [z, hoi] at hoa; cases hoa
      rw [hci] at hca; exact absurd hca (by decide)
    have hel : e < s.heap.objs.size := Heap.lt_size he
    have hil : it < s.heap.objs.size := Heap.lt_size hoi
    have hlt : i < its.toArray.size := by
      rw [List.size_toArray, ← rv.length]
      exact (List.getElem?_eq_some_iff.mp hx).1
    refine wpAny_pyNext_enum_itemC (Draws.tuple (A := X.A.in1) (show X.A.in1.handled = none from I.ok.hd hc) it a ia its.toArray) he ⟨hit, tup⟩ hlt hne (by simp [hne, Ne.symm ea]) fun u2 h' tk hP2 ho st' hT hsz hk => ?_
    have eu : u2 = u := by
      have z : its.toArray[i]? = some u2 := hP2
      rw [List.getElem?_toArray, hu] at z
      exact (Option.some.inj z).symm
    subst eu
    refine ⟨_, rfl, wpAny_letOwnedTupleGo_enum (s := { s with heap := h', toks := tk + 1 }) ho fun h'' he' sb => ?_⟩
    have hT2 : h''.get? s.heap.objs.size = some { cls := .type "tuple", data := .seq #[.int i tk, u2] } := (sb.2 _ (Nat.ne_of_gt hel)).trans hT
    have new : ObjOk X.prog X.w (upd H s.heap.objs.size (.tup [.int (i : Nat), x])) h'' s.heap.objs.size (.tup [.int (i : Nat), x]) :=
      ⟨by show 2 ≤ sizeLine; decide, [.int i tk, u2], .cons ⟨_, rfl⟩ (.cons ru .nil), ⟨_, hT2, rfl, _, rfl⟩⟩
    have I1 : Inv X pins σ (upd H s.heap.objs.size (.tup [.int (i : Nat), x])) { s with heap := h'', toks := tk + 1 } :=
      I.turnedNew (ch := [e, it]) (fun b ob hb q => (sb.2 b (fun z => hb (by simp [z]))).trans (hk b ob (fun z => hb (by simp [z])) (fun z => hb (by simp [z])) q)) hf (Nat.le_refl _) new
    refine ⟨.ref s.heap.objs.size, _, I1, rfl, ⟨_, x, rfl, I.hok.fresh (Nat.le_refl _), rfl, fun ys hy => by rw [I.tuple_inj hy hq]; exact hx⟩, ⟨⟨u2, ?_⟩, st'.1.at fun o q => (sb.2 it (Ne.symm hne)).trans q, hne⟩, fun b hb => ?_⟩
    · have e1 : ((i + 1 : Nat) : Int) = (i : Int) + 1 := by omega
      rw [e1]; exact he'
    · have hb' : b < s.heap.objs.size := by
        rcases List.mem_cons.mp hb with z | z
        · rw [z]; exact hel
        · rw [List.mem_singleton.mp z]; exact hil
      rw [upd_ne (Nat.ne_of_lt hb')]
      exact (hf b hb).1
  done := by
    intro X hP hw hK hc i pins s σ H E I hf st hg
    subst hP hw hK
    obtain ⟨⟨old, he⟩, hit, hne⟩ := st
    obtain ⟨xs, hq, hx⟩ := hg
    obtain ⟨its, rv, p, hz⟩ := I.tuple hq
    obtain ⟨f0, f1, f2, f3, f4, f5⟩ := hf it (by simp)
    have tup : s.heap.IsTuple a its.toArray := p
    obtain ⟨oa, hoa, hca, na, hda⟩ := id tup
    obtain ⟨oi, hoi, hci, hdi⟩ := id hit
    have ia : a ≠ it := fun z => by
      rw [z, hoi] at hoa; cases hoa
      rw [hci] at hca; exact absurd hca (by decide)
    have ez : its.toArray.size = i := by rw [List.size_toArray, ← rv.length]; exact hx
    refine wpAny_pyNext_enum_endD (Draws.tuple (A := X.A.in1) (show X.A.in1.handled = none from I.ok.hd hc) it a ia its.toArray) he (by rw [ez]; exact ⟨hit, tup⟩) fun h' eb => ⟨rfl, I.turned (t' := s.toks) (fun b o hb q => eb b o hb q) f0 f1 f3 f4 f5⟩
  self := fun A i s Q E st h => let ⟨⟨_, he⟩, _⟩ := st; wpAny_pyIter_enum he h
def iEnumT (K : PySem.W.Frag) (ta : TA) : TI := fun σ H R => ta σ H fun vs H1 => ∃ a xs, vs = [.ref a] ∧ SqT K H1 a xs ∧ R (IteT K a) H1
theorem pi_enumT {X : Cx} {e : Expr} {ta : TA} {p pos tpos : Pos} {elts : List Expr} {kk : Nat} (hg : Gl X "enumerate") (hm : X.mg "enumerate" = Option.none) (ha : PA X [e] ta) (hs : starEach [e] X.env = [(false, eval e X.env)] := by rfl) :
    PI X (.Tuple elts kk tpos) (.Call (.Name "enumerate" p) [e] [] pos) (iEnumT X.K ta) := by
  constructor
  intro pins s σ H R I h
  refine Call_ (ld_blt I hg hm boot_enumerate (PyProof.Rows.callWith_type1 (thn (ha.run pos pins s σ H _ I h) fun us s1 ⟨vs, H1, I1, r1, a, xs, ex, hq, q⟩ => ?_) hs rfl))
  subst ex
  obtain ⟨u, rfl, ru⟩ := vals1 r1
  cases ru
  obtain ⟨its, rv, p', hz⟩ := I1.tuple hq
  refine call_enum1 (begins_tuple a its.toArray) (show s1.heap.IsTuple a its.toArray from p') fun h' he hit hk => wpAny_pyIter_enum he ?_
  have I2 : Inv X pins σ H1 { s1 with heap := h' } := I1.kept (t' := s1.toks) hk
  refine ⟨s1.heap.objs.size + 1, [s1.heap.objs.size + 1, s1.heap.objs.size], _, _, H1, rfl, I2, turn_enumT a (s1.heap.objs.size + 1) s1.heap.objs.size, ⟨⟨.none, he⟩, ⟨_, hit, rfl, rfl⟩, Nat.succ_ne_self _⟩, fun b hb => ?_, q⟩
  have hle : s1.heap.objs.size ≤ b := by
    rcases List.mem_cons.mp hb with z | z
    · rw [z]; exact Nat.le_add_right _ _
    · rw [List.mem_singleton.mp z]; exact Nat.le_refl _
  exact I1.fpOk hle (I1.hok.fresh hle)
theorem walk_enumT {K : PySem.W.Frag} {a : Addr} {xs : List V} : Walk (IteT K a) xs.length (fun H => SqT K H a xs) (YPair (fun i => some (.int (i : Nat))) (fun i => xs[i]?)) := by
  refine ⟨fun i _ hi q => ⟨xs, xs[i], q, by simp [hi]⟩, fun _ q => ⟨xs, q, rfl⟩, fun i H v H' _ q y => ?_⟩
  obtain ⟨T, x, h1, h2, h3, h4⟩ := y
  exact ⟨T, .int (i : Nat), x, h1, h2, h3, rfl, h4 xs q⟩
/-- a dict comprehension over a walk -/
theorem dc_it {J : It} {n : Nat} {G : Hp → Prop} {Y : Nat → Hp → V → Hp → Prop} (w : Walk J n G Y) {g : TG} {tk tv : TE} {vs : List Nat} {σ : L2.St} {H1 : Hp} {D : Addr} {Qd : Hp → Prop} (Pv : Nat → Hp → Prop) (h0 : Pv 0 (upd H1 D (.dT []))) (hG : ∀ i H, i ≤ n → Pv i H → G H)
    (hs : ∀ i x H H', i < n → Pv i H → Y i H x H' → g x (wipe σ vs) H' fun σ2 H2 => wipe σ2 vs = wipe σ vs ∧ tk σ2 H2 fun y H4 => tv σ2 H4 fun z H5 => ∃ b kvs k, y = .ref b ∧ H5 D = some (.dT kvs) ∧ H5 b = some (.tup (k.map kV)) ∧ kvs.length < sizeLine ∧ Pv (i + 1) (upd H5 D (.dT (putK kvs k z)))) (hd : ∀ H, Pv n H → Qd H) :
    ∃ W : Nat → Nat → Hp → Prop, (∃ m, W 0 m (upd H1 D (.dT []))) ∧ ∀ i m H, W i m H →
      (J.stop i H ∧ Qd H) ∨ (J.go i H ∧ ∃ Nx : Hp → Prop, (∀ H', Nx H' → ∃ m', m' < m ∧ W (i + 1) m' H') ∧ ∀ x H', J.yld i H x H' → g x (wipe σ vs) H' fun σ2 H2 => wipe σ2 vs = wipe σ vs ∧
        tk σ2 H2 fun y H4 => tv σ2 H4 fun z H5 => ∃ b kvs k, y = .ref b ∧ H5 D = some (.dT kvs) ∧ H5 b = some (.tup (k.map kV)) ∧ kvs.length < sizeLine ∧ Nx (upd H5 D (.dT (putK kvs k z)))) := by
  refine ⟨fun i m H => m = n - i ∧ i ≤ n ∧ Pv i H, ⟨n, by simp, Nat.zero_le _, h0⟩, ?_⟩
  rintro i m H ⟨rfl, hi, p⟩
  have q := hG i H hi p
  by_cases hlt : i < n
  · exact .inr ⟨w.goes i H hlt q, Pv (i + 1), fun H' p' => ⟨n - (i + 1), by omega, rfl, hlt, p'⟩, fun x H' y => hs i x H H' hlt p (w.yields i H x H' hlt q y)⟩
  · have e : i = n := by omega
    subst e
    exact .inl ⟨w.stops H q, hd H p⟩
/-! ### a def that gives a tuple's iterator; a for over an object whose class has it as __iter__ -/
structure InOk (P : Program) (w : World) (K : PySem.W.Frag) (mg : Str → Option Value) (base : Heap) (k : Nat) (f : Addr) (fd : FuncData) (ps : List Str) (sp : Nat → Sp) : Prop where
  size : ∀ n vs H Q E, sp n vs H Q E → vs.length = ps.length
  go : ∀ (A : Around) (outer : List Env) (s : Shared) (H : Hp) (args : Args) (us : List Value) (vs : List V) (Q : VK) (E : XK), Room k A → Env0 P w K mg base A outer s H →
    BindsTo s fd args (ps.zip us) → Vals vs us → sp s.heap.objs.size vs H Q E → codeAny (model P w) A (.call (.ref f) args) (CR CX0 outer P w H s Q E) s
section
variable {P : Program} {w : World} {K : PySem.W.Frag} {mg : Str → Option Value} {base : Heap}
theorem in_ok {k : Nat} {x qual : Str} {st : Stmt} {f : Addr} {fd : FuncData} {N ps : List Str} {sp : Nat → Sp} (F : Fun K x qual st f fd) (S : FnScope N ps (defScope st)) (len : ∀ n vs H Q E, sp n vs H Q E → vs.length = ps.length)
    (body : ∀ (cdv : Value) (A : Around) (outer : List Env) (s : Shared) (H : Hp) (vs : List V) (Q : VK) (E : XK), Room k (A.deeper (envOfC qual (defScope st) s.heap.objs.size f cdv)) → sp s.heap.objs.size vs H Q E →
      ∃ t, PSs (cxOf CX0 P w K mg base N qual (defScope st) f cdv A outer s H E).nox (defBody st) t ∧ t { nx := fun _ H' => Q .non H', rt := Q } (start N vs) H) : InOk P w K mg base (k + 1) f fd ps sp := by
  obtain ⟨oc, od, kV, doc, pm, an, cdv, ct, osl, rfl, lk, hcd⟩ := F.ex
  constructor
  · exact len
  intro A outer s H args us vs Q E hr env0 bind rel hsp
  have up := env0.bs
  have KX : K.In s.heap := env0.mod.kin.keeps (fun b o e => (up b o e).1)
  refine codeAny_call_function (hroom := hr.depth) (KX _ _ lk) rfl S.co S.gen rfl (PySem.W.codeRec_of KX hcd) (bind _ _ _ _ ?_)
  have kinds : ∀ y ∈ ps.zip us, (defScope st).names.lookup y.1 = some .local ∨
      ((defScope st).names.lookup y.1 = some .cell ∧ ((cellsFrom (s.heap.objs.size + 1) (defScope st).names []).lookup y.1).isSome = true) := by
    rintro ⟨n, v⟩ hy
    exact (S.par n (List.of_mem_zip hy).1).elim .inl (fun q => .inr ⟨q, PySem.W.cellsFrom_some _ _ _ (.inl q)⟩)
  refine wpAny_newFunctionEnv_cells S.kind kinds (fun env he s1 fresh => ?_)
  subst he
  refine ⟨(env0.mod.nolimit.keeps (fun b o e => (up b o e).1)).keeps fresh.toInCall.keep, codeAny_func ?_⟩
  obtain ⟨t, walk, want⟩ := body cdv A outer s H vs Q E (hr.deeper _) hsp
  have J := inv_start (CX := CX0) (E := E) S hr.hd env0 (len _ _ _ _ _ hsp) rel fresh
  refine wpAny_mono (walk.nox.run [] s1 (start N vs) H _ J want) ?_ (fun _ _ z => z)
  rintro (_ | _ | _ | u) s2 h
  · obtain ⟨σ2, H2, J2, q⟩ := h
    exact ⟨.non, H2, J2.os, J2.bare, J2.base, J2.hok, rfl, q⟩
  · obtain ⟨_, _, _, q⟩ := h
    exact q.elim
  · obtain ⟨_, _, _, q⟩ := h
    exact q.elim
  · obtain ⟨v, σ2, H2, J2, r, q⟩ := h
    exact ⟨v, H2, J2.os, J2.bare, J2.base, J2.hok, r, q⟩
end
/-- at it a tuple's iterator, i items taken -/
def ItT (t it : Addr) (i : Nat) : HO := .ext fun h => h.IsTupleIter it t i
section
variable {X : Cx}
theorem itT_ok {P : Program} {w : World} {H : Hp} {h : Heap} {t it : Addr} {i : Nat} (e : h.IsTupleIter it t i) : ObjOk P w H h it (ItT t it i) := ⟨e, e.elim fun o q => ⟨o, q.1⟩, fun _ _ q k => q.elim fun o z => ⟨o, k _ z.1, z.2⟩⟩
def rIterT (K : PySem.W.Frag) (n : Nat) : List V → Hp → VK → Prop := fun xs H Q => ∃ (l : Addr) (zs : List V), xs = [.ref l] ∧ SqT K H l zs ∧ ∀ it, H it = Option.none → n ≤ it → Q (.ref it) (upd H it (ItT l it 0))
theorem wp_iter_tup {prog : Program} {w : World} {A : Around} {EE : Value → Shared → Prop} {s : Shared} {l : Addr} {items : Array Value} {QQ : Value → Shared → Prop} (hl : s.heap.IsTuple l items)
    (h : QQ (.ref s.heap.objs.size) { s with heap := s.heap.push { cls := .type "tuple_iterator", data := .fields #[.ref l, .int 0 0] } }) : wpAny (model prog w) A (call (.builtin "iter") [.ref l]) QQ EE s := by
  refine Calls.call_function_entry (by decide +kernel) (by decide +kernel) PySem.W.kdk_entry_iter (PySem.W.kdk_args_iter _) ?_
  unfold Builtin.«iter»
  refine wpAny_bind (m := someArgs "iter" 1 2 _) (wpAny_of_eq (a := [Value.ref l]) (by first | rfl | kernel_rfl!) ?_)
  exact wpAny_bind (wpAny_pyIter_tuple hl (wpAny_pure ⟨_, rfl, h⟩))
/-- iter(t) -/
theorem call_iterT : CallR X (.builtin "iter") (rIterT X.K X.s_0.heap.objs.size) := by
  intro pins s σ H xs us Q I r h
  obtain ⟨l, zs, rfl, hq, q⟩ := h
  obtain ⟨u, rfl, ru⟩ := vals1 r
  cases ru
  obtain ⟨its, rv, pl, hz⟩ := I.tuple hq
  refine wp_iter_tup (show s.heap.IsTuple l its.toArray from pl) ?_
  exact ⟨.ref s.heap.objs.size, _, I.laid (t' := s.toks) (fun b u e => Heap.get?_push_of_some _ e) (Nat.le_refl _) (itT_ok ⟨_, Heap.get?_push_size _ rfl, rfl, rfl⟩), rfl, q _ (I.hok.fresh (Nat.le_refl _)) I.sz⟩
/-- what such an __iter__ promises: an iterator of the tuple at the attribute nm -/
def spIter (K : PySem.W.Frag) (C : Addr) (nm : Str) (n : Nat) : Sp := fun vs H Q _ => ∃ (b dx l : Addr) (fs : List (Str × V)) (zs : List V), vs = [.ref b] ∧ H b = some (.ins C dx fs) ∧ fs.lookup nm = some (.ref l) ∧ SqT K H l zs ∧
  ∀ it, H it = Option.none → n ≤ it → Q (.ref it) (upd H it (ItT l it 0))
def iOwnI (K : PySem.W.Frag) (C : Addr) (nm : Str) (tl : TE) : TI := fun σ H R => tl σ H fun x H1 => ∃ (b dx l : Addr) (fs : List (Str × V)) (zs : List V), x = .ref b ∧ H1 b = some (.ins C dx fs) ∧ fs.lookup nm = some (.ref l) ∧ SqT K H1 l zs ∧ R (Itt K l) H1
theorem pi_ownI {C f : Addr} {fd : FuncData} {ps : List Str} {k : Nat} {nm : Str} {tg l : Expr} {tl : TE} (F : InOk X.prog X.w X.K X.mg X.base k f fd ps (spIter X.K C nm)) (hs : PySem.W.findIn X.K (.ref C) "__iter__" = some (some (.ref f))) (hf : PySem.W.isFn X.K (.ref f) = true)
    (hb : Binds X.K fd ps []) (hr : Room k X.A) (hl : PE X l tl) : PI X tg l (iOwnI X.K C nm tl) := by
  constructor
  intro pins s σ H R I h
  refine thn (hl.run pins s σ H _ I h) fun v s1 ⟨x, H1, I1, r1, b, dx, l, fs, zs, e, hb1, hf1, hz, q⟩ => ?_
  subst e
  cases r1
  obtain ⟨mA, J, _⟩ := ins_get I1.hok hb1
  obtain ⟨od, J, _⟩ := J.look
  obtain ⟨m, hF⟩ := I1.fr
  refine PySem.W.owit_iter hF I1.ok.mod.kin J hs hf ?_
  have hsp : spIter X.K C nm s1.heap.objs.size [.ref b] H1 (fun v H' => ∃ it, v = .ref it ∧ H1 it = Option.none ∧ s1.heap.objs.size ≤ it ∧ H' = upd H1 it (ItT l it 0)) E0 := ⟨b, dx, l, fs, zs, rfl, hb1, hf1, hz, fun it n1 n2 => ⟨it, rfl, n1, n2, rfl⟩⟩
  have len := F.size _ _ _ _ _ hsp
  refine wpAny_call (codeAny_mono (F.go X.A X.stack s1 H1 ⟨[.ref b], []⟩ [.ref b] [.ref b] _ E0 hr I1.env0 (by simpa using hb s1 [.ref b] I1.kIn (by simpa using len)) (.cons rfl .nil) hsp) fun r s' hq => ?_)
  rcases r with er | _ | _ | _ | u
  · exact False.elim hq
  · exact False.elim hq
  · exact False.elim hq
  · exact False.elim hq
  obtain ⟨v, H', I', rv, it, rfl, n1, n2, rfl⟩ := I1.after hq
  cases rv
  have st : s'.heap.IsTupleIter it l 0 := (I'.hok it _ upd_same).1
  unfold PySem.W.OwitIt
  refine wpAny_specialOf st.typeIs PySem.F.slot_tuple_iterator_next.lookup ?_
  have D := ItX.inv_drop I' (φ := fun h => h.IsTupleIter it l 0) upd_same
  have fp := ItX.inv_fp I' (u := ItT l it 0) upd_same (Nat.le_trans I1.sz n2)
  rw [ItX.dropH_upd n1] at D fp
  exact ⟨it, [it], _, _, H1, rfl, D, turn_tuple l it, st, fun b hb => by rw [List.mem_singleton.mp hb]; exact fp, q⟩
end
section
variable {K : PySem.W.Frag} {f : Addr} {fd : FuncData} {e : Addr}
abbrev LeafD (K : PySem.W.Frag) (e f : Addr) (fd : FuncData) : Prop := FunD K "__init__" "Leaf.__init__" (defArgs s_Leaf_init) (defBody s_Leaf_init) (defScope s_Leaf_init) [V.ref e] [] f fd
theorem leaf_b5 (F : LeafD K e f fd) : Binds K fd ["self", "label", "front", "back", "pen"] [] := by
  obtain ⟨ds, h1, h2⟩ := F.binds1 (ps := ["self", "label", "front", "back", "pen"]) 5 1 (by simp) rfl fun T kV doc pm an cdv ct us its hu hi => match us, its, hu, hi with
    | [_, _, _, _, _], [_], _, _ => ⟨_, rfl, rfl⟩
  cases h1
  exact h2
theorem leaf_b4 (F : LeafD K e f fd) : ∃ ds, Vals [V.ref e] ds ∧ Binds K fd ["self", "label", "front", "back", "pen"] ds :=
  F.binds1 (ps := ["self", "label", "front", "back", "pen"]) 4 0 (by simp) rfl fun T kV doc pm an cdv ct us its hu hi => match us, its, hu, hi with
    | [_, _, _, _], [_], _, _ => ⟨_, rfl, rfl⟩
theorem written_nil {ed : Option Addr} {en : Nat} {es : Array (Option Value)} {H : Hp} (h : K.lookup e = some ⟨.type "tuple", ed, .seq #[] en, es⟩) : SqT K H e [] :=
  .inr ⟨_, #[], _, h, rfl, rfl, Nat.zero_le _, .nil⟩
end
/-! ### what is told -/
def isR (bk : List Lf) (r : Pg × Pg) : Bool := decide (r.1 ∈ allP bk) && (decide (r.2 ∈ allP bk) && leP r.1 r.2)
def isG (bk : List Lf) (r : Pg × Pg) : Bool := decide (r.1 ∈ allP bk) && decide (r.2 ∈ allP bk)
def inR (p : Pg) (r : Pg × Pg) : Bool := leP r.1 p && leP p r.2
def toldP (bk : List Lf) (ps : List (Pg × Pg)) : List Pg := (shownP bk).filter fun p => (ps.filter (isR bk)).any (inR p)
def dueP (bk : List Lf) (ps : List (Pg × Pg)) : List Pg := (shownP bk).filter fun p => (ps.filter (isG bk)).any (inR p)
theorem told_due (bk : List Lf) (ps : List (Pg × Pg)) : toldP bk ps = dueP bk ps := by
  unfold toldP dueP
  refine List.filter_congr fun p _ => ?_
  rw [Bool.eq_iff_iff, List.any_eq_true, List.any_eq_true]
  constructor
  · rintro ⟨r, hr, h⟩
    obtain ⟨h1, h2⟩ := List.mem_filter.mp hr
    refine ⟨r, List.mem_filter.mpr ⟨h1, ?_⟩, h⟩
    unfold isR at h2
    unfold isG
    simp only [Bool.and_eq_true] at h2 ⊢
    exact ⟨h2.1, h2.2.1⟩
  · rintro ⟨r, hr, h⟩
    obtain ⟨h1, h2⟩ := List.mem_filter.mp hr
    refine ⟨r, List.mem_filter.mpr ⟨h1, ?_⟩, h⟩
    unfold isG at h2
    unfold isR
    unfold inR at h
    simp only [Bool.and_eq_true] at h2 h ⊢
    exact ⟨h2.1, h2.2, leP_trans h.1 h.2⟩
/-- a page as it is kept -/
def keptPD (d : PyData) : Option Pg := match items d with
  | some [x, y] => if wI 0 1 y = true then (match keptD x with | some L => some (L, toI y) | none => none) else none
  | _ => none
/-- a row of two things that are kept as pages -/
def RowAt (K : PySem.W.Frag) (H : Hp) (v : V) (r : Pg × Pg) : Prop := ∃ (a : Addr) (x y : V) (dx dy : PyData), v = .ref a ∧ Seq K H a [x, y] ∧ Dp K H x dx ∧ Dp K H y dy ∧ keptPD dx = some r.1 ∧ keptPD dy = some r.2
theorem RowAt.same {K : PySem.W.Frag} {H H' : Hp} {v : V} {r : Pg × Pg} (m : Same H H') (h : RowAt K H v r) : RowAt K H' v r := by
  obtain ⟨a, x, y, dx, dy, e, h1, h2, h3, h4, h5⟩ := h
  exact ⟨a, x, y, dx, dy, e, same_sq m h1, dp_same m h2, dp_same m h3, h4, h5⟩
inductive RowAll (K : PySem.W.Frag) (H : Hp) : List V → List (Pg × Pg) → Prop
  | nil : RowAll K H [] []
  | cons {v : V} {vs : List V} {r : Pg × Pg} {rs : List (Pg × Pg)} (h : RowAt K H v r) (t : RowAll K H vs rs) : RowAll K H (v :: vs) (r :: rs)
theorem RowAll.same {K : PySem.W.Frag} {H H' : Hp} (m : Same H H') : ∀ {vs : List V} {rs : List (Pg × Pg)}, RowAll K H vs rs → RowAll K H' vs rs
  | _, _, .nil => .nil
  | _, _, .cons h r => .cons (h.same m) (RowAll.same m r)
theorem RowAll.len {K : PySem.W.Frag} {H : Hp} : ∀ {vs : List V} {rs : List (Pg × Pg)}, RowAll K H vs rs → vs.length = rs.length
  | _, _, .nil => rfl
  | _, _, .cons _ r => congrArg (· + 1) (RowAll.len r)
theorem RowAll.get {K : PySem.W.Frag} {H : Hp} : ∀ {vs : List V} {rs : List (Pg × Pg)} {i : Nat} {v : V}, RowAll K H vs rs → vs[i]? = some v → ∃ r, rs[i]? = some r ∧ RowAt K H v r
  | _, _, _, _, .nil, e => nomatch e
  | _, _, 0, _, .cons h r, e => by
    injection e with e
    subst e
    exact ⟨_, rfl, h⟩
  | _, _, i + 1, _, .cons h r, e => by
    obtain ⟨d, e1, e2⟩ := RowAll.get (i := i) r e
    exact ⟨d, e1, e2⟩
/-- data all the way of the depth of a row of leaves -/
def dLf (l : Lf) : PyData := .tuple [dL l.L, dS l.fr, dS l.bk, .tuple []]
def okLf (l : Lf) : Prop := okL l.L ∧ rowsB 1 l.fr = true ∧ rowsB 0 l.bk = true ∧ l.pen = []
/-- a row of leaves of rising labels -/
def okBk (bk : List Lf) : Prop := bk.length ≤ 60 ∧ (∀ l ∈ bk, okLf l) ∧ bk.Pairwise fun a b => HT.lexLt a.L b.L = true
def okR (r : Pg × Pg) : Prop := okP r.1 ∧ okP r.2
def dRs (ps : List (Pg × Pg)) : PyData := .tuple (ps.map dR)
theorem dLf_inv {H : Hp} {v : V} {lf : Lf} (h : Tp H v (dLf lf)) : ∃ (t : Addr) (u1 u2 u3 u4 : V), v = .ref t ∧ H t = some (.tup [u1, u2, u3, u4]) ∧ Tp H u1 (dL lf.L) ∧ Tp H u2 (dS lf.fr) ∧ Tp H u3 (dS lf.bk) := by
  cases h with
  | tup h r =>
    cases r with
    | cons h1 r =>
      cases r with
      | cons h2 r =>
        cases r with
        | cons h3 r =>
          cases r with
          | cons h4 r => cases r; exact ⟨_, _, _, _, _, rfl, h, h1, h2, h3⟩
theorem allP_snoc (bk : List Lf) (l : Lf) : allP (bk ++ [l]) = allP bk ++ [(l.L, 0), (l.L, 1)] := by
  unfold allP
  rw [List.flatMap_append]
  rfl

theorem pl_dRs {ps : List (Pg × Pg)} (h : ∀ r ∈ ps, okR r) (hl : ps.length ≤ 1000) : Pl 5 (dRs ps) := pl_tup (fun r hr => pl_dR' (h r hr) 0) hl
theorem pl_dPs {ps : List Pg} (h : ∀ p ∈ ps, p.1.length ≤ 3) (hl : ps.length ≤ 1000) : Pl 5 (dPs ps) := pl_tup (fun p hp => pl_dP (h p hp) 1) hl
theorem told_mem {bk : List Lf} {ps : List (Pg × Pg)} (ok : okBk bk) : ∀ p ∈ toldP bk ps, p.1.length ≤ 3 := fun p hp => by
  obtain ⟨l, hl, h⟩ := List.mem_flatMap.mp (List.mem_filter.mp hp).1
  have e : p.1 = l.L := by
    rw [sideP_eq] at h
    obtain ⟨s, _, hs⟩ := List.mem_filterMap.mp h
    rw [(sideF_some hs).2]
  rw [e]
  exact (ok.2.1 l hl).1.1
theorem pl_told {bk : List Lf} {ps : List (Pg × Pg)} (ok : okBk bk) : Pl 5 (dPs (toldP bk ps)) := pl_dPs (told_mem ok) (by
  have h1 : (toldP bk ps).length ≤ (shownP bk).length := List.length_filter_le ..
  have h2 := shownP_len bk
  have := ok.1
  omega)
theorem kept_P {p : Pg} (h : okP p) : keptPD (dP p) = some p := by
  show (if wI 0 1 (.int p.2) = true then (match keptD (dL p.1) with | some L => some (L, toI (.int p.2)) | none => none) else none) = some p
  rw [if_pos (show wI 0 1 (.int p.2) = true from decide_eq_true (by have := h.2; omega)), kept_dL h.1]
  rfl
theorem kept_lP {p : Pg} (h : okP p) : keptPD (toL (dP p)) = some p := by
  have e : keptD (.list (toLs (p.1.map PyData.int))) = some p.1 := by
    rw [toLs_ints]
    exact kept_dL h.1
  show (if wI 0 1 (.int p.2) = true then (match keptD (.list (toLs (p.1.map PyData.int))) with | some L => some (L, toI (.int p.2)) | none => none) else none) = some p
  rw [if_pos (show wI 0 1 (.int p.2) = true from decide_eq_true (by have := h.2; omega)), e]
  rfl
theorem rowAll_tp {K : PySem.W.Frag} {H : Hp} : ∀ {us : List V} {ps : List (Pg × Pg)}, TpAll H us (ps.map dR) → (∀ r ∈ ps, okR r) → RowAll K H us ps
  | _, [], h, _ => by cases h; exact .nil
  | _, r :: ps, h, ok => by
    cases h with
    | cons h t =>
      obtain ⟨a, x, y, rfl, ha, h1, h2⟩ := tpR_inv h
      have o := ok r (List.mem_cons_self ..)
      exact .cons ⟨a, x, y, _, _, rfl, .inr (.inl (.inl ha)), h1.dp, h2.dp, kept_P o.1, kept_P o.2⟩ (rowAll_tp t fun q hq => ok q (List.mem_cons_of_mem _ hq))
theorem rowAll_dp {K : PySem.W.Frag} {H : Hp} : ∀ {us : List V} {ps : List (Pg × Pg)}, DpAll K H us (toLs (ps.map dR)) → (∀ r ∈ ps, okR r) → RowAll K H us ps
  | _, [], h, _ => by cases h; exact .nil
  | _, r :: ps, h, ok => by
    cases h with
    | cons h t =>
      have o := ok r (List.mem_cons_self ..)
      refine .cons ?_ (rowAll_dp t fun q hq => ok q (List.mem_cons_of_mem _ hq))
      have h : Dp K H _ (.list [toL (dP r.1), toL (dP r.2)]) := h
      cases h with
      | lst ha da =>
        cases da with
        | cons h1 da =>
          cases da with
          | cons h2 da =>
            cases da
            exact ⟨_, _, _, _, _, rfl, .inl ha, h1, h2, kept_lP o.1, kept_lP o.2⟩
theorem okBk_drop {bk : List Lf} (k : Nat) (h : okBk bk) : okBk (bk.take k ++ bk.drop (k + 1)) := by
  have s : (bk.take k ++ bk.drop (k + 1)).Sublist bk := by
    rw [← List.eraseIdx_eq_take_drop_succ]
    exact List.eraseIdx_sublist ..
  exact ⟨Nat.le_trans s.length_le h.1, fun l hl => h.2.1 l (s.subset hl), h.2.2.sublist s⟩
theorem okBk_set {bk : List Lf} {k : Nat} {lf new : Lf} (h : okBk bk) (e : bk[k]? = some lf) (o : okLf new) (eL : new.L = lf.L) : okBk ((bk.take k ++ [new]) ++ bk.drop (k + 1)) := by
  obtain ⟨hk, e⟩ := List.getElem?_eq_some_iff.mp e
  have m : ((bk.take k ++ [new]) ++ bk.drop (k + 1)).map (·.L) = bk.map (·.L) := by
    conv => rhs; rw [← List.take_append_drop k bk]
    rw [List.drop_eq_getElem_cons hk, e, List.append_assoc]
    simp only [List.map_append, List.map_cons, List.map_nil, List.singleton_append, eL]
  refine ⟨?_, ?_, ?_⟩
  · rw [← List.length_map (f := (·.L)), m, List.length_map]
    exact h.1
  · intro l hl
    rcases List.mem_append.mp hl with hl | hl
    · rcases List.mem_append.mp hl with hl | hl
      · exact h.2.1 l (List.mem_of_mem_take hl)
      · rw [List.mem_singleton.mp hl]; exact o
    · exact h.2.1 l (List.mem_of_mem_drop hl)
  · have p : (bk.map (·.L)).Pairwise fun a b => HT.lexLt a b = true := by
      rw [List.pairwise_map]
      exact h.2.2
    rw [← m, List.pairwise_map] at p
    exact p
/-! ### sorted of a list of data that are alike -/
section
variable {X : Cx}
/-- the items of a list, by the order of the data they stand for -/
def srtV (xs : List V) (ds : List PyData) : List (V × PyData) := (xs.zip ds).mergeSort (PySem.W.dataLe false Prod.snd)
def rSortedD (K : PySem.W.Frag) : List V → Hp → VK → Prop := fun vs H Q => ∃ (a : Addr) (xs : List V) (ds : List PyData), vs = [V.ref a] ∧ SqL K H a xs ∧ DpAll K H xs ds ∧ PySem.W.AllAlike ds ∧ PySem.W.Sortable ds ∧ (∀ d ∈ ds, d.depth ≤ 60) ∧
  ∀ p, H p = none → Q (.ref p) (upd H p (.lst ((srtV xs ds).map Prod.fst)))
theorem dpAll_zip {K : PySem.W.Frag} {H : Hp} : ∀ {xs : List V} {ds : List PyData}, DpAll K H xs ds → (xs.zip ds).map Prod.snd = ds ∧ (xs.zip ds).map Prod.fst = xs
  | _, _, .nil => ⟨rfl, rfl⟩
  | x :: xs, d :: ds, .cons _ t => by
    obtain ⟨h1, h2⟩ := dpAll_zip t
    exact ⟨congrArg (d :: ·) h1, congrArg (x :: ·) h2⟩
theorem vals_each : ∀ {xs : List V} {its : List Value} {ds : List PyData}, Vals xs its → ds.length = xs.length → PySem.W.EachIs (fun (v : Value) (b : V × PyData) => RelV b.1 v) its (xs.zip ds)
  | _, _, [], .nil, _ => .nil
  | _, _, d :: ds, .cons r t, h => .cons r (vals_each t (Nat.succ.inj h))
  | _, _, d :: ds, .nil, h => nomatch h
  | _, _, [], .cons _ _, h => nomatch h
theorem reads_each {pins : List (Addr × Obj)} {σ : L2.St} {H : Hp} {s : Shared} (I : Inv X pins σ H s) : ∀ {xs : List V} {its : List Value} {ds : List PyData}, Vals xs its → DpAll X.K H xs ds → PySem.W.EachIs (fun (v : Value) (b : V × PyData) => ∃ as, Reads s.heap v b.2 as) its (xs.zip ds)
  | _, _, _, .nil, .nil => .nil
  | _, _, _, .cons r t, .cons h u => .cons (Dp.reads I _ _ _ h r) (reads_each I t u)
theorem each_vals : ∀ {its : List Value} {bs : List (V × PyData)}, PySem.W.EachIs (fun (v : Value) (b : V × PyData) => RelV b.1 v) its bs → Vals (bs.map Prod.fst) its
  | _, _, .nil => .nil
  | _, _, .cons h t => .cons h (each_vals t)
theorem cr_sortedD (hu : X.A.units + 65 < cLine) : CallR X (.builtin "sorted") (rSortedD X.K) := by
  intro pins s σ H vs us Q I r h
  obtain ⟨a, xs, ds, rfl, hs, hd, al, so, dep, q⟩ := h
  obtain ⟨its, rv, hl, hz⟩ := I.list hs
  obtain ⟨u, rfl, ru⟩ := vals1 r
  obtain rfl : u = Value.ref a := ru
  obtain ⟨z1, z2⟩ := dpAll_zip hd
  have hlen := dpAll_len hd
  have lz : (xs.zip ds).length = xs.length := by rw [← List.length_map (f := Prod.fst), z2]
  refine PySem.W.sorted_data (enc := Prod.snd) hl.isList (vals_each rv hlen.symm) (reads_each I rv hd) (by rw [z1]; exact al) (by rw [z1]; exact so) (by rw [lz]; exact hz) (fun b hb => ?_) fun out ho he => ?_
  · have hb2 : b.2 ∈ ds := by rw [← z1]; exact List.mem_map_of_mem hb
    have := dep _ hb2
    omega
  · obtain ⟨n, hn⟩ := sortedAll_at s.heap its out.toArray
    have ol : ((srtV xs ds).map Prod.fst).length ≤ sizeLine := by
      unfold srtV
      rw [List.length_map, (List.mergeSort_perm ..).length_eq, lz]
      exact hz
    exact ⟨.ref (s.heap.objs.size + 1), upd H (s.heap.objs.size + 1) (.lst ((srtV xs ds).map Prod.fst)), I.laid (t' := s.toks) (fun b o e => sortedAll_old e) (Nat.le_succ _) ⟨ol, out, n, each_vals he, hn⟩, rfl, q _ (I.hok.fresh (Nat.le_succ _))⟩
end
/-- .. of pages -/
theorem alike_Ps (ps : List Pg) : PySem.W.AllAlike (ps.map dP) := PySem.W.AllAlike.of alike_P
theorem sortable_Ps (ps : List Pg) : PySem.W.Sortable (ps.map dP) := PySem.W.Sortable.tuples fun _ => ⟨_, _, rfl⟩
theorem tpAll_mem {H : Hp} : ∀ {xs : List V} {ds : List PyData}, TpAll H xs ds → ∀ b ∈ xs.zip ds, Tp H b.1 b.2
  | _, _, .nil, b, hb => nomatch hb
  | _, _, .cons h t, b, hb => by
    rcases List.mem_cons.mp hb with rfl | hb
    · exact h
    · exact tpAll_mem t b hb
theorem tpAll_of {H : Hp} : ∀ (bs : List (V × PyData)), (∀ b ∈ bs, Tp H b.1 b.2) → TpAll H (bs.map Prod.fst) (bs.map Prod.snd)
  | [], _ => .nil
  | b :: r, h => .cons (h b (List.mem_cons_self ..)) (tpAll_of r fun c hc => h c (List.mem_cons_of_mem _ hc))
theorem perm_of_map {α β : Type} {f : α → β} : ∀ {l : List β} {ps : List α}, l.Perm (ps.map f) → ∃ qs : List α, l = qs.map f ∧ qs.Perm ps := by
  intro l ps h
  have key : ∀ {l m : List β}, l.Perm m → ∀ ps : List α, m = ps.map f → ∃ qs : List α, l = qs.map f ∧ qs.Perm ps := by
    intro l m h
    induction h with
    | nil => intro ps e; exact ⟨[], rfl, by cases ps with | nil => exact .nil | cons _ _ => cases e⟩
    | cons x _ ih =>
      intro ps e
      cases ps with
      | nil => cases e
      | cons p r =>
        injection e with e1 e2
        obtain ⟨qs, e3, hp⟩ := ih r e2
        exact ⟨p :: qs, by rw [e1, e3]; rfl, hp.cons p⟩
    | swap x y l =>
      intro ps e
      match ps, e with
      | p :: q :: r, e =>
        injection e with e1 e2
        injection e2 with e2 e3
        exact ⟨q :: p :: r, by rw [e1, e2, e3]; rfl, .swap ..⟩
    | trans _ _ ih1 ih2 =>
      intro ps e
      obtain ⟨qs, e1, h1⟩ := ih2 ps e
      obtain ⟨rs, e2, h2⟩ := ih1 qs e1
      exact ⟨rs, e2, h2.trans h1⟩
  exact key h ps rfl
theorem srt_Ps {H : Hp} {xs : List V} {ps : List Pg} (h : TpAll H xs (ps.map dP)) : ∃ qs : List Pg, qs.Perm ps ∧ TpAll H ((srtV xs (ps.map dP)).map Prod.fst) (qs.map dP) := by
  have hp : (srtV xs (ps.map dP)).Perm (xs.zip (ps.map dP)) := List.mergeSort_perm ..
  have hm : ∀ b ∈ srtV xs (ps.map dP), Tp H b.1 b.2 := fun b hb => tpAll_mem h b (hp.mem_iff.mp hb)
  have h2 := tpAll_of _ hm
  have z : (xs.zip (ps.map dP)).map Prod.snd = ps.map dP := by
    rw [List.map_snd_zip]
    rw [h.len]
    exact Nat.le_refl _
  have h3 : ((srtV xs (ps.map dP)).map Prod.snd).Perm (ps.map dP) := by
    have := hp.map Prod.snd
    rwa [z] at this
  obtain ⟨qs, e, hq⟩ : ∃ qs : List Pg, (srtV xs (ps.map dP)).map Prod.snd = qs.map dP ∧ qs.Perm ps := perm_of_map h3
  exact ⟨qs, hq, by rw [← e]; exact h2⟩
/-! ### rows of pages -/
inductive PgAll (K : PySem.W.Frag) (H : Hp) : List V → List Pg → Prop
  | nil : PgAll K H [] []
  | cons {v : V} {vs : List V} {p : Pg} {ps : List Pg} {d : PyData} (h : Dp K H v d) (e : keptPD d = some p) (t : PgAll K H vs ps) : PgAll K H (v :: vs) (p :: ps)
theorem PgAll.same {K : PySem.W.Frag} {H H' : Hp} (m : Same H H') : ∀ {vs : List V} {ps : List Pg}, PgAll K H vs ps → PgAll K H' vs ps
  | _, _, .nil => .nil
  | _, _, .cons h e t => .cons (dp_same m h) e (PgAll.same m t)
theorem PgAll.len {K : PySem.W.Frag} {H : Hp} : ∀ {vs : List V} {ps : List Pg}, PgAll K H vs ps → vs.length = ps.length
  | _, _, .nil => rfl
  | _, _, .cons _ _ t => congrArg (· + 1) (PgAll.len t)
theorem PgAll.get {K : PySem.W.Frag} {H : Hp} : ∀ {vs : List V} {ps : List Pg} {i : Nat} {v : V}, PgAll K H vs ps → vs[i]? = some v → ∃ p d, ps[i]? = some p ∧ Dp K H v d ∧ keptPD d = some p
  | _, _, _, _, .nil, e => nomatch e
  | _, _, 0, _, .cons h k t, e => by
    injection e with e
    subst e
    exact ⟨_, _, rfl, h, k⟩
  | _, _, i + 1, _, .cons h k t, e => PgAll.get (i := i) t e
theorem pgAll_tp {K : PySem.W.Frag} {H : Hp} : ∀ {us : List V} {ps : List Pg}, TpAll H us (ps.map dP) → (∀ p ∈ ps, okP p) → PgAll K H us ps
  | _, [], h, _ => by cases h; exact .nil
  | _, p :: ps, h, ok => by
    cases h with
    | cons h t => exact .cons h.dp (kept_P (ok p (List.mem_cons_self ..))) (pgAll_tp t fun q hq => ok q (List.mem_cons_of_mem _ hq))
theorem pgAll_dp {K : PySem.W.Frag} {H : Hp} : ∀ {us : List V} {ps : List Pg}, DpAll K H us (toLs (ps.map dP)) → (∀ p ∈ ps, okP p) → PgAll K H us ps
  | _, [], h, _ => by cases h; exact .nil
  | _, p :: ps, h, ok => by
    cases h with
    | cons h t => exact .cons h (kept_lP (ok p (List.mem_cons_self ..))) (pgAll_dp t fun q hq => ok q (List.mem_cons_of_mem _ hq))
theorem eqvAll_P : ∀ ps qs : List Pg, PyData.eqvAll (ps.map dP) (qs.map dP) = decide (ps = qs)
  | [], [] => rfl
  | [], _ :: _ => rfl
  | _ :: _, [] => rfl
  | p :: ps, q :: qs => by
    show (PyData.eqv (dP p) (dP q) && PyData.eqvAll (ps.map dP) (qs.map dP)) = _
    rw [eqv_dP, eqvAll_P ps qs, Bool.eq_iff_iff]
    simp
theorem shown_okP {bk : List Lf} (ok : okBk bk) : ∀ p ∈ shownP bk, okP p := fun p hp => by
  obtain ⟨l, hl, h⟩ := List.mem_flatMap.mp hp
  rw [sideP_eq] at h
  obtain ⟨s, hs, hf⟩ := List.mem_filterMap.mp h
  obtain ⟨_, rfl⟩ := sideF_some hf
  refine ⟨(ok.2.1 l hl).1, ?_⟩
  rcases List.mem_cons.mp hs with h | h
  · exact .inl h
  · exact .inr (List.mem_singleton.mp h)
theorem all_okP {bk : List Lf} (ok : okBk bk) : ∀ p ∈ allP bk, okP p := fun p hp => by
  obtain ⟨l, hl, h⟩ := List.mem_flatMap.mp hp
  rcases List.mem_cons.mp h with rfl | h
  · exact ⟨(ok.2.1 l hl).1, .inl rfl⟩
  · rw [List.mem_singleton.mp h]; exact ⟨(ok.2.1 l hl).1, .inr rfl⟩
theorem ltP_leP (p q : Pg) : PySem.W.dataLt (dP p) (dP q) = !leP q p := by
  unfold leP ltP
  rw [Bool.not_not]
/-- when all are ranges of the book, what is told needs no more asking -/
theorem told_all {bk : List Lf} {ps : List (Pg × Pg)} (h : ps.all (isR bk) = true) : toldP bk ps = (shownP bk).filter fun p => ps.any (inR p) := by
  unfold toldP
  rw [List.filter_eq_self.mpr (List.all_eq_true.mp h)]
theorem pn_Ps (ps : List Pg) : Pn 3 (dPs ps) := fun d hd => by
  obtain ⟨p, _, rfl⟩ := List.mem_map.mp hd
  exact pn_P p
/-- one of the leaves' data -/
theorem lv_get {H : Hp} {vs : List V} {bk : List Lf} {i : Nat} {v : V} (tp : TpAll H vs (bk.map dLf)) (hx : vs[i]? = some v) : ∃ lf, bk[i]? = some lf ∧ Tp H v (dLf lf) := by
  obtain ⟨d, ed, td⟩ := tp.get hx
  rw [List.getElem?_map] at ed
  cases e : bk[i]? with
  | none => rw [e] at ed; cases ed
  | some l => rw [e] at ed; cases ed; exact ⟨l, rfl, td⟩
theorem nodup_sub {α : Type} [DecidableEq α] : ∀ {l m : List α}, l.Nodup → (∀ x ∈ l, x ∈ m) → l.length ≤ m.length
  | [], _, _, _ => Nat.zero_le _
  | x :: l, m, n, s => by
    obtain ⟨hx, hl⟩ := List.nodup_cons.mp n
    have hm := s x (List.mem_cons_self ..)
    have h := nodup_sub (m := m.erase x) hl fun y hy => (List.mem_erase_of_ne (fun e : y = x => hx (by rw [← e]; exact hy))).mpr (s y (List.mem_cons_of_mem _ hy))
    rw [List.length_erase_of_mem hm] at h
    have := List.length_pos_of_mem hm
    show l.length + 1 ≤ m.length
    omega
def freeK (Ls : List (List Int)) (n : Nat) : List Nat := (List.range n).filter fun i => decide ([(99 : Int) - (i : Int)] ∉ Ls)
theorem freeK_succ (Ls : List (List Int)) (n : Nat) : freeK Ls (n + 1) = freeK Ls n ++ (if decide ([(99 : Int) - (n : Int)] ∉ Ls) = true then [n] else []) := by
  unfold freeK
  rw [List.range_succ, List.filter_append, List.filter_cons, List.filter_nil]
theorem freeK_ne {Ls : List (List Int)} (h : Ls.length ≤ 60) : freeK Ls 99 ≠ [] := fun e => by
  have hall : ∀ x ∈ (List.range 99).map (fun (i : Nat) => [(99 : Int) - (i : Int)]), x ∈ Ls := fun x hx => by
    obtain ⟨i, hi, rfl⟩ := List.mem_map.mp hx
    have := List.filter_eq_nil_iff.mp e i hi
    simpa using this
  have nd : ((List.range 99).map (fun (i : Nat) => [(99 : Int) - (i : Int)])).Nodup := List.Pairwise.map _ (fun x y h e => h (by injection e with e; omega)) List.nodup_range
  have := nodup_sub nd hall
  rw [List.length_map, List.length_range] at this
  omega
theorem freeK_mem {Ls : List (List Int)} {n i : Nat} (h : i ∈ freeK Ls n) : i < n := List.mem_range.mp (List.mem_filter.mp h).1
theorem tpAll_snoc_inv {H : Hp} : ∀ {ws : List V} {ds : List PyData} {d : PyData}, TpAll H ws (ds ++ [d]) → ∃ W v, ws = W ++ [v] ∧ TpAll H W ds ∧ Tp H v d
  | _, [], d, h => by
    cases h with
    | cons h t => cases t; exact ⟨[], _, rfl, .nil, h⟩
  | _, e :: ds, d, h => by
    cases h with
    | cons h t =>
      obtain ⟨W, v, rfl, h1, h2⟩ := tpAll_snoc_inv t
      exact ⟨_ :: W, v, rfl, .cons h h1, h2⟩
theorem pg_inv {H : Hp} {v : V} {p : Pg} (h : Tp H v (dP p)) : ∃ a l, v = .ref a ∧ H a = some (.tup [.ref l, .int p.2]) ∧ H l = some (.tup (p.1.map V.int)) := by
  cases h with
  | tup h r =>
    cases r with
    | cons h1 r =>
      cases r with
      | cons h2 r =>
        cases r
        cases h2
        obtain ⟨l, rfl, hl⟩ := tpL_inv h1
        exact ⟨_, l, rfl, h, hl⟩
theorem first_at {p : Pg} : ∀ {ps : List Pg}, p ∈ ps → ∃ j, j < ps.length ∧ ps[j]? = some p ∧ ∀ m p', m < j → ps[m]? = some p' → p' ≠ p
  | q :: ps, h => by
    by_cases e : q = p
    · exact ⟨0, Nat.succ_pos _, by rw [e]; rfl, fun m _ h => absurd h (Nat.not_lt_zero _)⟩
    · have h2 : p ∈ ps := by
        rcases List.mem_cons.mp h with h | h
        · exact absurd h.symm e
        · exact h
      obtain ⟨j, h1, h3, h4⟩ := first_at h2
      refine ⟨j + 1, Nat.succ_lt_succ h1, h3, fun m p' hm hp => ?_⟩
      cases m with
      | zero => cases hp; exact e
      | succ m => exact h4 m p' (Nat.lt_of_succ_lt_succ hm) hp
theorem first_d {ps : List Pg} {p : Pg} {j : Nat} (e : ps[j]? = some p) : (ps.map dP)[j]? = some (dP p) := by rw [List.getElem?_map, e]; rfl
theorem first_no {ps : List Pg} {p : Pg} {j : Nat} (h : ∀ m p', m < j → ps[m]? = some p' → p' ≠ p) : ∀ (m : Nat) (z : PyData), m < j → (ps.map dP)[m]? = some z → PyData.eqv z (dP p) = false := fun m z hm hz => by
  rw [List.getElem?_map] at hz
  cases e : ps[m]? with
  | none => rw [e] at hz; cases hz
  | some p' =>
    rw [e] at hz
    cases hz
    rw [eqv_dP]
    exact decide_eq_false (h m p' hm e)
theorem eqv_Pself (p : Pg) : PyData.eqv (dP p) (dP p) = true := by rw [eqv_dP]; exact decide_eq_true rfl
theorem TpAll.rev {H : Hp} : ∀ {vs : List V} {ds : List PyData}, TpAll H vs ds → TpAll H vs.reverse ds.reverse
  | _, _, .nil => .nil
  | _, _, .cons h t => by
    rw [List.reverse_cons, List.reverse_cons]
    exact (TpAll.rev t).snoc h
/-- a list of one or two pairs, laid apart from the source -/
def Good (a : Addr) (H H' : Hp) (G : Addr) : Prop := Src H' a ∧ But a H H' ∧ G ≠ a ∧ ∃ (gs : List V) (ns : List (Pg × Pg)), H' G = some (.lst gs) ∧ TpAll H' gs (ns.map dR) ∧ (∀ r ∈ ns, okR r) ∧ ns.length ≤ 2
theorem srcS {Ha Hb : Hp} {a : Addr} (s : Same Ha Hb) (h : Src Ha a) : Src Hb a := by
  obtain ⟨g, x, c, e⟩ := h
  exact ⟨g, x, c, s _ _ e⟩
theorem good1 {a : Addr} {H Hn : Hp} {x y : V} {p p' : Pg} (sn : Src Hn a) (bn : But a H Hn) (hx : Tp Hn x (dP p)) (hy : Tp Hn y (dP p')) (o : okP p) (o' : okP p') {t : Addr} (nt : Hn t = none) {g : Addr} (ng : upd Hn t (.tup [x, y]) g = none) : Good a H (upd (upd Hn t (.tup [x, y])) g (.lst [.ref t])) g := by
  have s1 := same_upd (o := .tup [x, y]) nt
  have s2 := same_upd (o := .lst [.ref t]) ng
  have s := s1.trans s2
  have sg := srcS s1 sn
  refine ⟨srcS s sn, bn.trans (But.of s), (sg.ne ng).symm, _, [(p, p')], upd_same, .cons (.tup (s2 _ _ upd_same) (.cons (hx.nl (NL.of s)) (.cons (hy.nl (NL.of s)) .nil))) .nil, fun r hr => ?_, (by show 1 ≤ 2; decide)⟩
  rw [List.mem_singleton.mp hr]
  exact ⟨o, o'⟩
theorem good0 {a : Addr} {H Hn : Hp} {v : V} {r : Pg × Pg} (sn : Src Hn a) (bn : But a H Hn) (hv : Tp Hn v (dR r)) (o : okR r) {g : Addr} (ng : Hn g = none) : Good a H (upd Hn g (.lst [v])) g := by
  have s := same_upd (o := .lst [v]) ng
  refine ⟨srcS s sn, bn.trans (But.of s), (sn.ne ng).symm, _, [r], upd_same, .cons (hv.nl (NL.of s)) .nil, fun q hq => ?_, (by show 1 ≤ 2; decide)⟩
  rw [List.mem_singleton.mp hq]
  exact o
theorem page_at {H : Hp} {ks : List V} {bk : List Lf} (ok : okBk bk) (tk : TpAll H ks ((allP bk).map dP)) {c : Int} (h0 : 0 ≤ c) (h1 : c < ks.length) : ∃ x p, atI ks c = some x ∧ Tp H x (dP p) ∧ okP p := by
  obtain ⟨x, ex⟩ : ∃ x, ks[c.toNat]? = some x := ⟨_, List.getElem?_eq_getElem (by omega)⟩
  obtain ⟨d, ed, tx⟩ := tk.get ex
  rw [List.getElem?_map] at ed
  cases e : (allP bk)[c.toNat]? with
  | none => rw [e] at ed; cases ed
  | some p =>
    rw [e] at ed
    cases ed
    exact ⟨x, p, at_of' (Int.toNat_of_nonneg h0).symm ex, tx, all_okP ok p (List.mem_of_getElem? e)⟩
theorem good2 {a : Addr} {H Hn : Hp} {v1 v2 : V} {r1 r2 : Pg × Pg} (sn : Src Hn a) (bn : But a H Hn) (h1 : Tp Hn v1 (dR r1)) (h2 : Tp Hn v2 (dR r2)) (o1 : okR r1) (o2 : okR r2) {g : Addr} (ng : Hn g = none) : Good a H (upd Hn g (.lst [v1, v2])) g := by
  have s := same_upd (o := .lst [v1, v2]) ng
  refine ⟨srcS s sn, bn.trans (But.of s), (sn.ne ng).symm, _, [r1, r2], upd_same, .cons (h1.nl (NL.of s)) (.cons (h2.nl (NL.of s)) .nil), fun q hq => ?_, (by show 2 ≤ 2; decide)⟩
  rcases List.mem_cons.mp hq with h | h
  · rw [h]; exact o1
  · rw [List.mem_singleton.mp h]; exact o2
/-! ### dicts whose keys are data of tuples, of any depth up to 8 -/
mutual
def nkD : PyData → PySem.NestedKey
  | .int i => .num i
  | .str x => .text x
  | .bool b => .num (if b = true then 1 else 0)
  | .tuple ds => .tup (nkDs ds)
  | _ => .none
def nkDs : List PyData → List PySem.NestedKey
  | [] => []
  | d :: r => nkD d :: nkDs r
end
mutual
theorem nested_tp {P : Program} {w : World} {H : Hp} {h : Heap} (ok : HOk P w H h) : ∀ {v : V} {d : PyData} {u : Value}, Tp H v d → RelV v u → PySem.NestedIs h (nkD d) u
  | _, _, _, .non, r => by
    cases (show _ = Value.none from r)
    exact .none
  | _, _, _, .bl b, r => by
    cases (show _ = Value.bool b from r)
    exact .bool rfl
  | _, _, _, .int i, r => by
    obtain ⟨t, rfl⟩ := (show ∃ t, _ = Value.int i t from r)
    exact .int i t
  | _, _, _, .str z, r => by
    obtain ⟨t, rfl⟩ := (show ∃ t, _ = Value.str z t from r)
    exact .text z t
  | _, _, _, .tup (a := a) (vs := vs) e t, r => by
    cases (show _ = Value.ref a from r)
    obtain ⟨_, its, rv, o, h1, h2, n, h3⟩ := (show ObjOk P w H h a (.tup vs) from ok a _ e)
    exact .tup h1 h2 h3 (by simpa using nestedAll_tp ok t rv)
theorem nestedAll_tp {P : Program} {w : World} {H : Hp} {h : Heap} (ok : HOk P w H h) : ∀ {vs : List V} {ds : List PyData} {us : List Value}, TpAll H vs ds → Vals vs us → PySem.NestedAll h (nkDs ds) us
  | _, _, _, .nil, r => by
    cases r
    exact .nil
  | _, _, _, .cons a t, r => by
    cases r with
    | cons r1 r2 => exact .cons (nested_tp ok a r1) (nestedAll_tp ok t r2)
end
mutual
def noL : PyData → Bool
  | .list _ => false
  | .dict _ => false
  | .tuple ds => noLs ds
  | _ => true
def noLs : List PyData → Bool
  | [] => true
  | d :: r => noL d && noLs r
end
mutual
theorem nested_dp {X : Cx} {pins : List (Addr × Obj)} {σ : L2.St} {H : Hp} {s : Shared} (I : Inv X pins σ H s) : ∀ {v : V} {d : PyData} {u : Value}, Dp X.K H v d → noL d = true → RelV v u → PySem.NestedIs s.heap (nkD d) u
  | _, _, _, .non, _, r => by
    cases (show _ = Value.none from r)
    exact .none
  | _, _, _, .bl b, _, r => by
    cases (show _ = Value.bool b from r)
    exact .bool rfl
  | _, _, _, .int i, _, r => by
    obtain ⟨t, rfl⟩ := (show ∃ t, _ = Value.int i t from r)
    exact .int i t
  | _, _, _, .str z, _, r => by
    obtain ⟨t, rfl⟩ := (show ∃ t, _ = Value.str z t from r)
    exact .text z t
  | _, _, _, .lst _ _, n, _ => nomatch n
  | _, _, _, .tup e t, n, r => by
    rename_i a vs ds
    cases (show _ = Value.ref a from r)
    obtain ⟨its, rv, ⟨o, h1, h2, k, h3⟩, _⟩ := I.tuple e
    exact .tup h1 h2 h3 (by simpa using nestedAll_dp I t n rv)
theorem nestedAll_dp {X : Cx} {pins : List (Addr × Obj)} {σ : L2.St} {H : Hp} {s : Shared} (I : Inv X pins σ H s) : ∀ {vs : List V} {ds : List PyData} {us : List Value}, DpAll X.K H vs ds → noLs ds = true → Vals vs us → PySem.NestedAll s.heap (nkDs ds) us
  | _, _, _, .nil, _, r => by
    cases r
    exact .nil
  | _, _, _, .cons a t, n, r => by
    have n2 : (noL _ && noLs _) = true := n
    rw [Bool.and_eq_true] at n2
    cases r with
    | cons r1 r2 => exact .cons (nested_dp I a n2.1 r1) (nestedAll_dp I t n2.2 r2)
end
/-- at b lies the key k -/
def NKey (H : Hp) (b : Addr) (k : PySem.NestedKey) : Prop := ∃ d, Tp H (.ref b) d ∧ nkD d = k ∧ k.depth ≤ 8
theorem NKey.nl {H H' : Hp} {b : Addr} {k : PySem.NestedKey} (m : NL H H') (h : NKey H b k) : NKey H' b k := by
  obtain ⟨d, h1, h2⟩ := h
  exact ⟨d, h1.nl m, h2⟩
theorem nkey_is {P : Program} {w : World} {H : Hp} {h : Heap} {b : Addr} {k : PySem.NestedKey} (ok : HOk P w H h) (q : NKey H b k) : (PySem.nestedKind P w).is h k b := by
  obtain ⟨d, h1, rfl, h3⟩ := q
  exact ⟨nested_tp ok h1 rfl, h3⟩
abbrev NE := PySem.NestedKey × Addr × V
abbrev NU := PySem.NestedKey × Addr × Value
def entN (w : World) (x : NU) : DictEntry := ⟨x.1.hash w, .ref x.2.1, x.2.2⟩
def RelN (p : NE) (q : NU) : Prop := p.1 = q.1 ∧ p.2.1 = q.2.1 ∧ RelV p.2.2 q.2.2
def rawN (w : World) (a : Addr) (kvs : List NE) : HO := .ext fun h => kvs.length ≤ sizeLine ∧ (a == sysModules) = false ∧ ∃ xs : List NU, Paired RelN kvs xs ∧
  ∃ o es ep, h.get? a = some o ∧ o.ExactDict ∧ o.data = .dict es ep ∧ es.toList = xs.map (entN w) ∧ (xs.map (·.1)).Nodup
theorem rawN_st {w : World} {a : Addr} {kvs : List NE} : ∀ h1 h2 : Heap, (kvs.length ≤ sizeLine ∧ (a == sysModules) = false ∧ ∃ xs : List NU, Paired RelN kvs xs ∧ ∃ o es ep, h1.get? a = some o ∧ o.ExactDict ∧ o.data = .dict es ep ∧ es.toList = xs.map (entN w) ∧ (xs.map (·.1)).Nodup) →
    (∀ o, h1.get? a = some o → h2.get? a = some o) → kvs.length ≤ sizeLine ∧ (a == sysModules) = false ∧ ∃ xs : List NU, Paired RelN kvs xs ∧ ∃ o es ep, h2.get? a = some o ∧ o.ExactDict ∧ o.data = .dict es ep ∧ es.toList = xs.map (entN w) ∧ (xs.map (·.1)).Nodup := by
  rintro h1 h2 ⟨z, y, xs, r, o, es, ep, e, c⟩ k
  exact ⟨z, y, xs, r, o, es, ep, k _ e, c⟩
/-- a dict of such keys -/
def DN (w : World) (H : Hp) (a : Addr) (kvs : List NE) : Prop := H a = some (rawN w a kvs) ∧ ∀ p ∈ kvs, NKey H p.2.1 p.1
theorem rawN_ne {w : World} {a : Addr} {kvs : List NE} {xs : List V} : rawN w a kvs ≠ .lst xs := fun z => by
  have z' : HO.ext _ = HO.lst xs := z
  cases z'
theorem rawN_net {w : World} {a : Addr} {kvs : List NE} {xs : List V} : rawN w a kvs ≠ .tup xs := fun z => by
  have z' : HO.ext _ = HO.tup xs := z
  cases z'
theorem DN.nl {w : World} {H H' : Hp} {a : Addr} {kvs : List NE} (m : NL H H') (h : DN w H a kvs) : DN w H' a kvs := ⟨m _ _ h.1 fun _ => rawN_ne, fun p hp => (h.2 p hp).nl m⟩
def atN (kvs : List NE) (k : PySem.NestedKey) : Option V := (kvs.find? fun p => decide (p.1 = k)).map (·.2.2)
def putN (kvs : List NE) (k : PySem.NestedKey) (b : Addr) (v : V) : List NE := if (atN kvs k).isSome = true then kvs.map (fun p => if p.1 = k then (p.1, p.2.1, v) else p) else kvs ++ [(k, b, v)]
theorem putN_len (kvs : List NE) (k : PySem.NestedKey) (b : Addr) (v : V) : (putN kvs k b v).length ≤ kvs.length + 1 := by
  unfold putN
  split
  · rw [List.length_map]; exact Nat.le_succ _
  · rw [List.length_append]; exact Nat.le_refl _
theorem atN_put (kvs : List NE) (k q : PySem.NestedKey) (b : Addr) (v : V) : atN (putN kvs k b v) q = if q = k then some v else atN kvs q := by
  have up : ∀ l : List NE, ((l.map fun p => if p.1 = k then (p.1, p.2.1, v) else p).find? fun p => decide (p.1 = q)).map (·.2.2) = if q = k then (if (atN l k).isSome = true then some v else none) else atN l q := by
    intro l
    induction l with
    | nil => unfold atN; split <;> rfl
    | cons p r ih =>
      unfold atN at ih ⊢
      rw [List.map_cons, List.find?_cons, List.find?_cons, List.find?_cons]
      by_cases c1 : p.1 = k
      · rw [if_pos c1]
        by_cases c2 : q = k
        · rw [decide_eq_true (show p.1 = q from c1.trans c2.symm), decide_eq_true c1, if_pos c2]
          rfl
        · rw [decide_eq_false (fun z : p.1 = q => c2 (z.symm.trans c1)), if_neg c2]
          rw [if_neg c2] at ih
          exact ih
      · rw [if_neg c1, decide_eq_false c1]
        by_cases c2 : p.1 = q
        · rw [decide_eq_true c2, if_neg (fun z => c1 (c2.trans z))]
        · rw [decide_eq_false c2]
          exact ih
  unfold putN
  by_cases e : (atN kvs k).isSome = true
  · rw [if_pos e]
    have := up kvs
    rw [if_pos e] at this
    exact this
  · rw [if_neg e]
    unfold atN at e ⊢
    rw [List.find?_append]
    by_cases c : q = k
    · subst c
      rw [if_pos rfl]
      cases h : kvs.find? fun p => decide (p.1 = q) with
      | none => rw [Option.none_or, List.find?_cons, decide_eq_true rfl]; rfl
      | some p => rw [h] at e; exact absurd rfl e
    · rw [if_neg c]
      cases h : kvs.find? fun p => decide (p.1 = q) with
      | none => rw [Option.none_or, List.find?_cons, decide_eq_false (fun z : k = q => c z.symm)]; rfl
      | some p => rfl
theorem relN_at {kvs : List NE} {xs : List NU} (r : Paired RelN kvs xs) (k : PySem.NestedKey) : RelO (atN kvs k) ((atKey xs k).map (·.2)) := by
  induction r with
  | nil => exact True.intro
  | @cons p q ps qs h t ih =>
    obtain ⟨h1, _, h3⟩ := h
    unfold atN atKey at ih ⊢
    rw [List.find?_cons, List.find?_cons, h1]
    by_cases e : q.1 = k
    · rw [decide_eq_true e]; exact h3
    · rw [decide_eq_false e]; exact ih
theorem relN_map {kvs : List NE} {xs : List NU} (r : Paired RelN kvs xs) (k : PySem.NestedKey) {v : V} {u : Value} (rv : RelV v u) : Paired RelN (kvs.map fun p => if p.1 = k then (p.1, p.2.1, v) else p) (xs.map (putAt k u)) := by
  induction r with
  | nil => exact .nil
  | @cons p q ps qs h t ih =>
    rw [List.map_cons, List.map_cons]
    refine .cons ?_ ih
    obtain ⟨h1, h2, h3⟩ := h
    unfold putAt
    by_cases e : p.1 = k
    · rw [if_pos e, if_pos (h1.symm.trans e)]; exact ⟨h1, h2, rv⟩
    · rw [if_neg e, if_neg (fun z => e (h1.trans z))]; exact ⟨h1, h2, h3⟩
theorem relN_put {kvs : List NE} {xs : List NU} (r : Paired RelN kvs xs) (k : PySem.NestedKey) (b : Addr) {v : V} {u : Value} (rv : RelV v u) : Paired RelN (putN kvs k b v) (storedH xs k b u) := by
  have e : (atN kvs k).isSome = (atKey xs k).isSome := by
    rw [(relN_at r k).isSome_eq, Option.isSome_map]
  unfold putN storedH
  rw [e]
  by_cases q : (atKey xs k).isSome = true
  · rw [if_pos q, if_pos q]; exact relN_map r k rv
  · rw [if_neg q, if_neg q]; exact Paired.snoc r ⟨rfl, rfl, rv⟩
theorem putN_keys {H : Hp} {kvs : List NE} {k : PySem.NestedKey} {b : Addr} {v : V} (h : ∀ p ∈ kvs, NKey H p.2.1 p.1) (hb : NKey H b k) : ∀ p ∈ putN kvs k b v, NKey H p.2.1 p.1 := fun p hp => by
  unfold putN at hp
  split at hp
  · obtain ⟨q, hq, rfl⟩ := List.mem_map.mp hp
    split
    · exact h q hq
    · exact h q hq
  · rcases List.mem_append.mp hp with e | e
    · exact h p e
    · rw [List.mem_singleton.mp e]; exact hb
theorem dn_rd {P : Program} {w : World} {H : Hp} {h : Heap} {a : Addr} {kvs : List NE} (ok : HOk P w H h) (e : DN w H a kvs) : kvs.length ≤ sizeLine ∧ (a == sysModules) = false ∧ ∃ xs, Paired RelN kvs xs ∧ h.DictOfH (PySem.nestedKind P w) a xs := by
  obtain ⟨⟨z, y, xs, r, o, es, ep, h1, h2, h3, h4, h5⟩, _⟩ := (show ObjOk P w H h a (rawN w a kvs) from ok a _ e.1)
  refine ⟨z, y, xs, r, o, es, ep, h1, h2, h3, h4, fun x hx => ?_, h5⟩
  have all : ∀ {l : List NE} {m : List NU}, Paired RelN l m → (∀ p ∈ l, NKey H p.2.1 p.1) → ∀ x ∈ m, (PySem.nestedKind P w).is h x.1 x.2.1 := by
    intro l m q
    induction q with
    | nil => intro _ x hx; exact nomatch hx
    | @cons p q ps qs hq t ih =>
      intro hk x hx
      rcases List.mem_cons.mp hx with e | hx
      · subst e
        have := nkey_is (P := P) (w := w) ok (hk p (List.mem_cons_self ..))
        rw [hq.1, hq.2.1] at this
        exact this
      · exact ih (fun p hp => hk p (List.mem_cons_of_mem _ hp)) x hx
  exact all r e.2 x hx
theorem dn_empty {P : Program} {w : World} {H : Hp} (h : Heap) (hb : sysModules < h.objs.size) : ObjOk P w H (h.push { cls := .type "dict", data := .dict #[] }) h.objs.size (rawN w h.objs.size []) :=
  ⟨⟨Nat.zero_le _, beq_eq_false_iff_ne.mpr (Ne.symm (Nat.ne_of_lt hb)), [], .nil, _, #[], 0, Heap.get?_push_size _ rfl, ⟨rfl, rfl, rfl⟩, rfl, rfl, List.nodup_nil⟩, ⟨_, Heap.get?_push_size _ rfl⟩, rawN_st⟩
section
variable {X : Cx} {pins : List (Addr × Obj)} {σ : L2.St} {H : Hp} {s : Shared} {a b : Addr} {k : PySem.NestedKey} {kvs : List NE} {A : Around} {E : Value → Shared → Prop}
theorem dn_get {v : V} {Q : Value → Shared → Prop} (hu : A.units + 64 < cLine) (I : Inv X pins σ H s) (e : DN X.w H a kvs) (hb : (PySem.nestedKind X.prog X.w).is s.heap k b) (l : atN kvs k = some v) (h : ∀ w' s', Inv X pins σ H s' → RelV v w' → Q w' s') :
    wpAny (model X.prog X.w) A (getItem (.ref a) (.ref b)) Q E s := by
  obtain ⟨z, hd, xs, rel, dd⟩ := dn_rd I.hok e
  obtain ⟨w', hw, rw'⟩ := RelO.some_of (v := v) (o := (atKey xs k).map (·.2)) (by rw [← l]; exact relN_at rel k)
  obtain ⟨p, hp, hp2⟩ := Option.map_eq_some_iff.mp hw
  refine wpAny_getItem_heap (knd := PySem.nestedKind X.prog X.w) (show A.units + 1 + 8 < cLine by omega) hb dd hp ?_
  rw [hp2]
  exact h w' _ (I.tok _) rw'
theorem dn_new {P : Program} {w : World} {H' : Hp} {h' : Heap} {a : Addr} {kvs : List NE} {xs : List NU} (z : kvs.length ≤ sizeLine) (hd : (a == sysModules) = false) (rel : Paired RelN kvs xs) (dd : h'.DictOfH (PySem.nestedKind P w) a xs) : ObjOk P w H' h' a (rawN w a kvs) := by
  obtain ⟨o, es, ep, h1, h2, h3, h4, _, h5⟩ := dd
  exact ⟨⟨z, hd, xs, rel, o, es, ep, h1, h2, h3, h4, h5⟩, ⟨o, h1⟩, rawN_st⟩
theorem DN.put {w : World} {H : Hp} {a b : Addr} {kvs : List NE} {k : PySem.NestedKey} {v : V} (e : DN w H a kvs) (hb : NKey H b k) : DN w (upd H a (rawN w a (putN kvs k b v))) a (putN kvs k b v) := by
  have tp : ∀ {c : Addr} {q : PySem.NestedKey}, NKey H c q → NKey (upd H a (rawN w a (putN kvs k b v))) c q := fun {c q} ⟨d, h1, h2⟩ => by
    refine ⟨d, ?_, h2⟩
    have go : ∀ {H' : Hp}, (∀ c ys, H c = some (.tup ys) → H' c = some (.tup ys)) → ∀ {u : V} {d : PyData}, Tp H u d → Tp H' u d := fun {H'} m => @Tp.rec H (fun u d _ => Tp H' u d) (fun us ds _ => TpAll H' us ds) .non .bl .int .str (fun h _ r => .tup (m _ _ h) r) .nil (fun _ _ a b => .cons a b)
    exact go (fun c ys ec => by rw [upd_ne (fun z => by rw [z, e.1] at ec; exact rawN_net (Option.some.inj ec))]; exact ec) h1
  exact ⟨upd_same, fun p hp => putN_keys (fun p hp => tp (e.2 p hp)) (tp hb) p hp⟩
theorem dn_set {v : V} {r : Value} {QQ : Unit → Shared → Prop} (hu : X.A.units + 64 < cLine) (I : Inv X pins σ H s) (e : DN X.w H a kvs) (hb : NKey H b k) (small : kvs.length < sizeLine) (rv : RelV v r)
    (go : ∀ s', Inv X pins σ (upd H a (rawN X.w a (putN kvs k b v))) s' → QQ () s') : wpAny (model X.prog X.w) X.A (dictSet a (.ref b) r) QQ E s := by
  obtain ⟨le, nsys, xs, rel, dd⟩ := dn_rd I.hok e
  have le2 : (putN kvs k b v).length ≤ sizeLine := Nat.le_trans (putN_len kvs k b v) small
  refine wpAny_dictSet_heap (knd := PySem.nestedKind X.prog X.w) (hsz := by rw [← Paired.length rel]; exact le) (show X.A.units + 8 < cLine by omega) (nkey_is I.hok hb) dd fun h' new only => go _ ?_
  obtain ⟨o, es, ep, at_, _⟩ := id new
  exact d_write I (by rw [e.1]; exact True.intro) only ⟨o, at_⟩ (dn_new le2 nsys (relN_put rel k b rv) new)
variable {o i : Expr} {pos : Pos} {td ty : TE}
/-- d[y], y data without lists -/
def tNGet (K : PySem.W.Frag) (w : World) (td ty : TE) : TE := fun σ H Q => td σ H fun x H1 => ty σ H1 fun y H2 => ∃ a kvs b d v, x = .ref a ∧ DN w H2 a kvs ∧ y = .ref b ∧ Dp K H2 (.ref b) d ∧ noL d = true ∧ (nkD d).depth ≤ 8 ∧ atN kvs (nkD d) = some v ∧ Q v H2
theorem pe_nget (hu : X.A.units + 64 < cLine) (ho : PE X o td) (hi : PE X i ty) (hs : NoSl i) : PE X (.Subscript o i pos) (tNGet X.K X.w td ty) := by
  constructor
  intro pins s σ H Q I h
  refine subD_of PySem.F.slot_dict_getitem.lookup hs (thn (ho.run pins s σ H _ I h) ?_)
  rintro u s1 ⟨x, H1, I1, rx, q1⟩
  refine thn (hi.run pins s1 σ H1 _ I1 q1) ?_
  rintro iv s2 ⟨y, H2, I2, ry, a, kvs, b, d, v, rfl, e, rfl, hd, hn, h8, l, q2⟩
  cases rx
  cases ry
  obtain ⟨_, _, xs, _, dd⟩ := dn_rd I2.hok e
  exact ⟨dd.typeIs, dn_get hu I2 e ⟨nested_dp I2 hd hn rfl, h8⟩ l fun w' s3 I3 rw' => ⟨v, H2, I3, rw', q2⟩⟩
end
section
variable {X : Cx}
/-- {k: v for target in iter}: D the new dict -/
def tDcN (w : World) (wi : TI) (g : TG) (tk tv : TE) (vs : List Nat) : TE := fun σ H Q => wi σ H fun J H1 => ∀ D, H1 D = Option.none → ∃ W : Nat → Nat → Hp → Prop, (∃ m, W 0 m (upd H1 D (rawN w D []))) ∧ ∀ i m H, W i m H →
  (J.stop i H ∧ Q (.ref D) H) ∨ (J.go i H ∧ ∃ Nx : Hp → Prop, (∀ H', Nx H' → ∃ m', m' < m ∧ W (i + 1) m' H') ∧ ∀ x H', J.yld i H x H' → g x (wipe σ vs) H' fun σ2 H2 => wipe σ2 vs = wipe σ vs ∧
    tk σ2 H2 fun y H4 => tv σ2 H4 fun z H5 => ∃ b kvs k, y = .ref b ∧ DN w H5 D kvs ∧ NKey H5 b k ∧ kvs.length < sizeLine ∧ Nx (upd H5 D (rawN w D (putN kvs k b z))))
theorem dcN_core {pins : List (Addr × Obj)} {s : Shared} {σ : L2.St} {H : Hp} {Q : VK} {use : Option (Value → Sem Unit)} {Qf : Value → Shared → Prop} {kx vx tg iter : Expr} {scope : Scope} {own : List (Str × Nat)} {pos : Pos} {wi : TI} {g : TG} {tk tv : TE} (hu : X.A.units + 64 < cLine) (hc : X.calm = true) (hN : X.N.Nodup) (hi : PI X tg iter wi) (ok : BlkOk X.N X.env.scope scope own)
    (hg : ∀ (s : Shared) (H : Hp) (C : Addr) (cl : List (Str × Addr)) (fp : List Addr), PG (X.blk s H scope (compEnvC scope cl C X.env) fp) tg g)
    (hk : ∀ (s : Shared) (H : Hp) (C : Addr) (cl : List (Str × Addr)) (fp : List Addr), PE (X.blk s H scope (compEnvC scope cl C X.env) fp) kx tk)
    (hv : ∀ (s : Shared) (H : Hp) (C : Addr) (cl : List (Str × Addr)) (fp : List Addr), PE (X.blk s H scope (compEnvC scope cl C X.env) fp) vx tv) (hs : ∀ x, foldedSetIterable iter X.env x = pure x) (I : Inv X pins σ H s) (h : tDcN X.w wi g tk tv (own.map (·.2)) σ H Q)
    (hRR : ∀ (D : Addr) (ce : Env) (s' : Shared) (m : Str → Option Value) (H' : Hp), Inv X pins σ H' s' → Q (.ref D) H' → s'.heap.Ns ce.locals m → FpOk X pins H' ce.locals → compEnds (model X.prog X.w) X.A X.xe use Qf (.ref D) ce (.ok .next) s') :
    wpAny (model X.prog X.w) X.A (comprehension (.DictComp kx vx [⟨tg, iter, [], 0⟩] scope pos) scope X.env (firstIterPos [⟨tg, iter, [], 0⟩] pos) newDict false (eval iter X.env) use) Qf X.xe s := by
  have hfree : ∀ y ∈ scope.names, y.2 = .free → ∃ c, X.env.cells.lookup y.1 = some c := fun y hy e => (ok.free y hy e).elim (fun k => I.ok.has _ (.inl k)) (fun k => I.ok.has _ (.inr k))
  refine comprehension_at (use := use) rfl hs (closure_ok hfree) ok.kind (fun y hy e => by rw [ok.uniq y hy, e]) (thn (hi.run pins s σ H _ I h) fun xv s1 hx => thn hx fun itv s2 h2 => ?_)
  obtain ⟨it, fp, tn, J, H2, rfl, I2, T, st2, f2, q⟩ := h2
  refine wpAny_newObj_type (newEnv_comp ?_)
  obtain ⟨D, hD⟩ : ∃ D, s2.heap.objs.size = D := ⟨_, rfl⟩
  obtain ⟨W, ⟨m0, w0⟩, turn⟩ := q D (I2.hok.fresh (Nat.le_of_eq hD))
  rw [hD]
  obtain ⟨s3, hs3⟩ : ∃ s3 : Shared, s3 = { s2 with heap := s2.heap.push { cls := .type "dict", data := .dict #[] } } := ⟨_, rfl⟩
  have h3 : s3.heap = s2.heap.push { cls := .type "dict", data := .dict #[] } := by rw [hs3]
  have I3 : Inv X pins σ (upd H2 D (rawN X.w D [])) s3 := by
    rw [hs3]
    refine I2.laid (t' := s2.toks) (fun b o e => Heap.get?_push_of_some _ e) (Nat.le_of_eq hD) ?_
    rw [← hD]
    exact dn_empty s2.heap I2.big
  have f3 : ∀ b ∈ fp, FpOk X pins (upd H2 D (rawN X.w D [])) b ∧ b < s3.heap.objs.size := fun b hb => by
    obtain ⟨o, e, _⟩ := T.obj _ _ st2 b hb
    have hlt := Heap.lt_size e
    refine ⟨⟨?_, (f2 b hb).2⟩, by rw [h3, Heap.size_push]; exact Nat.lt_succ_of_lt hlt⟩
    rw [upd_ne (by rw [← hD]; exact Nat.ne_of_lt hlt)]
    exact (f2 b hb).1
  have hch : ∀ b ∈ fp, (b ∈ X.ex ∨ X.s_0.heap.objs.size ≤ b) ∧ b ≠ X.env.locals ∧ (∀ x c, X.env.cells.lookup x = some c → c ≠ b) ∧ ∀ p ∈ X.pn ++ pins, p.1 ≠ b := fun b hb => ⟨(f3 b hb).1.2.2.2.1, (f3 b hb).1.2.1, (f3 b hb).1.2.2.2.2.1, (f3 b hb).1.2.2.2.2.2⟩
  have I4 := block_start I3 ok hN f3
  rw [← hs3]
  show codeAny _ _ (.compStart (.DictComp kx vx [⟨tg, iter, [], 0⟩] scope pos) 0 (.ref it) (.ref D) (compEnvC scope (cellsFrom (s3.heap.objs.size + 1) scope.names (cloFrom X.env.cells scope.names [])) s3.heap.objs.size X.env)) (compEnds (model X.prog X.w) X.A X.xe use Qf (.ref D) (compEnvC scope (cellsFrom (s3.heap.objs.size + 1) scope.names (cloFrom X.env.cells scope.names [])) s3.heap.objs.size X.env)) { s3 with heap := pushCells (s3.heap.push { cls := .type "dict", data := .dict #[] }) scope.names }
  have pg := hg s3 (upd H2 D (rawN X.w D [])) s3.heap.objs.size (cellsFrom (s3.heap.objs.size + 1) scope.names (cloFrom X.env.cells scope.names [])) fp
  have pk := hk s3 (upd H2 D (rawN X.w D [])) s3.heap.objs.size (cellsFrom (s3.heap.objs.size + 1) scope.names (cloFrom X.env.cells scope.names [])) fp
  have pv := hv s3 (upd H2 D (rawN X.w D [])) s3.heap.objs.size (cellsFrom (s3.heap.objs.size + 1) scope.names (cloFrom X.env.cells scope.names [])) fp
  obtain ⟨ce, hce⟩ : ∃ ce, ce = compEnvC scope (cellsFrom (s3.heap.objs.size + 1) scope.names (cloFrom X.env.cells scope.names [])) s3.heap.objs.size X.env := ⟨_, rfl⟩
  have cL : ce.locals = s3.heap.objs.size := by rw [hce]; rfl
  rw [← hce] at I4 pg pk pv ⊢
  have nfp : ∀ b ∈ fp, (upd H2 D (rawN X.w D [])) b = Option.none := fun b hb => (f3 b hb).1.1
  have st4 : tn 0 (pushCells (s3.heap.push { cls := .type "dict", data := .dict #[] }) scope.names) := T.keep _ _ _ st2 fun b _ o e => pushCells_keeps _ _ _ _ (Heap.get?_push_of_some _ (by rw [h3]; exact Heap.get?_push_of_some _ e))
  generalize upd H2 D (rawN X.w D []) = H3 at I3 I4 pg pk pv w0 nfp f3
  have stat : ∀ {σ' : L2.St} {H' : Hp} {s' : Shared}, Inv (X.blk s3 H3 scope ce fp) [] σ' H' s' → (∀ b ∈ fp, H' b = Option.none) → ∀ b ∈ fp, FpOk (X.blk s3 H3 scope ce fp) [] H' b := fun {σ' H' s'} I' hn b hb =>
    ⟨hn b hb, (I'.ok.exf b hb).1, I'.ok.exfs b hb, .inl hb, fun x c e => (I'.ok.exf b hb).2 x c e, fun p hp => absurd (show p ∈ ([] : List (Addr × Obj)) ++ [] from hp) (by simp)⟩
  have loop : ∀ s4 : Shared, Inv (X.blk s3 H3 scope ce fp) [] (wipe σ (own.map (·.2))) H3 s4 → tn 0 s4.heap → codeAny (model X.prog X.w) X.A (.compLoop (.DictComp kx vx [⟨tg, iter, [], 0⟩] scope pos) 0 (.ref it) (.ref D) ce) (compEnds (model X.prog X.w) X.A X.xe use Qf (.ref D) ce) s4 := by
    intro s4 I4 st4
    refine compLoop_anyD (fun n s' => ∃ i H', Inv (X.blk s3 H3 scope ce fp) [] (wipe σ (own.map (·.2))) H' s' ∧ tn i s'.heap ∧ (∀ b ∈ fp, H' b = Option.none) ∧ W i n H') ?_ m0 ⟨0, H3, I4, st4, nfp, w0⟩
    rintro n s5 ⟨i, H5, I5, st5, n5, w5⟩
    rcases turn i n H5 w5 with ⟨stop, qq⟩ | ⟨go, Nx, hNx, step⟩
    · refine thnF (T.done (X.blk s3 H3 scope ce fp) rfl rfl rfl hc i [] s5 _ H5 (fun _ _ => False) I5 (stat I5 n5) st5 stop) fun r s6 ⟨hr, I6⟩ => ?_
      subst hr
      have I7 : Inv X pins σ H5 s6 := I3.call' (ch := fp) I6.os I6.base I6.hok I6.bare hch
      have nC : H5 ce.locals = Option.none := I6.free
      obtain ⟨m, hn, _⟩ := I6.loc
      have f : FpOk X pins H5 ce.locals := by rw [cL] at nC ⊢; exact I3.fpOk (Nat.le_refl _) nC
      exact hRR D ce s6 m H5 I7 qq hn f
    · refine thnF (T.item (X.blk s3 H3 scope ce fp) rfl rfl rfl hc i [] s5 _ H5 (fun _ _ => False) I5 (stat I5 n5) st5 go) fun r s6 ⟨u, hr, h6⟩ => ?_
      subst hr
      refine thnF h6 fun _ s7 ⟨x, H7, I7, r7, y7, st7, n7⟩ => ?_
      refine thnF (pg.run _ s7 _ H7 x u _ (I7.pinned (stat I7 n7) (T.obj _ _ st7)) r7 (step x H7 y7)) fun _ s8 ⟨σ8, H8, I8, hw8, q8⟩ => ?_
      refine wpAny_tests_nil ?_
      have fin : ∀ {s' : Shared} {H' : Hp}, Inv (X.blk s3 H3 scope ce fp) ([] ++ pinsAt fp s7.heap) σ8 H' s' → Nx H' → ∃ m, m < n ∧ ∃ i H', Inv (X.blk s3 H3 scope ce fp) [] (wipe σ (own.map (·.2))) H' s' ∧ tn i s'.heap ∧ (∀ b ∈ fp, H' b = Option.none) ∧ W i m H' := fun {s' H'} I' nx => by
        obtain ⟨m', hm, w'⟩ := hNx H' nx
        have pin' : ∀ b ∈ fp, ∀ o, s7.heap.get? b = some o → s'.heap.get? b = some o ∧ H' b = Option.none := fun b hb o e =>
          let z := I'.pin (b, o) (List.mem_append_right _ (List.mem_append_right _ (mem_pinsAt hb e)))
          ⟨z.1, z.2.1⟩
        refine ⟨m', hm, i + 1, H', (I'.unpinned (pins := [])).weak (by rw [← hw8, wipe_length]) (fun j v e => ?_), T.keep _ _ _ st7 fun b hb o e => (pin' b hb o e).1, fun b hb => ?_, w'⟩
        · rw [← hw8] at e
          exact (wipe_some e).1
        · obtain ⟨o, e, _⟩ := T.obj _ _ st7 b hb
          exact (pin' b hb o e).2
      rw [if_pos rfl]
      refine thnF (pk.run _ s8 σ8 H8 _ I8 q8) fun z s10 ⟨yk, H10, I10, r10, q10⟩ => ?_
      refine thnF (pv.run _ s10 σ8 H10 _ I10 q10) fun z2 s11 ⟨yv, H11, I11, r11, b, kvs, k, ek, hD11, hb11, hz11, nx⟩ => ?_
      subst ek
      cases r10
      exact dn_set (X := X.blk s3 H3 scope ce fp) hu I11 hD11 hb11 hz11 r11 fun s12 I12 => fin I12 nx
  exact codeAny_compStart_dict (loop _ I4 st4) (T.self X.A 0 _ _ _ st4 (loop _ I4 st4))
theorem pe_dcN {kx vx tg iter : Expr} {scope : Scope} {own : List (Str × Nat)} {pos : Pos} {wi : TI} {g : TG} {tk tv : TE} (hu : X.A.units + 64 < cLine) (hc : X.calm = true) (hN : X.N.Nodup) (hi : PI X tg iter wi) (ok : BlkOk X.N X.env.scope scope own)
    (hg : ∀ (s : Shared) (H : Hp) (C : Addr) (cl : List (Str × Addr)) (fp : List Addr), PG (X.blk s H scope (compEnvC scope cl C X.env) fp) tg g)
    (hk : ∀ (s : Shared) (H : Hp) (C : Addr) (cl : List (Str × Addr)) (fp : List Addr), PE (X.blk s H scope (compEnvC scope cl C X.env) fp) kx tk)
    (hv : ∀ (s : Shared) (H : Hp) (C : Addr) (cl : List (Str × Addr)) (fp : List Addr), PE (X.blk s H scope (compEnvC scope cl C X.env) fp) vx tv) (hs : ∀ x, foldedSetIterable iter X.env x = pure x := by intro _; rfl) :
    PE X (.DictComp kx vx [⟨tg, iter, [], 0⟩] scope pos) (tDcN X.w wi g tk tv (own.map (·.2))) := by
  constructor
  intro pins s σ H Q I h
  rw [arm_eval_DictComp]
  refine dcN_core (use := Option.none) hu hc hN hi ok hg hk hv hs I h fun D ce s' m H' I' q hn f => ⟨m, hn, fun h'' sb => ?_⟩
  obtain ⟨f0, f1, f2, f3, f4, f5⟩ := f
  exact ⟨.ref D, H', I'.turned (t' := s'.toks) (fun b o hb e => (sb.2 b hb).trans e) f0 f1 f3 f4 f5, rfl, q⟩
theorem ps_setDcN {i : Nat} {y : Str} {py spos : Pos} {kx vx tg iter : Expr} {scope : Scope} {own : List (Str × Nat)} {pos : Pos} {wi : TI} {g : TG} {tk tv : TE} (hu : X.A.units + 64 < cLine) (hc : X.calm = true) (hN : X.N.Nodup) (hi : PI X tg iter wi) (ok : BlkOk X.N X.env.scope scope own)
    (hg : ∀ (s : Shared) (H : Hp) (C : Addr) (cl : List (Str × Addr)) (fp : List Addr), PG (X.blk s H scope (compEnvC scope cl C X.env) fp) tg g)
    (hk : ∀ (s : Shared) (H : Hp) (C : Addr) (cl : List (Str × Addr)) (fp : List Addr), PE (X.blk s H scope (compEnvC scope cl C X.env) fp) kx tk)
    (hv : ∀ (s : Shared) (H : Hp) (C : Addr) (cl : List (Str × Addr)) (fp : List Addr), PE (X.blk s H scope (compEnvC scope cl C X.env) fp) vx tv) (hs : ∀ x, foldedSetIterable iter X.env x = pure x := by intro _; rfl) (hy : X.N[i]? = some y) (hyl : X.env.scope.names.lookup y = some .local) (hsw : swapsWith (.DictComp kx vx [⟨tg, iter, [], 0⟩] scope pos) (some (.Name y py)) spos.line X.env = pure true) :
    PS X (.Assign [.Name y py] (.DictComp kx vx [⟨tg, iter, [], 0⟩] scope pos) spos) (tAsg (tDcN X.w wi g tk tv (own.map (·.2))) (gName i)) := by
  constructor
  intro pins s σ H D I h
  rw [exec_Assign_Name_used _ _ _ _ hsw]
  refine wpAny_bind (wpAny_standAt (wpAny_bind ?_))
  show wpAny _ X.A (do let _ ← comprehension (.DictComp kx vx [⟨tg, iter, [], 0⟩] scope pos) scope X.env (firstIterPos [⟨tg, iter, [], 0⟩] pos) newDict false (eval iter X.env) (some (assign (.Name y py) X.env))) _ _ s
  have h : tDcN X.w wi g tk tv (own.map (·.2)) σ H (fun x H1 => gName i x σ H1 D.nx) := h
  refine wpAny_bind (thn (dcN_core (Qf := fun _ s' => SP X pins D .next s') hu hc hN hi ok hg hk hv hs I h fun L C s' m H' I' q hn f => ?_) fun _ s' hq => wpAny_pure (wpAny_pure hq))
  show wpAny _ _ (assign (.Name y py) X.env (.ref L)) _ _ _
  refine wpAny_assign_Name (store_ok2 (v := V.ref L) I' hN hy (.inl hyl) rfl (fun s2 I2 ⟨a, sb, ha⟩ => ?_) (.inr hyl))
  obtain ⟨f0, f1, f2, f3, f4, f5⟩ := f
  have apart : C.locals ≠ a := ha.elim (fun z => by rw [z]; exact f1) (fun z e => f4 y a z e.symm)
  exact ⟨m, hn.sameBut sb apart, fun h3 sb3 => ⟨_, H', I2.turned (t' := s2.toks) (fun b o hb e => (sb3.2 b hb).trans e) f0 f1 f3 f4 f5, q⟩⟩
theorem sw_trueD {kx vx : Expr} {gs : List Comprehension} {scope : Scope} {pos py : Pos} {y : Str} {l : Nat} {env : Env} (hk : env.scope.kind = .function) (hy : env.scope.names.lookup y = some .local) (hl : (py.line == pos.line) = true)
    (ha : (scope.names.any fun (n, k) => n == y && (k == .local || k == .cell)) = false) : swapsWith (.DictComp kx vx gs scope pos) (some (.Name y py)) l env = pure true := by
  have k1 : env.blockKind = .function := by unfold Env.blockKind; rw [hk]; rfl
  have k2 : env.kindOf y = some .local := hy
  unfold swapsWith
  simp only [k1, k2, ha, Expr.pos, hl]
  rfl
end
theorem dcN_it {wo : World} {J : It} {n : Nat} {G : Hp → Prop} {Y : Nat → Hp → V → Hp → Prop} (w : Walk J n G Y) {g : TG} {tk tv : TE} {vs : List Nat} {σ : L2.St} {H1 : Hp} {D : Addr} {Qd : Hp → Prop} (Pv : Nat → Hp → Prop) (h0 : Pv 0 (upd H1 D (rawN wo D []))) (hG : ∀ i H, i ≤ n → Pv i H → G H)
    (hs : ∀ i x H H', i < n → Pv i H → Y i H x H' → g x (wipe σ vs) H' fun σ2 H2 => wipe σ2 vs = wipe σ vs ∧ tk σ2 H2 fun y H4 => tv σ2 H4 fun z H5 => ∃ b kvs k, y = .ref b ∧ DN wo H5 D kvs ∧ NKey H5 b k ∧ kvs.length < sizeLine ∧ Pv (i + 1) (upd H5 D (rawN wo D (putN kvs k b z)))) (hd : ∀ H, Pv n H → Qd H) :
    ∃ W : Nat → Nat → Hp → Prop, (∃ m, W 0 m (upd H1 D (rawN wo D []))) ∧ ∀ i m H, W i m H →
      (J.stop i H ∧ Qd H) ∨ (J.go i H ∧ ∃ Nx : Hp → Prop, (∀ H', Nx H' → ∃ m', m' < m ∧ W (i + 1) m' H') ∧ ∀ x H', J.yld i H x H' → g x (wipe σ vs) H' fun σ2 H2 => wipe σ2 vs = wipe σ vs ∧
        tk σ2 H2 fun y H4 => tv σ2 H4 fun z H5 => ∃ b kvs k, y = .ref b ∧ DN wo H5 D kvs ∧ NKey H5 b k ∧ kvs.length < sizeLine ∧ Nx (upd H5 D (rawN wo D (putN kvs k b z)))) := by
  refine ⟨fun i m H => m = n - i ∧ i ≤ n ∧ Pv i H, ⟨n, by simp, Nat.zero_le _, h0⟩, ?_⟩
  rintro i m H ⟨rfl, hi, p⟩
  have q := hG i H hi p
  by_cases hlt : i < n
  · exact .inr ⟨w.goes i H hlt q, Pv (i + 1), fun H' p' => ⟨n - (i + 1), by omega, rfl, hlt, p'⟩, fun x H' y => hs i x H H' hlt p (w.yields i H x H' hlt q y)⟩
  · have e : i = n := by omega
    subst e
    exact .inl ⟨w.stops H q, hd H p⟩
/-! ### t.index(x), t a tuple of data -/
section
variable {X : Cx}
def rIndexT (K : PySem.W.Frag) : V → List V → Hp → VK → Prop := fun t ys H Q => ∃ (c : Addr) (x : V) (e : PyData) (es : List PyData) (i : Nat) (g : PyData), t = V.ref c ∧ ys = [x] ∧ Dp K H (V.ref c) (.tuple es) ∧ Dp K H x e ∧
  SeqAt.shaped (.tuple es) = true ∧ SeqAt.shaped e = true ∧ es[i]? = some g ∧ PyData.eqv g e = true ∧ (∀ (k : Nat) (f : PyData), k < i → es[k]? = some f → PyData.eqv f e = false) ∧ Q (.int (i : Nat)) H
theorem mt_indexT (room : X.A.units + 65 < cLine) : MtR X "tuple.index" (rIndexT X.K) := by
  intro pins s σ H t ys vt uy Q I rt ry h
  obtain ⟨c, x, e, es, i, g, rfl, rfl, dt, dx, shE, she, ei, eg, no, q⟩ := h
  cases rt
  cases ry with
  | cons r1 r0 =>
    rename_i u0 ut
    cases r0
    obtain ⟨b1, rd1⟩ := Dp.reads I e x u0 dx r1
    have lay1 := SeqAt.canLay_of_shaped shE
    have room2 : X.A.units + 1 + min (PyData.depthAll es) e.depth < cLine := room_in_shaped she room
    cases dt with
    | tup hs ha =>
      obtain ⟨us, ru, ⟨⟨cls, dd, data, sls⟩, ho, hc, n, hdt⟩, hlen⟩ := I.tuple hs
      simp only at hc hdt
      subst hc hdt
      obtain ⟨a1, rd4⟩ := Dp.readsAll I es _ us ha ru
      have ln : us.length = es.length := SeqAt.ReadsAll.length es us a1 rd4
      have mp : us.map (SeqAt.readOf s.heap) = es := SeqAt.readsAll_map es us a1 lay1 rd4
      have il := (List.getElem?_eq_some_iff.mp ei).1
      have iu : i < us.toArray.size := by rw [List.size_toArray]; omega
      have rdAt : ∀ (k : Nat) (hk : k < us.toArray.size) (f : PyData), es[k]? = some f → SeqAt.readOf s.heap us.toArray[k] = f := by
        intro k hk f hf
        have hk2 : k < us.length := by rw [List.size_toArray] at hk; exact hk
        rw [← mp, List.getElem?_map, List.getElem?_eq_getElem hk2] at hf
        have e1 : SeqAt.readOf s.heap us[k] = f := Option.some.inj (show some (SeqAt.readOf s.heap us[k]) = some f from hf)
        rw [List.getElem_toArray]
        exact e1
      refine call_meets PySem.F.slot_tuple_index ⟨_, ho, rfl⟩ PySem.F.entry_tuple_index (PySem.F.args_tuple_index_2 _ _)
        (TI.tuple_indexAt c us.toArray n dd sls u0 (fun u => PyData.eqv (SeqAt.readOf s.heap u) e) i iu ?_ ?_) ⟨ho, SeqAt.items_eqAt (vs := us.toArray) (show ReadsAll s.heap us.toArray.toList es a1 from rd4) rd1 lay1 (SeqAt.canLay_of_shaped she) room2, ?_⟩
      · show PyData.eqv (SeqAt.readOf s.heap us.toArray[i]) e = true
        rw [rdAt i iu g ei]
        exact eg
      · intro k hk hki
        have kd : k < es.length := by omega
        show PyData.eqv (SeqAt.readOf s.heap us.toArray[k]) e = false
        rw [rdAt k hk _ (List.getElem?_eq_getElem kd)]
        exact no k _ hki (List.getElem?_eq_getElem kd)
      · exact ⟨.int (i : Nat), H, I.tok _, ⟨_, rfl⟩, q⟩
/-- tuple(xs) of a list: the new tuple's whole object is known -/
def rTupF (K : PySem.W.Frag) : List V → Hp → VK → Prop := fun vs H Q => ∃ l ys, vs = [.ref l] ∧ SqL K H l ys ∧ ∀ (t : Addr) (o : Obj), o.dict = none → H t = none → Q (.ref t) (upd H t (.frz o (.tup ys)))
theorem call_tupleF : CallR X (.type "tuple") (rTupF X.K) := by
  intro pins s σ H vs us Q I r h
  obtain ⟨l, ys, rfl, hl, q⟩ := h
  obtain ⟨u, rfl, ru⟩ := vals1 r
  cases ru
  obtain ⟨its, rv, pl, hz⟩ := I.list hl
  have len := rv.length
  refine call_tuple_list pl.isList (fun h1 old => ?_) (by simp only [List.size_toArray] <;> omega)
  have I1 : Inv X pins σ H { s with heap := h1 } := I.kept (t' := s.toks) old
  have new : ObjOk X.prog X.w (upd H h1.objs.size (.frz { cls := .type "tuple", data := .seq its.toArray } (.tup ys))) (h1.push { cls := .type "tuple", data := .seq its.toArray }) h1.objs.size (.frz { cls := .type "tuple", data := .seq its.toArray } (.tup ys)) :=
    ⟨Heap.get?_push_size _ rfl, hz, its, rv, IsTup.new _ _⟩
  exact ⟨.ref h1.objs.size, _, I1.laid (t' := s.toks) (fun b o e => Heap.get?_push_of_some _ e) (Nat.le_refl _) new, rfl, q _ _ rfl (I1.hok.fresh (Nat.le_refl _))⟩
def tBMT (K : PySem.W.Frag) (r : V → List V → Hp → VK → Prop) (to : TE) (t : TA) : TE := fun σ H Q => to σ H fun x H1 => (∃ p o ys, x = .ref p ∧ H1 p = some (.frz o (.tup ys)) ∧ o.dict = none) ∧ t σ H1 fun xs H2 => r x xs H2 Q
variable {o e : Expr} {es : List Expr} {to : TE} {t : TA} {name : Str} {apos cpos : Pos} {id : String} {r : V → List V → Hp → VK → Prop}
/-- t.m(..), t a tuple that is known -/
theorem pe_bmT (slot : Slot "tuple" name id) (ty : typeOf (.builtin id) = pure (.type "method_descriptor")) (hm : MtR X id r) (ho : PE X o to) (ha : PA X (e :: es) t)
    (h1 : attributeBase o name X.env (eval o X.env) = eval o X.env := by rfl)
    (h2 : ((backTo cpos (starEach (e :: es) X.env)).all (fun x => !x.1) && (backToKw cpos (keywordEach [] X.env)).all (fun x => x.1.isSome) && decide ((e :: es).length + ([] : List Keyword).length + (if ([] : List Keyword).isEmpty then 0 else 1) < 30)) = true := by rfl)
    (h3 : (apos.endLine == cpos.line) = true := by rfl) (h4 : starEach (e :: es) X.env = (false, eval e X.env) :: starEach es X.env := by rfl) (h5 : (backTo cpos (starEach es X.env)).any (·.1) = false := by rfl) :
    PE X (.Call (.Attribute o name apos) (e :: es) [] cpos) (tBMT X.K r to t) := by
  constructor
  intro pins s σ H Q I h
  refine wpAny_Call_method_late h1 h2 h3 rfl (thn (ho.run pins s σ H _ I h) ?_)
  rintro v s1 ⟨x, H1, I1, r1, ⟨p, ob, ys, rfl, hp, nd⟩, q1⟩
  cases r1
  obtain ⟨at_, _, its, _, oT, e1, e2, _⟩ := (show ObjOk X.prog X.w H1 s1.heap p (.frz ob (.tup ys)) from I1.hok p _ hp)
  refine ⟨"tuple", id, PySem.F.plainAttrs_tuple, slot, ty, ⟨oT, e1, e2⟩, fun b eb => ?_, ?_⟩
  · cases eb
    exact ⟨ob, at_, nd⟩
  · have args := ha.run cpos pins s1 σ H1 _ I1 q1
    rw [h4] at args ⊢
    refine Calls.callWith_builtin (by show (false || (backTo cpos (starEach es X.env)).any (·.1)) = false; rw [h5] <;> rfl) (Calls.evalArgs_plain (thn args ?_))
    rintro us s2 ⟨vs, H2, I2, r2, q2⟩
    exact hm pins s2 σ H2 (.ref p) vs _ us Q I2 rfl r2 q2
end
/-! ### min(t), t a tuple of ints -/
section
variable {X : Cx} {K : PySem.W.Frag}
def rMinT (K : PySem.W.Frag) : List V → Hp → VK → Prop := fun vs H Q => ∃ (a : Addr) (n : Int) (ns : List Int), vs = [V.ref a] ∧ SqT K H a ((n :: ns).map V.int) ∧ Q (.int (ns.foldl min n)) H
theorem depth_intsA : ∀ ns : List Int, PyData.depthAll (ns.map PyData.int) = 0
  | [] => rfl
  | n :: r => by
    show max 0 (PyData.depthAll (r.map PyData.int)) = 0
    rw [depth_intsA r]
    rfl
theorem cr_minT (hc : X.calm = true) (hu : X.A.units + 65 < cLine) : CallR X (.builtin "min") (rMinT X.K) := by
  intro pins s σ H vs us Q I r h
  obtain ⟨a, n, ns, rfl, hs, q⟩ := h
  obtain ⟨its, rv, ht, _⟩ := I.tuple hs
  obtain ⟨u, rfl, ru⟩ := vals1 r
  cases ru
  have da : DpAll X.K H ((n :: ns).map V.int) ((n :: ns).map PyData.int) := dp_ints (n :: ns)
  obtain ⟨as, rd⟩ := Dp.readsAll I _ _ its da rv
  refine PySem.W.min_tuple_data (I.ok.hd hc) ht (x := .int n) (xs := ns.map PyData.int) (by simpa using rd) ⟨fun x hx y hy => ?_, fun x hx => ?_⟩ ?_ fun i v h' tk bs _ rr old => ?_
  · have hx : x ∈ (n :: ns).map PyData.int := hx
    have hy : y ∈ (n :: ns).map PyData.int := hy
    obtain ⟨_, _, rfl⟩ := List.mem_map.mp hx
    obtain ⟨_, _, rfl⟩ := List.mem_map.mp hy
    rfl
  · have hx : x ∈ (n :: ns).map PyData.int := hx
    obtain ⟨_, _, rfl⟩ := List.mem_map.mp hx
    exact fun z => nomatch z
  · have := depth_intsA (n :: ns)
    rw [List.map_cons] at this
    rw [this]
    omega
  · rw [PySem.W.minD_ints] at rr
    cases rr
    exact ⟨.int _, H, I.kept old, ⟨_, rfl⟩, q⟩
theorem cr_minTK (h : X.K = K) (hc : X.calm = true) (hu : X.A.units + 65 < cLine) : CallR X (.builtin "min") (rMinT K) := h ▸ cr_minT hc hu
end
/-! ### the order of pages -/
theorem lxx_trans : ∀ {a b c : List Int}, HT.lexLt a b = true → HT.lexLt b c = true → HT.lexLt a c = true
  | [], [], _, h, _ => nomatch h
  | [], _ :: _, [], _, h => nomatch h
  | [], _ :: _, _ :: _, _, _ => rfl
  | _ :: _, [], _, h, _ => nomatch h
  | _ :: _, _ :: _, [], _, h => nomatch h
  | x :: xs, y :: ys, z :: zs, h, k => by
    rw [HT.lexLt_cons] at h k ⊢
    by_cases c1 : x = y
    · subst c1
      rw [if_pos rfl] at h
      by_cases c2 : x = z
      · subst c2
        rw [if_pos rfl] at k ⊢
        exact lxx_trans h k
      · rw [if_neg c2] at k ⊢
        exact k
    · rw [if_neg c1] at h
      have h1 := of_decide_eq_true h
      by_cases c2 : y = z
      · subst c2
        rw [if_neg c1]
        exact h
      · rw [if_neg c2] at k
        have h2 := of_decide_eq_true k
        rw [if_neg (by omega)]
        exact decide_eq_true (by omega)
theorem lxx_irr : ∀ L : List Int, HT.lexLt L L = false
  | [] => rfl
  | x :: r => by rw [HT.lexLt_cons, if_pos rfl, lxx_irr r]
theorem lxx_tri : ∀ L M : List Int, L = M ∨ HT.lexLt L M = true ∨ HT.lexLt M L = true
  | [], [] => .inl rfl
  | [], _ :: _ => .inr (.inl rfl)
  | _ :: _, [] => .inr (.inr rfl)
  | x :: r, y :: s => by
    rw [HT.lexLt_cons, HT.lexLt_cons]
    by_cases e : x = y
    · subst e
      rw [if_pos rfl, if_pos rfl]
      rcases lxx_tri r s with h | h | h
      · exact .inl (by rw [h])
      · exact .inr (.inl h)
      · exact .inr (.inr h)
    · rw [if_neg e, if_neg (fun z => e z.symm)]
      rcases Int.lt_or_gt_of_ne e with h | h
      · exact .inr (.inl (decide_eq_true h))
      · exact .inr (.inr (decide_eq_true h))
theorem ltP_def (p q : Pg) : ltP p q = if p.1 = q.1 then decide (p.2 < q.2) else HT.lexLt p.1 q.1 := by
  unfold ltP dP
  rw [PySem.W.dataLt_tuple]
  by_cases e : p.1 = q.1
  · rw [if_pos e, PySem.W.dataLt_all_yes (alike_L _ _) (by rw [eqv_L]; exact decide_eq_true e)]
    have := dlt_ints [p.2] [q.2]
    rw [show ([p.2] : List Int).map PyData.int = [.int p.2] from rfl, show ([q.2] : List Int).map PyData.int = [.int q.2] from rfl] at this
    rw [this, HT.lexLt_cons]
    by_cases c : p.2 = q.2
    · rw [if_pos c]
      exact (decide_eq_false (by omega)).symm
    · rw [if_neg c]
  · rw [if_neg e, PySem.W.dataLt_all_no (alike_L _ _) (by rw [eqv_L]; exact decide_eq_false e), dlt_L]
theorem ltP_irr (p : Pg) : ltP p p = false := by
  rw [ltP_def, if_pos rfl]
  exact decide_eq_false (by omega)
theorem ltP_trans {p q r : Pg} (h : ltP p q = true) (k : ltP q r = true) : ltP p r = true := by
  rw [ltP_def] at h k ⊢
  by_cases c1 : p.1 = q.1
  · rw [if_pos c1] at h
    by_cases c2 : q.1 = r.1
    · rw [if_pos c2] at k
      rw [if_pos (c1.trans c2)]
      have := of_decide_eq_true h
      have := of_decide_eq_true k
      exact decide_eq_true (by omega)
    · rw [if_neg c2] at k
      rw [if_neg (fun z => c2 (c1.symm.trans z)), c1]
      exact k
  · rw [if_neg c1] at h
    by_cases c2 : q.1 = r.1
    · rw [if_neg (fun z => c1 (z.trans c2.symm)), ← c2]
      exact h
    · rw [if_neg c2] at k
      have h3 := lxx_trans h k
      rw [if_neg (fun z => by rw [z, lxx_irr] at h3; cases h3)]
      exact h3
theorem ltP_tri (p q : Pg) : p = q ∨ ltP p q = true ∨ ltP q p = true := by
  rw [ltP_def, ltP_def]
  by_cases c1 : p.1 = q.1
  · rw [if_pos c1, if_pos c1.symm]
    by_cases c2 : p.2 = q.2
    · exact .inl (Prod.ext c1 c2)
    · rcases Int.lt_or_gt_of_ne c2 with h | h
      · exact .inr (.inl (decide_eq_true h))
      · exact .inr (.inr (decide_eq_true h))
  · rw [if_neg c1, if_neg (fun z => c1 z.symm)]
    rcases lxx_tri p.1 q.1 with h | h | h
    · exact absurd h c1
    · exact .inr (.inl h)
    · exact .inr (.inr h)
theorem ltP_asym {p q : Pg} (h : ltP p q = true) : ltP q p = false := by
  cases e : ltP q p with
  | false => rfl
  | true => rw [← ltP_irr p]; exact (ltP_trans h e).symm
abbrev Up (ps : List Pg) : Prop := ps.Pairwise fun p q => ltP p q = true
theorem up_snoc {ps : List Pg} {q p : Pg} (u : Up (ps ++ [q])) (h : ltP q p = true) : Up ((ps ++ [q]) ++ [p]) := by
  rw [Up, List.pairwise_append]
  refine ⟨u, List.pairwise_singleton _ _, fun a ha b hb => ?_⟩
  rw [List.mem_singleton.mp hb]
  rcases List.mem_append.mp ha with e | e
  · exact ltP_trans ((List.pairwise_append.mp u).2.2 a e q (List.mem_singleton.mpr rfl)) h
  · rw [List.mem_singleton.mp e]; exact h
theorem up_at {ps : List Pg} (u : Up ps) {i j : Nat} {p q : Pg} (hi : ps[i]? = some p) (hj : ps[j]? = some q) (h : i < j) : ltP p q = true := by
  obtain ⟨a1, b1⟩ := List.getElem?_eq_some_iff.mp hi
  obtain ⟨a2, b2⟩ := List.getElem?_eq_some_iff.mp hj
  have := List.pairwise_iff_getElem.mp u i j a1 a2 h
  rw [b1, b2] at this
  exact this
theorem up_lt {ps : List Pg} (u : Up ps) {i j : Nat} {p q : Pg} (hi : ps[i]? = some p) (hj : ps[j]? = some q) (h : ltP p q = true) : i < j := by
  rcases Nat.lt_trichotomy i j with c | c | c
  · exact c
  · subst c
    rw [hi] at hj
    cases hj
    rw [ltP_irr] at h
    cases h
  · have := up_at u hj hi c
    rw [ltP_asym h] at this
    cases this
/-- a row is rising when each stands before its next one -/
theorem up_of {ps : List Pg} (h : ∀ (i : Nat) (p q : Pg), ps[i]? = some p → ps[i + 1]? = some q → ltP p q = true) : Up ps := by
  induction ps with
  | nil => exact .nil
  | cons p r ih =>
    have u : Up r := ih fun i a b ha hb => h (i + 1) a b ha hb
    refine List.pairwise_cons.mpr ⟨fun q hq => ?_, u⟩
    cases r with
    | nil => cases hq
    | cons s t =>
      have h1 := h 0 p s rfl rfl
      rcases List.mem_cons.mp hq with rfl | hq
      · exact h1
      · exact ltP_trans h1 ((List.pairwise_cons.mp u).1 q hq)
/-! ### the told pairs -/
def Gap (S ps : List Pg) (x y : Pg) : Prop := ∃ s ∈ S, s ∉ ps ∧ ltP x s = true ∧ ltP s y = true
structure PInv (S ps qs : List Pg) (rs : List (Pg × Pg)) : Prop where
  none : qs = [] → rs = []
  last : ∀ Q q, qs = Q ++ [q] → ∃ R a, rs = R ++ [(a, q)]
  mem : ∀ r ∈ rs, r.1 ∈ qs ∧ r.2 ∈ qs ∧ ltP r.2 r.1 = false
  cov : ∀ s ∈ S, (∃ r ∈ rs, inR s r = true) ↔ s ∈ qs
  gap : rs.Pairwise fun r t => Gap S ps r.2 t.1
theorem pinv_nil (S ps : List Pg) : PInv S ps [] [] := ⟨fun _ => rfl, fun Q q e => (by cases Q <;> cases e), (fun _ h => by cases h), (fun s _ => ⟨fun ⟨_, h, _⟩ => (by cases h), fun h => (by cases h)⟩), .nil⟩
theorem inR_iff {s : Pg} {r : Pg × Pg} : inR s r = true ↔ ltP s r.1 = false ∧ ltP r.2 s = false := by
  unfold inR leP
  rw [Bool.and_eq_true, Bool.not_eq_true', Bool.not_eq_true']
/-- a page is taken into the last pair -/
theorem pinv_ext {S ps Q : List Pg} {R : List (Pg × Pg)} {a q p : Pg} (uS : Up S) (uq : Up (Q ++ [q])) (h : PInv S ps (Q ++ [q]) (R ++ [(a, q)])) {i : Nat} (hq : S[i]? = some q) (hp : S[i + 1]? = some p) : PInv S ps ((Q ++ [q]) ++ [p]) (R ++ [(a, p)]) := by
  have qp := up_at uS hq hp (Nat.lt_succ_self i)
  have ma := h.mem (a, q) (by simp)
  have aq : ltP q a = false := ma.2.2
  refine ⟨fun e => by simp at e, fun Q' q' e => ?_, fun r hr => ?_, fun s hs => ?_, ?_⟩
  · have := List.append_inj_right' e rfl
    cases this
    exact ⟨R, a, rfl⟩
  · rcases List.mem_append.mp hr with e | e
    · have := h.mem r (List.mem_append_left _ e)
      exact ⟨List.mem_append_left _ this.1, List.mem_append_left _ this.2.1, this.2.2⟩
    · rw [List.mem_singleton.mp e]
      refine ⟨List.mem_append_left _ ma.1, by simp, ?_⟩
      show ltP p a = false
      cases c : ltP p a with
      | false => rfl
      | true => rw [ltP_trans qp c] at aq; cases aq
  · have hc := h.cov s hs
    constructor
    · rintro ⟨r, hr, e⟩
      rcases List.mem_append.mp hr with m | m
      · exact List.mem_append_left _ (hc.mp ⟨r, List.mem_append_left _ m, e⟩)
      · rw [List.mem_singleton.mp m] at e
        obtain ⟨e1, e2⟩ := inR_iff.mp e
        rcases ltP_tri s p with c | c | c
        · rw [c]; simp
        · -- s before p: at or before q
          obtain ⟨j, hj⟩ := List.mem_iff_getElem?.mp hs
          have j1 := up_lt uS hj hp c
          refine List.mem_append_left _ (hc.mp ⟨(a, q), by simp, inR_iff.mpr ⟨e1, ?_⟩⟩)
          show ltP q s = false
          cases c2 : ltP q s with
          | false => rfl
          | true => exact absurd (up_lt uS hq hj c2) (by omega)
        · rw [show ltP (a, p).2 s = ltP p s from rfl, c] at e2
          cases e2
    · intro m
      rcases List.mem_append.mp m with m | m
      · obtain ⟨r, hr, e⟩ := hc.mpr m
        rcases List.mem_append.mp hr with k | k
        · exact ⟨r, List.mem_append_left _ k, e⟩
        · rw [List.mem_singleton.mp k] at e
          obtain ⟨e1, e2⟩ := inR_iff.mp e
          refine ⟨(a, p), by simp, inR_iff.mpr ⟨e1, ?_⟩⟩
          show ltP p s = false
          cases c : ltP p s with
          | false => rfl
          | true => rw [show ltP (a, q).2 s = ltP q s from rfl, ltP_trans qp c] at e2; cases e2
      · rw [List.mem_singleton.mp m]
        refine ⟨(a, p), by simp, inR_iff.mpr ⟨?_, ltP_irr p⟩⟩
        show ltP p a = false
        cases c : ltP p a with
        | false => rfl
        | true => rw [ltP_trans qp c] at aq; cases aq
  · have g := h.gap
    rw [List.pairwise_append] at g ⊢
    refine ⟨g.1, List.pairwise_singleton _ _, fun r hr t ht => ?_⟩
    have := g.2.2 r hr (a, q) (List.mem_singleton.mpr rfl)
    rw [List.mem_singleton.mp ht]
    exact this
/-- a new pair -/
theorem pinv_new {S ps qs : List Pg} {rs : List (Pg × Pg)} {p : Pg} (uS : Up S) (h : PInv S ps qs rs) (hp : p ∈ S) (hg : ∀ q ∈ qs, Gap S ps q p) : PInv S ps (qs ++ [p]) (rs ++ [(p, p)]) := by
  refine ⟨fun e => by simp at e, fun Q' q' e => ?_, fun r hr => ?_, fun s hs => ?_, ?_⟩
  · have := List.append_inj_right' e rfl
    cases this
    exact ⟨rs, p, rfl⟩
  · rcases List.mem_append.mp hr with e | e
    · have := h.mem r e
      exact ⟨List.mem_append_left _ this.1, List.mem_append_left _ this.2.1, this.2.2⟩
    · rw [List.mem_singleton.mp e]
      exact ⟨by simp, by simp, ltP_irr p⟩
  · have hc := h.cov s hs
    constructor
    · rintro ⟨r, hr, e⟩
      rcases List.mem_append.mp hr with m | m
      · exact List.mem_append_left _ (hc.mp ⟨r, m, e⟩)
      · rw [List.mem_singleton.mp m] at e
        obtain ⟨e1, e2⟩ := inR_iff.mp e
        rcases ltP_tri s p with c | c | c
        · rw [c]; simp
        · rw [show ltP s (p, p).1 = ltP s p from rfl, c] at e1; cases e1
        · rw [show ltP (p, p).2 s = ltP p s from rfl, c] at e2; cases e2
    · intro m
      rcases List.mem_append.mp m with m | m
      · obtain ⟨r, hr, e⟩ := hc.mpr m
        exact ⟨r, List.mem_append_left _ hr, e⟩
      · rw [List.mem_singleton.mp m]
        exact ⟨(p, p), by simp, inR_iff.mpr ⟨ltP_irr p, ltP_irr p⟩⟩
  · rw [List.pairwise_append]
    refine ⟨h.gap, List.pairwise_singleton _ _, fun r hr t ht => ?_⟩
    rw [List.mem_singleton.mp ht]
    exact hg r.2 (h.mem r hr).2.1
/-- between two that follow each other in the row, but not in the book, stands one that is not in the row -/
theorem gap_of {S ps Q : List Pg} {q p : Pg} {rest : List Pg} (uS : Up S) (up : Up ps) (e : ps = (Q ++ [q]) ++ p :: rest) {a b : Nat} (hq : S[a]? = some q) (hp : S[b]? = some p) (n : a + 1 ≠ b) : ∀ x ∈ Q ++ [q], Gap S ps x p := by
  have iq : ps[Q.length]? = some q := by rw [e, List.append_assoc, List.getElem?_append_right (Nat.le_refl _), Nat.sub_self]; rfl
  have ip : ps[Q.length + 1]? = some p := by
    rw [e, List.append_assoc, List.getElem?_append_right (Nat.le_succ _), show Q.length.succ - Q.length = 1 by omega]
    rfl
  have qp := up_at up iq ip (Nat.lt_succ_self _)
  have ab := up_lt uS hq hp qp
  obtain ⟨s, hs⟩ : ∃ s, S[a + 1]? = some s := ⟨_, List.getElem?_eq_getElem (by have := (List.getElem?_eq_some_iff.mp hp).1; omega)⟩
  have qs := up_at uS hq hs (Nat.lt_succ_self a)
  have sp := up_at uS hs hp (by omega)
  have ns : s ∉ ps := fun m => by
    obtain ⟨j, hj⟩ := List.mem_iff_getElem?.mp m
    have j1 := up_lt up iq hj qs
    have j2 := up_lt up hj ip sp
    omega
  intro x hx
  refine ⟨s, List.mem_of_getElem? hs, ns, ?_, sp⟩
  rcases List.mem_append.mp hx with m | m
  · obtain ⟨j, hj⟩ := List.mem_iff_getElem?.mp m
    have jl := (List.getElem?_eq_some_iff.mp hj).1
    have : ps[j]? = some x := by rw [e, List.append_assoc, List.getElem?_append_left jl]; exact hj
    exact ltP_trans (up_at up this iq jl) qs
  · rw [List.mem_singleton.mp m]; exact qs
/-- what the pairs tell is just the row -/
theorem pinv_told {S ps : List Pg} {rs : List (Pg × Pg)} (uS : Up S) (up : Up ps) (sub : ∀ p ∈ ps, p ∈ S) (h : PInv S ps ps rs) : (S.filter fun p => rs.any (inR p)) = ps := by
  have e : (S.filter fun p => rs.any (inR p)) = S.filter fun p => decide (p ∈ ps) := by
    refine List.filter_congr fun p hp => ?_
    rw [Bool.eq_iff_iff, List.any_eq_true, decide_eq_true_iff]
    exact h.cov p hp
  rw [e]
  have key : ∀ (A B : List Pg), Up A → Up B → (∀ x, x ∈ A ↔ x ∈ B) → A = B := by
    intro A
    induction A with
    | nil =>
      intro B _ _ hm
      cases B with
      | nil => rfl
      | cons b t => exact absurd ((hm b).mpr (List.mem_cons_self ..)) (by simp)
    | cons a r ih =>
      intro B uA uB hm
      cases B with
      | nil => exact absurd ((hm a).mp (List.mem_cons_self ..)) (by simp)
      | cons b t =>
        obtain ⟨a1, a2⟩ := List.pairwise_cons.mp uA
        obtain ⟨b1, b2⟩ := List.pairwise_cons.mp uB
        have ab : a = b := by
          rcases List.mem_cons.mp ((hm a).mp (List.mem_cons_self ..)) with h | h
          · exact h
          · rcases List.mem_cons.mp ((hm b).mpr (List.mem_cons_self ..)) with k | k
            · exact k.symm
            · have x1 := b1 a h
              have x2 := a1 b k
              rw [ltP_asym x1] at x2
              cases x2
        subst ab
        congr 1
        refine ih t a2 b2 fun x => ?_
        constructor
        · intro hx
          rcases List.mem_cons.mp ((hm x).mp (List.mem_cons_of_mem _ hx)) with k | k
          · have := a1 x hx
            rw [k, ltP_irr] at this
            cases this
          · exact k
        · intro hx
          rcases List.mem_cons.mp ((hm x).mpr (List.mem_cons_of_mem _ hx)) with k | k
          · have := b1 x hx
            rw [k, ltP_irr] at this
            cases this
          · exact k
  refine key _ _ (uS.sublist (List.filter_sublist ..)) up fun x => ?_
  rw [List.mem_filter, decide_eq_true_iff]
  exact ⟨fun h => h.2, fun h => ⟨sub x h, h⟩⟩
/-! ### masks -/
def MaskOk (S ps : List Pg) (m : Nat) : Prop := m < 2 ^ ps.length ∧ ∀ (i j : Nat) (p q : Pg), ps[i]? = some p → ps[j]? = some q → m.testBit i = true → m.testBit j = true → ¬ Gap S ps p q
/-- the mask of the pages from low on, as far as they were looked at -/
structure MInv (K S ps : List Pg) (low high m : Nat) : Prop where
  lt : m < 2 ^ ps.length
  bits : ∀ (i : Nat) (p : Pg), ps[i]? = some p → m.testBit i = true → ∃ h, low ≤ h ∧ h < high ∧ K[h]? = some p
  free : ∀ (h : Nat) (s : Pg), low ≤ h → h < high → K[h]? = some s → s ∈ S → s ∈ ps
theorem minv_zero (K S ps : List Pg) (low : Nat) : MInv K S ps low low 0 := ⟨Nat.two_pow_pos _, fun i p _ h => (by rw [Nat.zero_testBit] at h; cases h), fun h s h1 h2 => absurd h1 (by omega)⟩
theorem minv_ok {K S ps : List Pg} (uK : Up K) (SK : ∀ s ∈ S, s ∈ K) {low high m : Nat} (h : MInv K S ps low high m) : MaskOk S ps m := by
  refine ⟨h.lt, ?_⟩
  rintro i j p q hp hq bi bj ⟨s, hs, ns, ps', sq⟩
  obtain ⟨a, a1, a2, a3⟩ := h.bits i p hp bi
  obtain ⟨b, b1, b2, b3⟩ := h.bits j q hq bj
  obtain ⟨c, hc⟩ := List.mem_iff_getElem?.mp (SK s hs)
  have c1 := up_lt uK a3 hc ps'
  have c2 := up_lt uK hc b3 sq
  exact ns (h.free c s (by omega) (by omega) hc hs)
theorem minv_in {K S ps : List Pg} {low high m j : Nat} {p : Pg} (h : MInv K S ps low high m) (lh : low ≤ high) (hK : K[high]? = some p) (hj : ps[j]? = some p) (up : Up ps) : MInv K S ps low (high + 1) (m ||| 2 ^ j) := by
  have jl := (List.getElem?_eq_some_iff.mp hj).1
  refine ⟨Nat.or_lt_two_pow h.lt (Nat.pow_lt_pow_right (by decide) jl), fun i q hq b => ?_, fun c s c1 c2 hc hs => ?_⟩
  · rw [Nat.testBit_or, Bool.or_eq_true, Nat.testBit_two_pow, decide_eq_true_iff] at b
    rcases b with b | b
    · obtain ⟨c, c1, c2, c3⟩ := h.bits i q hq b
      exact ⟨c, c1, by omega, c3⟩
    · subst b
      rw [hj] at hq
      cases hq
      exact ⟨high, lh, Nat.lt_succ_self _, hK⟩
  · by_cases e : c = high
    · subst e
      rw [hK] at hc
      cases hc
      exact List.mem_of_getElem? hj
    · exact h.free c s c1 (by omega) hc hs
theorem minv_out {K S ps : List Pg} {low high m : Nat} {p : Pg} (h : MInv K S ps low high m) (hK : K[high]? = some p) (np : p ∉ S) : MInv K S ps low (high + 1) m := by
  refine ⟨h.lt, fun i q hq b => ?_, fun c s c1 c2 hc hs => ?_⟩
  · obtain ⟨c, c1, c2, c3⟩ := h.bits i q hq b
    exact ⟨c, c1, by omega, c3⟩
  · by_cases e : c = high
    · subst e
      rw [hK] at hc
      cases hc
      exact absurd hs np
    · exact h.free c s c1 (by omega) hc hs
/-! ### fewer rows of pages tell less -/
def cntB (bs : List Nat) (m : Nat) : Nat := (bs.filter fun i => m.testBit i).length
theorem cnt_or (a b : Nat) : ∀ bs : List Nat, cntB bs (a ||| b) ≤ cntB bs a + cntB bs b
  | [] => Nat.zero_le _
  | i :: r => by
    have ih := cnt_or a b r
    unfold cntB at ih ⊢
    have e : (a ||| b).testBit i = (a.testBit i || b.testBit i) := Nat.testBit_or ..
    rw [List.filter_cons, List.filter_cons, List.filter_cons, e]
    cases a.testBit i <;> cases b.testBit i <;> simp only [Bool.or_true, Bool.true_or, Bool.or_false, Bool.false_or, if_true, if_false, Bool.false_eq_true, List.length_cons] <;> omega
theorem cnt_zero : ∀ bs : List Nat, cntB bs 0 = 0
  | [] => rfl
  | i :: r => by
    have ih := cnt_zero r
    unfold cntB at ih ⊢
    rw [List.filter_cons, Nat.zero_testBit, if_neg (by decide)]
    exact ih
theorem cnt_one {m : Nat} : ∀ {bs : List Nat}, bs.Pairwise (fun i j => ¬ (m.testBit i = true ∧ m.testBit j = true)) → cntB bs m ≤ 1
  | [], _ => Nat.zero_le _
  | i :: r, h => by
    obtain ⟨h1, h2⟩ := List.pairwise_cons.mp h
    have ih := cnt_one h2
    unfold cntB at ih ⊢
    rw [List.filter_cons]
    by_cases c : m.testBit i = true
    · rw [if_pos c]
      have : (r.filter fun i => m.testBit i) = [] := List.filter_eq_nil_iff.mpr fun j hj e => h1 j hj ⟨c, e⟩
      rw [this]
      exact Nat.le_refl _
    · rw [if_neg c]
      exact ih
theorem cnt_all {n : Nat} : ∀ {bs : List Nat}, (∀ i ∈ bs, i < n) → cntB bs (2 ^ n - 1) = bs.length
  | [], _ => rfl
  | i :: r, h => by
    have ih := cnt_all fun j hj => h j (List.mem_cons_of_mem _ hj)
    unfold cntB at ih ⊢
    rw [List.filter_cons, Nat.testBit_two_pow_sub_one, if_pos (decide_eq_true (h i (List.mem_cons_self ..)))]
    show _ + 1 = _
    rw [ih]
    rfl
/-- the places of the pairs' first pages -/
def begs (ps : List Pg) (rs : List (Pg × Pg)) : List Nat := rs.map fun r => ps.idxOf r.1
theorem beg_at {ps : List Pg} {p : Pg} (h : p ∈ ps) : ps[ps.idxOf p]? = some p := by
  have hl := List.idxOf_lt_length_of_mem h
  rw [List.getElem?_eq_getElem hl, List.getElem_idxOf hl]
theorem begs_lt {S ps : List Pg} {rs : List (Pg × Pg)} (h : PInv S ps ps rs) : ∀ i ∈ begs ps rs, i < ps.length := fun i hi => by
  obtain ⟨r, hr, rfl⟩ := List.mem_map.mp hi
  exact List.idxOf_lt_length_of_mem (h.mem r hr).1
theorem begs_one {S ps : List Pg} {rs : List (Pg × Pg)} (h : PInv S ps ps rs) {m : Nat} (ok : MaskOk S ps m) : cntB (begs ps rs) m ≤ 1 := by
  refine cnt_one ?_
  unfold begs
  rw [List.pairwise_map]
  refine List.Pairwise.imp_of_mem ?_ h.gap
  rintro r t hr ht ⟨s, hs, ns, g1, g2⟩ ⟨b1, b2⟩
  obtain ⟨m1, m2, m3⟩ := h.mem r hr
  refine ok.2 _ _ _ _ (beg_at m1) (beg_at (h.mem t ht).1) b1 b2 ⟨s, hs, ns, ?_, g2⟩
  rcases ltP_tri r.1 r.2 with c | c | c
  · rw [c]; exact g1
  · exact ltP_trans c g1
  · rw [c] at m3; cases m3
theorem goal_not {S ps : List Pg} {rs : List (Pg × Pg)} (h : PInv S ps ps rs) {u t : Nat} (hu : cntB (begs ps rs) u ≤ t) (ht : t < rs.length) : u ≠ 2 ^ ps.length - 1 := fun e => by
  rw [e, cnt_all (begs_lt h)] at hu
  unfold begs at hu
  rw [List.length_map] at hu
  omega
/-! ### pages as keys, rows of pages -/
theorem nk_ints : ∀ L : List Int, nkDs (L.map PyData.int) = L.map PySem.NestedKey.num
  | [] => rfl
  | i :: r => by
    show PySem.NestedKey.num i :: nkDs (r.map PyData.int) = _
    rw [nk_ints r]
    rfl
theorem nk_P (p : Pg) : nkD (dP p) = .tup [.tup (p.1.map PySem.NestedKey.num), .num p.2] := by
  show PySem.NestedKey.tup [.tup (nkDs (p.1.map PyData.int)), .num p.2] = _
  rw [nk_ints]
theorem nk_inj {p q : Pg} (h : nkD (dP p) = nkD (dP q)) : p = q := by
  rw [nk_P, nk_P] at h
  injection h with h
  injection h with h1 h2
  injection h1 with h1
  injection h2 with h2 _
  injection h2 with h2
  refine Prod.ext ?_ h2
  have : ∀ L M : List Int, L.map PySem.NestedKey.num = M.map PySem.NestedKey.num → L = M := by
    intro L
    induction L with
    | nil => intro M e; cases M with
      | nil => rfl
      | cons _ _ => cases e
    | cons x r ih =>
      intro M e
      cases M with
      | nil => cases e
      | cons y s =>
        injection e with e1 e2
        injection e1 with e1
        rw [e1, ih s e2]
  exact this _ _ h1
theorem nk_depth (p : Pg) : (nkD (dP p)).depth ≤ 8 := by
  rw [nk_P]
  have : ∀ L : List Int, PySem.NestedKey.depthAll (L.map PySem.NestedKey.num) = 0 := by
    intro L
    induction L with
    | nil => rfl
    | cons x r ih => show max 0 (PySem.NestedKey.depthAll (r.map PySem.NestedKey.num)) = 0; rw [ih]; rfl
  show max (PySem.NestedKey.depthAll (p.1.map PySem.NestedKey.num) + 1) (max 0 0) + 1 ≤ 8
  rw [this]
  decide
theorem noL_ints : ∀ L : List Int, noLs (L.map PyData.int) = true
  | [] => rfl
  | _ :: r => by
    show (true && noLs (r.map PyData.int)) = true
    rw [noL_ints r]
    rfl
theorem noL_P (p : Pg) : noL (dP p) = true := by
  show (noLs (p.1.map PyData.int) && (true && true)) = true
  rw [noL_ints]
  rfl
theorem side_sub (l : Lf) : (sideP l).Sublist [(l.L, 0), (l.L, 1)] := by
  unfold sideP
  by_cases h1 : l.fr = []
  · rw [if_pos h1]
    by_cases h2 : l.bk = []
    · rw [if_pos h2]; exact List.nil_sublist _
    · rw [if_neg h2]; exact List.Sublist.cons _ (List.Sublist.refl _)
  · rw [if_neg h1]
    by_cases h2 : l.bk = []
    · rw [if_pos h2]; exact List.Sublist.cons_cons _ (List.nil_sublist _)
    · rw [if_neg h2]; exact List.Sublist.refl _
theorem shown_sub : ∀ bk : List Lf, (shownP bk).Sublist (allP bk)
  | [] => List.Sublist.refl _
  | l :: r => (side_sub l).append (shown_sub r)
theorem all_lab {bk : List Lf} {p : Pg} (h : p ∈ allP bk) : ∃ l ∈ bk, p.1 = l.L := by
  obtain ⟨l, hl, e⟩ := List.mem_flatMap.mp h
  refine ⟨l, hl, ?_⟩
  rcases List.mem_cons.mp e with rfl | e
  · rfl
  · rw [List.mem_singleton.mp e]
theorem all_up : ∀ {bk : List Lf}, bk.Pairwise (fun a b => HT.lexLt a.L b.L = true) → Up (allP bk)
  | [], _ => .nil
  | l :: r, h => by
    obtain ⟨h1, h2⟩ := List.pairwise_cons.mp h
    show Up ([(l.L, 0), (l.L, 1)] ++ allP r)
    rw [Up, List.pairwise_append]
    refine ⟨?_, all_up h2, fun p hp q hq => ?_⟩
    · refine List.pairwise_cons.mpr ⟨fun q hq => ?_, List.pairwise_singleton _ _⟩
      rw [List.mem_singleton.mp hq, ltP_def, if_pos rfl]
      rfl
    · have ep : p.1 = l.L := by
        rcases List.mem_cons.mp hp with rfl | e
        · rfl
        · rw [List.mem_singleton.mp e]
      obtain ⟨m, hm, eq⟩ := all_lab hq
      have := h1 m hm
      rw [ltP_def, ep, eq, if_neg (fun z => by rw [z, lxx_irr] at this; cases this)]
      exact this
theorem shown_up {bk : List Lf} (ok : okBk bk) : Up (shownP bk) := (all_up ok.2.2).sublist (shown_sub bk)
/-! ### what is let in -/
def GoodPs (bk : List Lf) (d : PyData) (ps : List Pg) : Prop := ∃ ds, items d = some ds ∧ ds.map keptPD = ps.map some ∧ (∀ p ∈ ps, p ∈ shownP bk) ∧ Up ps
theorem kept_Ps {ps : List Pg} (ok : ∀ p ∈ ps, okP p) : (ps.map dP).map keptPD = ps.map some := by
  rw [List.map_map]
  exact List.map_congr_left fun p hp => kept_P (ok p hp)
theorem some_inj {ps qs : List Pg} (h : ps.map some = qs.map some) : ps = qs := by
  induction ps generalizing qs with
  | nil => cases qs with
    | nil => rfl
    | cons _ _ => cases h
  | cons p r ih => cases qs with
    | nil => cases h
    | cons q s =>
      injection h with h1 h2
      injection h1 with h1
      rw [h1, ih h2]
theorem good_ps {bk : List Lf} {ps : List Pg} (ok : okBk bk) (hs : ∀ p ∈ ps, p ∈ shownP bk) (up : Up ps) : GoodPs bk (dPs ps) ps := ⟨_, rfl, kept_Ps fun p hp => shown_okP ok p (hs p hp), hs, up⟩
theorem good_lps {bk : List Lf} {ps : List Pg} (ok : okBk bk) (hs : ∀ p ∈ ps, p ∈ shownP bk) (up : Up ps) : GoodPs bk (toL (dPs ps)) ps := by
  refine ⟨toLs (ps.map dP), rfl, ?_, hs, up⟩
  rw [toLs_map, List.map_map, List.map_map]
  exact List.map_congr_left fun p hp => kept_lP (shown_okP ok p (hs p hp))
theorem bad_none {bk : List Lf} {d e : PyData} {ds : List PyData} (hi : items d = some ds) (he : e ∈ ds) (hk : keptPD e = none) : ∀ ps, ¬ GoodPs bk d ps := by
  rintro ps ⟨es, hi2, hm, _⟩
  rw [hi] at hi2
  cases hi2
  have : none ∈ ps.map some := by rw [← hm, ← hk]; exact List.mem_map_of_mem he
  obtain ⟨_, _, z⟩ := List.mem_map.mp this
  cases z
theorem bad_items {bk : List Lf} {d : PyData} (hi : items d = none) : ∀ ps, ¬ GoodPs bk d ps := by
  rintro ps ⟨es, hi2, _⟩
  rw [hi] at hi2
  cases hi2
theorem bad_out {bk : List Lf} {qs : List Pg} (ok : ∀ p ∈ qs, okP p) {q : Pg} (hq : q ∈ qs) (no : q ∉ shownP bk) : ∀ ps, ¬ GoodPs bk (dPs qs) ps := by
  rintro ps ⟨es, hi2, hm, hs, _⟩
  cases hi2
  rw [kept_Ps ok] at hm
  have := some_inj hm
  subst this
  exact no (hs q hq)
theorem bad_up {bk : List Lf} {qs : List Pg} (ok : ∀ p ∈ qs, okP p) (no : ¬ Up qs) : ∀ ps, ¬ GoodPs bk (dPs qs) ps := by
  rintro ps ⟨es, hi2, hm, _, up⟩
  cases hi2
  rw [kept_Ps ok] at hm
  have := some_inj hm
  subst this
  exact no up
theorem zip_any {α β γ : Type} (g : α → Bool) {f : α × β → γ} : ∀ (ps : List α) (us : List β), ps.length = us.length → (!(((ps.zip us).filter fun z => g z.1).map f).isEmpty) = ps.any g
  | [], [], _ => rfl
  | [], _ :: _, h => nomatch h
  | _ :: _, [], h => nomatch h
  | p :: ps, u :: us, h => by
    have ih := zip_any g (f := f) ps us (Nat.succ.inj h)
    rw [List.zip_cons_cons, List.filter_cons, List.any_cons]
    cases c : g p with
    | true => rw [if_pos rfl]; rfl
    | false => rw [if_neg (by decide), Bool.false_or]; exact ih
theorem dRs_inv {K : PySem.W.Frag} {H : Hp} {v : V} {rs : List (Pg × Pg)} (h : Dp K H v (dRs rs)) : ∃ a us, v = .ref a ∧ SqT K H a us ∧ DpAll K H us (rs.map dR) := by
  cases h with
  | tup h r => exact ⟨_, _, rfl, h, r⟩
theorem dPs_inv {K : PySem.W.Frag} {H : Hp} {v : V} {ps : List Pg} (h : Dp K H v (dPs ps)) : ∃ a us, v = .ref a ∧ SqT K H a us ∧ DpAll K H us (ps.map dP) := by
  cases h with
  | tup h r => exact ⟨_, _, rfl, h, r⟩
theorem any_oP (o : Option Pg) (ps : List Pg) : ((ps.map dP).any fun z => PyData.eqv z (oD dP o)) = (match o with | some p => decide (p ∈ ps) | none => false) := by
  cases o with
  | some p => exact in_P p ps
  | none =>
    show ((ps.map dP).any fun z => PyData.eqv z .none) = false
    rw [List.any_eq_false]
    intro z hz
    obtain ⟨p, _, rfl⟩ := List.mem_map.mp hz
    exact Bool.false_ne_true
theorem shaped_oP (o : Option Pg) : SeqAt.shaped (oD dP o) = true := by
  cases o with
  | some p => exact shaped_P p
  | none => rfl
/-- all are pages of the book -/
def inS (S : List Pg) (d : PyData) : Bool := match keptPD d with
  | some p => decide (p ∈ S)
  | none => false
theorem all_inS {S : List Pg} : ∀ {ds : List PyData}, ds.all (inS S) = true → ∃ ps : List Pg, ds.map keptPD = ps.map some ∧ ∀ p ∈ ps, p ∈ S
  | [], _ => ⟨[], rfl, fun _ h => nomatch h⟩
  | d :: r, h => by
    rw [List.all_cons, Bool.and_eq_true] at h
    obtain ⟨ps, h1, h2⟩ := all_inS h.2
    have hd := h.1
    unfold inS at hd
    cases e : keptPD d with
    | none => rw [e] at hd; cases hd
    | some p =>
      rw [e] at hd
      refine ⟨p :: ps, by rw [List.map_cons, e, h1]; rfl, fun q hq => ?_⟩
      rcases List.mem_cons.mp hq with rfl | hq
      · exact of_decide_eq_true hd
      · exact h2 q hq
theorem inS_good {bk : List Lf} {d : PyData} {ds : List PyData} {ps : List Pg} (hi : items d = some ds) (g : GoodPs bk d ps) : ds.all (inS (shownP bk)) = true := by
  obtain ⟨es, hi2, hm, hs, _⟩ := g
  rw [hi] at hi2
  cases hi2
  rw [List.all_eq_true]
  intro e he
  have : keptPD e ∈ ps.map some := by rw [← hm]; exact List.mem_map_of_mem he
  obtain ⟨p, hp, ep⟩ := List.mem_map.mp this
  unfold inS
  rw [← ep]
  exact decide_eq_true (hs p hp)
theorem up_zip {ps : List Pg} : ((ps.zip (ps.drop 1)).all fun z => ltP z.1 z.2) = true ↔ Up ps := by
  rw [List.all_eq_true]
  constructor
  · intro h
    refine up_of fun i p q hp hq => ?_
    have : (p, q) ∈ ps.zip (ps.drop 1) := by
      refine List.mem_of_getElem? (i := i) ?_
      rw [List.getElem?_zip_eq_some, List.getElem?_drop, Nat.add_comm]
      exact ⟨hp, hq⟩
    exact h _ this
  · rintro u ⟨p, q⟩ hz
    obtain ⟨i, hi⟩ := List.mem_iff_getElem?.mp hz
    rw [List.getElem?_zip_eq_some, List.getElem?_drop, Nat.add_comm] at hi
    exact up_at u hi.1 hi.2 (Nat.lt_succ_self i)
theorem none_of {H H' : Hp} (s : Same H H') {p : Addr} (n : H' p = none) : H p = none := by
  cases e : H p with
  | none => rfl
  | some o => rw [s _ _ e] at n; cases n
theorem nl_Rs (rs : List (Pg × Pg)) : ∀ d ∈ rs.map dR, ∃ n, Nl n d := fun d hd => by
  obtain ⟨r, _, rfl⟩ := List.mem_map.mp hd
  exact nl_R r
theorem dpAll_snoc_inv {K : PySem.W.Frag} {H : Hp} : ∀ {ws : List V} {ds : List PyData} {d : PyData}, DpAll K H ws (ds ++ [d]) → ∃ W v, ws = W ++ [v] ∧ DpAll K H W ds ∧ Dp K H v d
  | _, [], d, h => by
    cases h with
    | cons h t => cases t; exact ⟨[], _, rfl, .nil, h⟩
  | _, e :: ds, d, h => by
    cases h with
    | cons h t =>
      obtain ⟨W, v, rfl, h1, h2⟩ := dpAll_snoc_inv t
      exact ⟨_ :: W, v, rfl, .cons h h1, h2⟩
theorem ixN_last {α : Type} (U : List α) (u : α) : ixN (U ++ [u]).length (-1) = some U.length := by
  unfold ixN
  rw [List.length_append, List.length_singleton, if_neg (by decide), if_pos (by omega)]
  congr 1
  omega
theorem set_last {α : Type} (U : List α) (u v : α) : (U ++ [u]).set U.length v = U ++ [v] := by
  rw [List.set_append_right _ _ (Nat.le_refl _), Nat.sub_self]
  rfl
theorem shaped_Pt (ps : List Pg) : SeqAt.shaped (.tuple (ps.map dP)) = true := shaped_pn (n := 3) (fun d hd => by obtain ⟨p, _, rfl⟩ := List.mem_map.mp hd; exact pn_P p) (by decide)
/-! ### what is reached -/
abbrev KVs := List (L2.Key × V)
def keyN (u : Nat) : L2.Key := .inl ((u : Nat) : Int)
structure KB (n : Nat) (bs : List Nat) (t : Nat) (kvs : KVs) : Prop where
  nd : (kvs.map (·.1)).Nodup
  ks : ∀ k ∈ kvs.map (·.1), ∃ u : Nat, k = keyN u ∧ u < 2 ^ n ∧ cntB bs u ≤ t
theorem kb_nil (n : Nat) (bs : List Nat) (t : Nat) : KB n bs t [] := ⟨List.nodup_nil, fun _ h => nomatch h⟩
theorem KB.up {n : Nat} {bs : List Nat} {t t' : Nat} {kvs : KVs} (h : KB n bs t kvs) (l : t ≤ t') : KB n bs t' kvs := ⟨h.nd, fun k hk => by
  obtain ⟨u, h1, h2, h3⟩ := h.ks k hk
  exact ⟨u, h1, h2, Nat.le_trans h3 l⟩⟩
theorem putK_keys (kvs : KVs) (k : L2.Key) (v : V) : (putK kvs k v).map (·.1) = if (valV kvs k).isSome = true then kvs.map (·.1) else kvs.map (·.1) ++ [k] := by
  unfold putK
  rw [valV_any]
  split
  · rw [List.map_map]
    refine List.map_congr_left fun p _ => ?_
    show (if p.1 = k then (p.1, v) else p).1 = p.1
    split <;> rfl
  · rw [List.map_append]; rfl
theorem no_key {kvs : KVs} {k : L2.Key} (h : k ∉ kvs.map (·.1)) : valV kvs k = none := by
  cases e : valV kvs k with
  | none => rfl
  | some v =>
    have an : (kvs.any fun kv => decide (kv.1 = k)) = true := by rw [valV_any, e]; rfl
    obtain ⟨p, hp, hk⟩ := List.any_eq_true.mp an
    exact absurd (List.mem_map.mpr ⟨p, hp, of_decide_eq_true hk⟩) h
theorem KB.put {n : Nat} {bs : List Nat} {t : Nat} {kvs : KVs} (h : KB n bs t kvs) {u : Nat} (hu : u < 2 ^ n) (hc : cntB bs u ≤ t) (v : V) : KB n bs t (putK kvs (keyN u) v) := by
  have e := putK_keys kvs (keyN u) v
  by_cases c : (valV kvs (keyN u)).isSome = true
  · rw [if_pos c] at e
    exact ⟨by rw [e]; exact h.nd, by rw [e]; exact h.ks⟩
  · rw [if_neg c] at e
    have nk : keyN u ∉ kvs.map (·.1) := fun m => by
      obtain ⟨p, hp, ep⟩ := List.mem_map.mp m
      have := valV_any (keyN u) kvs
      rw [List.any_eq_true.mpr ⟨p, hp, decide_eq_true ep⟩] at this
      exact c this.symm
    refine ⟨?_, ?_⟩
    · rw [e, List.nodup_append]
      exact ⟨h.nd, by simp, fun a ha b hb z => by rw [List.mem_singleton.mp hb] at z; exact nk (z ▸ ha)⟩
    · rw [e]
      intro k hk
      rcases List.mem_append.mp hk with m | m
      · exact h.ks k m
      · exact ⟨u, List.mem_singleton.mp m, hu, hc⟩
theorem KB.len {n : Nat} {bs : List Nat} {t : Nat} {kvs : KVs} (h : KB n bs t kvs) (hn : n ≤ 8) : kvs.length ≤ 256 := by
  have hall : ∀ k ∈ kvs.map (·.1), k ∈ (List.range (2 ^ n)).map keyN := fun k hk => by
    obtain ⟨u, h1, h2, _⟩ := h.ks k hk
    exact List.mem_map.mpr ⟨u, List.mem_range.mpr h2, h1.symm⟩
  have := nodup_sub h.nd hall
  rw [List.length_map, List.length_map, List.length_range] at this
  have : 2 ^ n ≤ 2 ^ 8 := Nat.pow_le_pow_right (by decide) hn
  omega
theorem dpAll_take {K : PySem.W.Frag} {H : Hp} : ∀ {vs : List V} {ds : List PyData} (n : Nat), DpAll K H vs ds → DpAll K H (vs.take n) (ds.take n)
  | _, _, 0, _ => .nil
  | _, _, _ + 1, .nil => .nil
  | _, _, n + 1, .cons h r => .cons h (dpAll_take n r)
theorem dpAll_drop {K : PySem.W.Frag} {H : Hp} : ∀ {vs : List V} {ds : List PyData} (n : Nat), DpAll K H vs ds → DpAll K H (vs.drop n) (ds.drop n)
  | _, _, 0, h => h
  | _, _, _ + 1, .nil => .nil
  | _, _, n + 1, .cons _ r => dpAll_drop n r
theorem up_mid {A B : List Pg} {x y : Pg} (u : Up ((A ++ [x, y]) ++ B)) : ltP x y = true := by
  have h1 := (List.pairwise_append.mp u).1
  have h2 := (List.pairwise_append.mp h1).2.1
  exact (List.pairwise_cons.mp h2).1 y (List.mem_singleton.mpr rfl)
theorem up_twice {A B : List Pg} {x : Pg} (u : Up ((A ++ [x]) ++ (x :: B))) : False := by
  have h := (List.pairwise_append.mp u).2.2 x (by simp) x (List.mem_cons_self ..)
  rw [ltP_irr] at h
  cases h
theorem kept_side {L : List Int} {b : Bool} : keptPD (.tuple [dL L, .bool b]) = none := rfl
theorem kept_tr {n : Int} {D : PyData} (h : keptD D = none) : keptPD (.tuple [D, .int n]) = none := by
  unfold keptPD
  show (if wI 0 1 (.int n) = true then (match keptD D with | some L => some (L, toI (.int n)) | none => none) else none) = none
  rw [h]
  split <;> rfl
/-! ### tuples of data cut and joined -/
theorem sl_to {K : PySem.W.Frag} {H : Hp} {x : V} {ds : List PyData} {n : Nat} {Q : VK} (hx : Dp K H x (.tuple ds)) (h : ∀ v H', Same H H' → Dp K H' v (.tuple (ds.take n)) → Q v H') : rSlA K x none (some (n : Int)) H Q := by
  cases hx with
  | tup ha da =>
    rename_i a xs
    have ln := dpAll_len da
    refine ⟨a, xs, rfl, ha, fun w => ?_, fun _ p np => ?_⟩
    · have e := cut_whole w
      rw [cutV_to] at e
      have : xs.length ≤ n := by
        have := congrArg List.length e
        rw [List.length_take] at this
        omega
      refine h _ H (Same.refl H) (.tup ha ?_)
      rw [List.take_of_length_le (by omega)]
      exact da
    · refine h _ _ (same_upd np) (.tup (.inl (.inl upd_same)) ?_)
      rw [cutV_to]
      exact dpAll_take n (dpAll_same (same_upd np) da)
theorem sl_from {K : PySem.W.Frag} {H : Hp} {x : V} {ds : List PyData} {n : Nat} {Q : VK} (hx : Dp K H x (.tuple ds)) (h : ∀ v H', Same H H' → Dp K H' v (.tuple (ds.drop n)) → Q v H') : rSlA K x (some (n : Int)) none H Q := by
  cases hx with
  | tup ha da =>
    rename_i a xs
    refine ⟨a, xs, rfl, ha, fun w => ?_, fun _ p np => ?_⟩
    · have e := cut_whole w
      rw [cutV_from] at e
      refine h _ H (Same.refl H) (.tup ha ?_)
      have ln := dpAll_len da
      by_cases hn : n = 0
      · rw [hn, List.drop_zero]; exact da
      · have l2 := congrArg List.length e
        rw [List.length_drop] at l2
        have x0 : xs = [] := List.length_eq_zero_iff.mp (by omega)
        have d0 : ds = [] := List.length_eq_zero_iff.mp (by rw [← ln, x0]; rfl)
        rw [d0, List.drop_nil]
        rw [d0] at da
        exact da
    · refine h _ _ (same_upd np) (.tup (.inl (.inl upd_same)) ?_)
      rw [cutV_from]
      exact dpAll_drop n (dpAll_same (same_upd np) da)
theorem cat_dp {K : PySem.W.Frag} {H : Hp} {x y : V} {ds es : List PyData} {Q : VK} (hx : Dp K H x (.tuple ds)) (hy : Dp K H y (.tuple es)) (l : ds.length + es.length ≤ 1000) (h : ∀ v H', Same H H' → Dp K H' v (.tuple (ds ++ es)) → Q v H') : rCatA K x y H Q := by
  cases hx with
  | tup ha da =>
    cases hy with
    | tup hb db =>
      rename_i a xs b ys
      have l1 := dpAll_len da
      have l2 := dpAll_len db
      refine ⟨a, b, xs, ys, rfl, rfl, ha, hb, Nat.le_of_lt (small1000 (by omega)), fun e => ?_, fun _ e => ?_, fun _ _ p np => ?_⟩
      · subst e
        cases da
        exact h _ H (Same.refl H) (.tup hb db)
      · subst e
        cases db
        refine h _ H (Same.refl H) (.tup ha ?_)
        rw [List.append_nil]
        exact da
      · exact h _ _ (same_upd np) (.tup (.inl (.inl upd_same)) (dpAll_app (dpAll_same (same_upd np) da) (dpAll_same (same_upd np) db)))

/-! ### what is not let in -/
theorem fmin_lt : ∀ {ns : List Int} {n : Int}, ns.foldl min n < 2 → ∃ i ∈ n :: ns, i < 2
  | [], n, h => ⟨n, List.mem_cons_self .., h⟩
  | m :: r, n, h => by
    obtain ⟨i, hi, l⟩ := fmin_lt (ns := r) (n := min n m) h
    rcases List.mem_cons.mp hi with e | hi
    · by_cases c : n ≤ m
      · exact ⟨n, List.mem_cons_self .., by omega⟩
      · exact ⟨m, List.mem_cons_of_mem _ (List.mem_cons_self ..), by omega⟩
    · exact ⟨i, List.mem_cons_of_mem _ (List.mem_cons_of_mem _ hi), l⟩
theorem blank_out {bk : List Lf} (ok : okBk bk) {y : Lf} (hy : y ∈ bk) (e : y.bk = []) : (y.L, (1 : Int)) ∉ shownP bk := by
  intro h
  obtain ⟨l, hl, hp⟩ := List.mem_flatMap.mp h
  have le : y.L = l.L := by
    have := (side_sub l).subset hp
    rcases List.mem_cons.mp this with e | e
    · exact congrArg Prod.fst e
    · exact congrArg Prod.fst (List.mem_singleton.mp e)
  have el : l = y := by
    obtain ⟨i, hi, ei⟩ := List.getElem_of_mem hl
    obtain ⟨j, hj, ej⟩ := List.getElem_of_mem hy
    have pw := List.pairwise_iff_getElem.mp ok.2.2
    rcases Nat.lt_trichotomy i j with c | c | c
    · have := pw i j hi hj c
      rw [ei, ej, le, lxx_irr] at this
      cases this
    · subst c
      rw [← ei, ← ej]
    · have := pw j i hj hi c
      rw [ei, ej, le, lxx_irr] at this
      cases this
  subst el
  unfold sideP at hp
  rw [if_pos e] at hp
  split at hp
  · cases hp
  · have := List.mem_singleton.mp hp
    cases this
theorem strange_out {bk : List Lf} {k i : Int} (h : [k] ∉ bk.map (·.L)) : ([k], i) ∉ shownP bk := fun m => by
  obtain ⟨l, hl, e⟩ := all_lab ((shown_sub bk).subset m)
  exact h (List.mem_map.mpr ⟨l, hl, e.symm⟩)
theorem ne_way {i j : Int} (h : i ≠ j) : decide (V.int i = V.int j) = false := decide_eq_false fun e => h (by injection e)
theorem nl2_P (p : Pg) : Nl 2 (dP p) := fun d hd => by
  rcases List.mem_cons.mp hd with h | h
  · rw [h]
    exact fun e he => by
      obtain ⟨i, _, rfl⟩ := List.mem_map.mp he
      trivial
  · rw [List.mem_singleton.mp h]
    trivial
theorem noPart {σ : L2.St} {H : Hp} {Q : Option Int → Hp → Prop} (h : Q none H) : tNoPart σ H Q := h
theorem good_uniq {bk : List Lf} {d : PyData} {ps qs : List Pg} (h : GoodPs bk d ps) (k : GoodPs bk d qs) : qs = ps := by
  obtain ⟨ds, e1, m1, _⟩ := h
  obtain ⟨es, e2, m2, _⟩ := k
  rw [e1] at e2
  cases e2
  rw [m1] at m2
  exact (some_inj m2).symm
section
variable {P : Program} {w : World} {K : PySem.W.Frag} {mg : Str → Option Value} {base : Heap}
/-! ### the promises -/
def sp_is_integer (K : PySem.W.Frag) : Sp := fun vs H Q _ => ∃ (v : V) (d : PyData), vs = [v] ∧ Dp K H v d ∧ Q (.bl (isI d)) H
def sp_is_within (K : PySem.W.Frag) : Sp := fun vs H Q _ => ∃ (v : V) (d : PyData) (l m : Int), vs = [v, .int l, .int m] ∧ Dp K H v d ∧ Q (.bl (wI l m d)) H
def sp_is_tuple (K : PySem.W.Frag) : Sp := fun vs H Q _ => ∃ (v : V) (d : PyData), vs = [v] ∧ ((Dp K H v d ∧ ∀ H', Same H H' → Q (.bl (items d).isSome) H') ∨ ∃ a xs, v = .ref a ∧ Seq K H a xs ∧ ∀ H', Same H H' → Q (.bl true) H')
def sz (l m : Int) (d : PyData) : Bool := match items d with
  | some ds => decide (l ≤ (ds.length : Int) ∧ (ds.length : Int) ≤ m)
  | none => false
def sp_is_sized (K : PySem.W.Frag) : Sp := fun vs H Q _ => ∃ (v : V) (d : PyData) (l m : Int), vs = [v, .int l, .int m] ∧ Dp K H v d ∧ ∀ H', Same H H' → Q (.bl (sz l m d)) H'
def sp_kept_label (K : PySem.W.Frag) : Sp := fun vs H Q _ => ∃ (v : V) (d : PyData), vs = [v] ∧ Dp K H v d ∧ ∀ y H', Same H H' → KeptL K H' v y (keptD d) → Q y H'
def sp_judged_label (K : PySem.W.Frag) : Sp := fun vs H Q _ => ∃ (v : V) (d : PyData) (L : List Int), vs = [v] ∧ Dp K H v d ∧ keptD d = some L ∧ ∀ y H', Same H H' → KeptL K H' v y (some L) → Q y H'
def sp_kept_page (K : PySem.W.Frag) : Sp := fun vs H Q _ => ∃ (v : V) (d : PyData), vs = [v] ∧ Dp K H v d ∧ ∀ y H', Same H H' → Dp K H' y (oD dP (keptPD d)) → Q y H'
def sp_shown_pages (K : PySem.W.Frag) (C CB : Addr) : Sp := fun vs H Q _ => ∃ (v : V) (bk : List Lf), vs = [v] ∧ BkAt C CB H v bk ∧ ∀ p H', Same H H' → Tp H' (.ref p) (dPs (shownP bk)) → Q (.ref p) H'
def sp_is_token (K : PySem.W.Frag) : Sp := fun vs H Q _ => ∃ z : Str, vs = [.str z] ∧ z.length ≤ 200 ∧ Q (.bl (tokB z)) H
def sp_is_row (K : PySem.W.Frag) : Sp := fun vs H Q _ => ∃ z : Str, vs = [.str z] ∧ z.length ≤ 1000 ∧ ∀ H', Same H H' → Q (.bl (rowB z)) H'
def sp_judged_rows (K : PySem.W.Frag) : Sp := fun vs H Q _ => ∃ (a : Addr) (zs : List Str) (l : Nat) (u : Str), vs = [.ref a, .int l, .str u] ∧ H a = some (.tup (zs.map V.str)) ∧ rowsB l zs = true ∧ ∀ H', Same H H' → Q (.ref a) H'
def sp_kept_strokes (K : PySem.W.Frag) : Sp := fun vs H Q _ => ∃ a : Addr, vs = [.ref a] ∧ SqT K H a [] ∧ ∀ p H', Same H H' → H' p = some (.tup []) → Q (.ref p) H'
def sp_judged_pen (K : PySem.W.Frag) : Sp := fun vs H Q _ => ∃ (f b : V) (a : Addr), vs = [f, b, .ref a] ∧ SqT K H a [] ∧ ∀ p H', Same H H' → H' p = some (.tup []) → Q (.ref p) H'
def sp_is_stroke (K : PySem.W.Frag) : Sp := fun vs H Q _ => vs = [.non] ∧ False
def sp_is_place (K : PySem.W.Frag) : Sp := fun vs H Q _ => vs = [.non, .non, .non] ∧ False
def sp_wall (K : PySem.W.Frag) : Sp := fun vs H Q _ => vs = [.non] ∧ False
def sp_Leaf_init (K : PySem.W.Frag) (C : Addr) : Sp := fun vs H Q _ => ∃ (x dx l f b p : Addr) (lf : Lf), vs = [.ref x, .ref l, .ref f, .ref b, .ref p] ∧ H x = some (.ins C dx []) ∧ H l = some (.tup (lf.L.map V.int)) ∧ H f = some (.tup (lf.fr.map V.str)) ∧ H b = some (.tup (lf.bk.map V.str)) ∧ SqT K H p [] ∧ okLf lf ∧
  ∀ H', LfAt C H' (.ref x) lf → (∀ b o, b ≠ x → H b = some o → H' b = some o) → Q .non H'
def sp_Leaf_side_rows (K : PySem.W.Frag) (C : Addr) : Sp := fun vs H Q _ => ∃ (v : V) (s : Int) (lf : Lf), vs = [v, .int s] ∧ LfAt C H v lf ∧ ∀ a, H a = some (.tup ((if s = 1 then lf.bk else lf.fr).map V.str)) → Q (.ref a) H
def sp_judged_leaves (K : PySem.W.Frag) (C : Addr) : Sp := fun vs H Q _ => ∃ (a : Addr) (xs : List V) (bk : List Lf), vs = [.ref a] ∧ H a = some (.lst xs) ∧ LfAll C H xs bk ∧ okBk bk ∧ ∀ p H', Same H H' → H' p = some (.tup xs) → Q (.ref p) H'
def sp_Book_init (K : PySem.W.Frag) (C CB : Addr) : Sp := fun vs H Q _ => ∃ (x dx a : Addr) (xs : List V) (bk : List Lf), vs = [.ref x, .ref a] ∧ H x = some (.ins CB dx []) ∧ H a = some (.lst xs) ∧ LfAll C H xs bk ∧ okBk bk ∧ ∀ H', BkAt C CB H' (.ref x) bk → (∀ b o, b ≠ x → H b = some o → H' b = some o) → Q .non H'
abbrev sp_Book_iter (K : PySem.W.Frag) (CB : Addr) : Nat → Sp := spIter K CB "leaves"
def sp_source (K : PySem.W.Frag) : Sp := fun vs H Q _ => ∃ (a : Addr) (ns : List Int) (k : Nat), vs = [.ref a, .int k] ∧ SqL K H a (ns.map V.int) ∧ ∀ p H', Same H H' → H p = none → Src H' p → Q (.ref p) H'
def sp_pick (K : PySem.W.Frag) : Sp := fun vs H Q _ => ∃ (a : Addr) (m : Int), vs = [.ref a, .int m] ∧ Src H a ∧ 0 ≤ m ∧ m ≤ 1000000 ∧ ∀ r H', Src H' a → But a H H' → 0 ≤ r → (r < m ∨ r = 0 ∧ m = 0) → Q (.int r) H'
def sp_law_is_integer (K : PySem.W.Frag) : Sp := fun vs H Q _ => ∃ i : Int, vs = [.int i] ∧ Q (.bl true) H
def LvAt (H : Hp) (p : Addr) (bk : List Lf) : Prop := ∃ vs, H p = some (.lst vs) ∧ TpAll H vs (bk.map dLf)
def sp_all_pages (K : PySem.W.Frag) : Sp := fun vs H Q _ => ∃ (a : Addr) (bk : List Lf), vs = [.ref a] ∧ LvAt H a bk ∧ bk.length ≤ 60 ∧ ∀ p vs H', Same H H' → H' p = some (.lst vs) → TpAll H' vs ((allP bk).map dP) → Q (.ref p) H'
def sp_as_lists (K : PySem.W.Frag) (n : Nat) : Sp := fun vs H Q _ => ∃ (x : V) (d : PyData), vs = [x] ∧ Dp K H x d ∧ Pl n d ∧ ∀ v H', Same H H' → Fd H H' v (toL d) → Q v H'
def sp_label (K : PySem.W.Frag) : Sp := fun vs H Q _ => ∃ (a : Addr) (m : Int), vs = [.ref a, .int m] ∧ Src H a ∧ 1 ≤ m ∧ m ≤ 99 ∧ ∀ p (L : List Int) H', Src H' a → But a H H' → H p = none → H' p = some (.tup (L.map V.int)) → okL L → Q (.ref p) H'
def sp_labels (K : PySem.W.Frag) : Sp := fun vs H Q _ => ∃ a : Addr, vs = [.ref a] ∧ Src H a ∧ ∀ p vs (Ls : List (List Int)) H', Src H' a → But a H H' → H p = none → H' p = some (.lst vs) → TpAll H' vs (Ls.map dL) → (∀ L ∈ Ls, okL L) → Ls.Pairwise (fun a b => HT.lexLt a b = true) → Ls.length ≤ 60 → Q (.ref p) H'
def sp_side (K : PySem.W.Frag) : Sp := fun vs H Q _ => ∃ a : Addr, vs = [.ref a] ∧ Src H a ∧ ∀ p (zs : List Str) H', Src H' a → But a H H' → H' p = some (.tup (zs.map V.str)) → rowsB 1 zs = true → Q (.ref p) H'
def sp_leaves (K : PySem.W.Frag) : Sp := fun vs H Q _ => ∃ a : Addr, vs = [.ref a] ∧ Src H a ∧ ∀ p bk H', Src H' a → But a H H' → H p = none → LvAt H' p bk → okBk bk → Q (.ref p) H'
def sp_changed (K : PySem.W.Frag) : Sp := fun vs H Q _ => ∃ (a l : Addr) (bk : List Lf), vs = [.ref a, .ref l] ∧ Src H a ∧ l ≠ a ∧ LvAt H l bk ∧ okBk bk ∧ ∀ p bk' H', Src H' a → But a H H' → H p = none → LvAt H' p bk' → okBk bk' → Q (.ref p) H'
def sp_made (K : PySem.W.Frag) (C CB : Addr) : Sp := fun vs H Q _ => ∃ (l : Addr) (bk : List Lf), vs = [.ref l] ∧ LvAt H l bk ∧ okBk bk ∧ ∀ v H', Same H H' → BkAt C CB H' v bk → Q v H'

/-- a row of things that are kept as pages -/
def sp_with_rows (K : PySem.W.Frag) : Sp := fun vs H Q _ => ∃ (a : Addr) (bk : List Lf), vs = [.ref a] ∧ LvAt H a bk ∧ okBk bk ∧ ∀ p vs H', Same H H' → H p = none → H' p = some (.lst vs) → TpAll H' vs ((shownP bk).map dP) → Q (.ref p) H'
def sp_told_pages (K : PySem.W.Frag) : Sp := fun vs H Q _ => ∃ (a : Addr) (w : V) (bk : List Lf) (ps : List (Pg × Pg)), vs = [.ref a, w] ∧ LvAt H a bk ∧ bk.length ≤ 60 ∧ ps.length ≤ 200 ∧ Dp K H w (dRs ps) ∧
  ∀ p vs H', Same H H' → H' p = some (.lst vs) → TpAll H' vs (((shownP bk).filter fun p => ps.any (inR p)).map dP) → Q (.ref p) H'
def sp_stranger (K : PySem.W.Frag) : Sp := fun vs H Q _ => ∃ (a : Addr) (bk : List Lf), vs = [.ref a] ∧ LvAt H a bk ∧ bk.length ≤ 60 ∧ ∀ p (k : Int) H', Same H H' → H' p = some (.tup [.int k]) → 1 ≤ k → k ≤ 99 → [k] ∉ bk.map (·.L) → Q (.ref p) H'
def sp_judged_pages (K : PySem.W.Frag) (C CB CE : Addr) : Sp := fun vs H Q E => ∃ (v w : V) (bk : List Lf) (d : PyData), vs = [v, w] ∧ BkAt C CB H v bk ∧ okBk bk ∧ Dp K H w d ∧ (∀ ds, items d = some ds → ds.length ≤ 200) ∧
  ((∀ ps, ¬ GoodPs bk d ps) → ∀ H', Same H H' → E (.ref CE) none H') ∧ (∀ ps, GoodPs bk d ps → ∀ p H', Same H H' → Dp K H' (.ref p) (dPs ps) → Q (.ref p) H')
def sp_preferred_ranges (K : PySem.W.Frag) (C CB CE : Addr) : Sp := fun vs H Q E => ∃ (v w : V) (bk : List Lf) (d : PyData), vs = [v, w] ∧ BkAt C CB H v bk ∧ okBk bk ∧ Dp K H w d ∧ (∀ ds, items d = some ds → ds.length ≤ 200) ∧
  ((∀ ps, ¬ GoodPs bk d ps) → ∀ H', Same H H' → E (.ref CE) none H') ∧ (∀ ps, GoodPs bk d ps → ∀ rs, PInv (shownP bk) ps ps rs → rs.length ≤ ps.length → ∀ p H', Same H H' → Dp K H' (.ref p) (dRs rs) → Q (.ref p) H')
def trD (i : Int) : PyData := if i = 0 then .bool false else if i = 1 then .bool true else .int i
def sp_truths (K : PySem.W.Frag) : Sp := fun vs H Q _ => ∃ (a : Addr) (L : List Int), vs = [.ref a] ∧ SqT K H a (L.map V.int) ∧ okL L ∧ ∀ p H', Same H H' → Dp K H' (.ref p) (.tuple (L.map trD)) → Q (.ref p) H'
def sp_bad_pages (K : PySem.W.Frag) : Sp := fun vs H Q _ => ∃ (a l b : Addr) (us : List V) (bk : List Lf) (ps : List Pg), vs = [.ref a, .ref l, .ref b] ∧ Src H a ∧ l ≠ a ∧ LvAt H l bk ∧ okBk bk ∧ SqT K H b us ∧ TpAll H us (ps.map dP) ∧ (∀ p ∈ ps, p ∈ shownP bk) ∧ Up ps ∧
  ∀ y d H', Src H' a → But a H H' → Dp K H' y d → (∀ qs, ¬ GoodPs bk d qs) → (∀ ds, items d = some ds → ds.length ≤ 200) → Q y H'
def sp_refused (K : PySem.W.Frag) (C CB : Addr) : Sp := fun vs H Q _ => ∃ (v w : V) (bk : List Lf) (d : PyData), vs = [v, w] ∧ BkAt C CB H v bk ∧ okBk bk ∧ Dp K H w d ∧ (∀ ds, items d = some ds → ds.length ≤ 200) ∧ (∀ ps, ¬ GoodPs bk d ps) ∧ ∀ H', Same H H' → Q (.bl true) H'
def sp_is_page (K : PySem.W.Frag) : Sp := fun vs H Q _ => ∃ (v : V) (p : Pg), vs = [v] ∧ Dp K H v (dP p) ∧ p.1.length ≤ 3 ∧ ∀ H', Same H H' → Q (.bl true) H'
def sp_walked (K : PySem.W.Frag) : Sp := fun vs H Q _ => ∃ (a : Addr) (v w : V) (bk : List Lf) (ps : List Pg) (rs : List (Pg × Pg)), vs = [.ref a, v, w] ∧ LvAt H a bk ∧ okBk bk ∧ Dp K H v (dPs ps) ∧ Dp K H w (dRs rs) ∧ (∀ p ∈ ps, p ∈ shownP bk) ∧ Up ps ∧ PInv (shownP bk) ps ps rs ∧ rs.length ≤ ps.length ∧ ∀ H', Same H H' → Q (.bl true) H'
def sp_masks (K : PySem.W.Frag) : Sp := fun vs H Q _ => ∃ (a pa : Addr) (po : Obj) (pus : List V) (bk : List Lf) (ps : List Pg), vs = [.ref a, .ref pa] ∧ LvAt H a bk ∧ okBk bk ∧ bk.length ≤ 4 ∧ H pa = some (.frz po (.tup pus)) ∧ po.dict = none ∧ DpAll K H pus (ps.map dP) ∧ (∀ p ∈ ps, p ∈ shownP bk) ∧ Up ps ∧
  ∀ p (ms : List Nat) H', Same H H' → H p = none → H' p = some (.lst (ms.map fun m => V.int (m : Nat))) → (∀ m ∈ ms, MaskOk (shownP bk) ps m) → ms.length ≤ 64 → Q (.ref p) H'
def sp_fewer_tell (K : PySem.W.Frag) : Sp := fun vs H Q _ => ∃ (a pa : Addr) (po : Obj) (pus : List V) (bk : List Lf) (ps : List Pg) (rs : List (Pg × Pg)), vs = [.ref a, .ref pa, .int (rs.length : Nat)] ∧ LvAt H a bk ∧ okBk bk ∧ bk.length ≤ 4 ∧ H pa = some (.frz po (.tup pus)) ∧ po.dict = none ∧ DpAll K H pus (ps.map dP) ∧ (∀ p ∈ ps, p ∈ shownP bk) ∧ Up ps ∧ PInv (shownP bk) ps ps rs ∧ rs.length ≤ ps.length ∧ ∀ H', Same H H' → Q (.bl false) H'
def sp_law (K : PySem.W.Frag) : Sp := fun vs H Q _ => ∃ (a : Addr) (ns : List Int), vs = [.ref a] ∧ SqL K H a (ns.map V.int) ∧ ns.length ≤ 63 ∧ ∀ H', Q (.bl true) H'
theorem nl_tr (i : Int) : ∃ n, Nl n (trD i) := by
  unfold trD
  by_cases h : i = 0
  · rw [if_pos h]; exact ⟨0, trivial⟩
  · rw [if_neg h]
    by_cases h2 : i = 1
    · rw [if_pos h2]; exact ⟨0, trivial⟩
    · rw [if_neg h2]; exact ⟨0, trivial⟩
theorem keptD_tr {L : List Int} (hL : okL L) {i : Int} (hi : i ∈ L) (l : i < 2) : keptD (.tuple (L.map trD)) = none := by
  have h : none ∈ (L.map trD).map toO := by
    refine List.mem_map.mpr ⟨trD i, List.mem_map_of_mem hi, ?_⟩
    have := hL.2.2 i hi
    unfold trD
    by_cases h0 : i = 0
    · rw [if_pos h0]; rfl
    · rw [if_neg h0, if_pos (show i = 1 by omega)]; rfl
  show keep ((L.map trD).map toO) = none
  unfold keep
  rw [allSome_none h]
theorem LvAt.same {H H' : Hp} {p : Addr} {bk : List Lf} (s : Same H H') (h : LvAt H p bk) : LvAt H' p bk := by
  obtain ⟨vs, e, t⟩ := h
  exact ⟨vs, s _ _ e, t.nl (NL.of s)⟩
/-- what the law keeps of an earlier turn -/
def WA (C CB W : Addr) (H : Hp) (v : V) : Prop := ∃ (u l pa : Addr) (bv : V) (po : Obj) (pus : List V) (bk : List Lf) (ps : List Pg), v = .ref u ∧ H u = some (.lst [.ref l, bv, .ref pa]) ∧ u ≠ W ∧ l ≠ W ∧ LvAt H l bk ∧ okBk bk ∧ BkAt C CB H bv bk ∧ H pa = some (.frz po (.tup pus)) ∧ po.dict = none ∧ TpAll H pus (ps.map dP) ∧ (∀ p ∈ ps, p ∈ shownP bk) ∧ Up ps
theorem WA.same {C CB W : Addr} {H H' : Hp} {v : V} (s : Same H H') (h : WA C CB W H v) : WA C CB W H' v := by
  obtain ⟨u, l, pa, bv, po, pus, bk, ps, e, hu, uW, lW, hl, ok, hb, hp, pd, tp, hs, up⟩ := h
  exact ⟨u, l, pa, bv, po, pus, bk, ps, e, s _ _ hu, uW, lW, hl.same s, ok, hb.nl (NL.of s), s _ _ hp, pd, tp.nl (NL.of s), hs, up⟩
theorem WA.put {C CB W : Addr} {H : Hp} {v : V} {ws : List V} (hW : H W = some (.lst ws)) (ys : List V) (h : WA C CB W H v) : WA C CB W (upd H W (.lst ys)) v := by
  obtain ⟨u, l, pa, bv, po, pus, bk, ps, e, hu, uW, lW, ⟨vs, hvs, tvs⟩, ok, hb, hp, pd, tp, hs, up⟩ := h
  have m := (NL.refl H).put hW (.lst ys)
  refine ⟨u, l, pa, bv, po, pus, bk, ps, e, by rw [upd_ne uW]; exact hu, uW, lW, ⟨vs, by rw [upd_ne lW]; exact hvs, tvs.nl m⟩, ok, hb.nl m, m _ _ hp (fun _ z => nomatch z), pd, tp.nl m, hs, up⟩
theorem ok_wall (T : Tab K mg) : FnOk P w K mg base CX0 1 T.f_wall T.d_wall ["k"] (sp_wall K) := by
  refine T.F_wall.ok sc_wall (fun vs H Q E h => ?_) (fun cdv A outer s H vs Q E hr h => ?_)
  · obtain ⟨rfl, _⟩ := h
    rfl
  · exact h.2.elim
theorem ok_is_integer (T : Tab K mg) : FnOk P w K mg base CX0 1 T.f_is_integer T.d_is_integer ["thing"] (sp_is_integer K) := by
  refine T.F_is_integer.ok sc_is_integer (fun vs H Q E h => ?_) (fun cdv A outer s H vs Q E hr h => ?_)
  · obtain ⟨v, d, rfl, _⟩ := h
    rfl
  · obtain ⟨v, d, rfl, hd, q⟩ := h
    refine ⟨_, (pss_one (ps_ret (pe_and (pe_callB call_isi (by rfl) T.m_isinstance (by decide +kernel) (pa_cons (pv 0) (pa_cons (pe_bltn (v := .ty "int") (u := .type "int") (by rfl) T.m_int (by decide +kernel) rfl) pa_nil))) (pe_one (pe_not (pe_callB call_isi (by rfl) T.m_isinstance (by decide +kernel) (pa_cons (pv 0) (pa_cons (pe_bltn (v := .ty "bool") (u := .type "bool") (by rfl) T.m_bool (by decide +kernel) rfl) pa_nil)))))))), ?_⟩
    cases hd with
    | non => exact ⟨_, rfl, _, _, _, _, _, rfl, .ty "int", .base .non, kit_ty (r := false) (by decide +kernel), false, rfl, q⟩
    | bl b =>
      refine ⟨_, rfl, _, _, _, _, _, rfl, .ty "int", .base (.bl b), kit_ty (by decide +kernel), true, rfl, iteT ?_⟩
      exact ⟨_, rfl, _, _, _, _, _, rfl, .ty "bool", .base (.bl b), kit_ty (r := true) (by decide +kernel), true, rfl, q⟩
    | int i =>
      refine ⟨_, rfl, _, _, _, _, _, rfl, .ty "int", .base (.int i), kit_ty (by decide +kernel), true, rfl, iteT ?_⟩
      exact ⟨_, rfl, _, _, _, _, _, rfl, .ty "bool", .base (.int i), kit_ty (r := false) (by decide +kernel), false, rfl, q⟩
    | str z => exact ⟨_, rfl, _, _, _, _, _, rfl, .ty "int", .base (.str z), kit_ty (r := false) (by decide +kernel), false, rfl, q⟩
    | lst h _ => exact ⟨_, rfl, _, _, _, _, _, rfl, .ty "int", ty_L h, kit_ty (r := false) (by decide +kernel), false, rfl, q⟩
    | tup h _ => exact ⟨_, rfl, _, _, _, _, _, rfl, .ty "int", ty_T h, kit_ty (r := false) (by decide +kernel), false, rfl, q⟩
theorem ok_is_tuple (T : Tab K mg) : FnOk P w K mg base CX0 1 T.f_is_tuple T.d_is_tuple ["thing"] (sp_is_tuple K) := by
  refine T.F_is_tuple.ok sc_is_tuple (fun vs H Q E h => ?_) (fun cdv A outer s H vs Q E hr h => ?_)
  · obtain ⟨v, d, rfl, _⟩ := h
    rfl
  · obtain ⟨v, d, rfl, hq⟩ := h
    refine ⟨_, (pss_one (ps_ret (pe_callB call_isiT (by rfl) T.m_isinstance (by decide +kernel) (pa_cons (pv 0) (pa_cons (pe_tup (pa_cons (pe_bltn (v := .ty "tuple") (u := .type "tuple") (by rfl) T.m_tuple (by decide +kernel) rfl) (pa_cons (pe_bltn (v := .ty "list") (u := .type "list") (by rfl) T.m_list (by decide +kernel) rfl) pa_nil))) pa_nil))))), ?_⟩
    refine ⟨_, rfl, (by show 2 ≤ sizeLine; decide), fun tp ntp => ?_⟩
    have s1 := same_upd (o := .tup [.ty "tuple", .ty "list"]) ntp
    rcases hq with ⟨hd, q⟩ | ⟨a, xs, rfl, hs, q⟩
    · have q1 := q _ s1
      cases hd with
      | lst h _ => exact ⟨_, tp, _, _, _, true, rfl, upd_same, .cons (.ty "tuple") (.cons (.ty "list") .nil), ty_L (s1.seq h), kit2_L, q1⟩
      | tup h _ => exact ⟨_, tp, _, _, _, true, rfl, upd_same, .cons (.ty "tuple") (.cons (.ty "list") .nil), ty_T (same_seqT s1 h), kit2_T, q1⟩
      | non => exact ⟨_, tp, _, _, _, false, rfl, upd_same, .cons (.ty "tuple") (.cons (.ty "list") .nil), .base .non, kit2_no (by decide +kernel) (by decide +kernel), q1⟩
      | bl b => exact ⟨_, tp, _, _, _, false, rfl, upd_same, .cons (.ty "tuple") (.cons (.ty "list") .nil), .base (.bl b), kit2_no (by decide +kernel) (by decide +kernel), q1⟩
      | int i => exact ⟨_, tp, _, _, _, false, rfl, upd_same, .cons (.ty "tuple") (.cons (.ty "list") .nil), .base (.int i), kit2_no (by decide +kernel) (by decide +kernel), q1⟩
      | str z => exact ⟨_, tp, _, _, _, false, rfl, upd_same, .cons (.ty "tuple") (.cons (.ty "list") .nil), .base (.str z), kit2_no (by decide +kernel) (by decide +kernel), q1⟩
    · have q1 := q _ s1
      rcases hs with h | h
      · exact ⟨_, tp, _, _, _, true, rfl, upd_same, .cons (.ty "tuple") (.cons (.ty "list") .nil), ty_L (s1.seq h), kit2_L, q1⟩
      · exact ⟨_, tp, _, _, _, true, rfl, upd_same, .cons (.ty "tuple") (.cons (.ty "list") .nil), ty_T (same_seqT s1 h), kit2_T, q1⟩
theorem ok_Leaf_side_rows (T : Tab K mg) : FnOk P w K mg base CX0 1 T.f_Leaf_side_rows T.d_Leaf_side_rows ["self", "side"] (sp_Leaf_side_rows K T.C_Leaf) := by
  refine T.F_Leaf_side_rows.ok sc_Leaf_side_rows (fun vs H Q E h => ?_) (fun cdv A outer s H vs Q E hr h => ?_)
  · obtain ⟨v, s, lf, rfl, _⟩ := h
    rfl
  · obtain ⟨v, s, lf, rfl, ⟨x, dx, l, f, b, p, st, rfl, hx, hl, hf, hb, hp, hs⟩, q⟩ := h
    refine ⟨_, (pss_one (ps_ret (pe_ifExp (pt_cmpR op_eq (pv 1) pe_int (nomark _)) (pe_fld (pv 0) rfl) (pe_fld (pv 0) rfl)))), ?_⟩
    refine ⟨_, rfl, rfl, _, rfl, ite2 (fun e => ?_) (fun e => ?_)⟩
    · have e1 : s = 1 := V.int.inj (of_decide_eq_true e)
      exact ⟨_, rfl, x, _, dx, _, _, rfl, hx, T.cl_Leaf, T.na_Leaf_back, fLf_back, q b (by rw [if_pos e1]; exact hb)⟩
    · have e1 : ¬ s = 1 := fun z => e (decide_eq_true (congrArg V.int z))
      exact ⟨_, rfl, x, _, dx, _, _, rfl, hx, T.cl_Leaf, T.na_Leaf_front, fLf_front, q f (by rw [if_neg e1]; exact hf)⟩
theorem ok_is_token (T : Tab K mg) : FnOk P w K mg base CX0 1 T.f_is_token T.d_is_token ["thing"] (sp_is_token K) := by
  refine T.F_is_token.ok sc_is_token (fun vs H Q E h => ?_) (fun cdv A outer s H vs Q E hr h => ?_)
  · obtain ⟨z, rfl, _⟩ := h
    rfl
  · obtain ⟨z, rfl, hz, q⟩ := h
    refine ⟨_, (pss_one (ps_ret (pe_and (pe_callB call_isi (by rfl) T.m_isinstance (by decide +kernel) (pa_cons (pv 0) (pa_cons (pe_bltn (v := .ty "str") (u := .type "str") (by rfl) T.m_str (by decide +kernel) rfl) pa_nil))) (pe_and (pe_chain op_le op_le pe_int (pe_callB call_len_str (by rfl) T.m_len PySem.boot_len (pa_cons (pv 0) pa_nil)) (pe_glob (v := .int 20) (by rfl) T.c_MOST_SIGNS ⟨_, rfl⟩)) (pe_one (pe_cmpR op_notIn_sign pe_str (pv 0) rfl)))))), ?_⟩
    refine ⟨_, rfl, _, _, _, _, _, rfl, .ty "str", .base (.str z), kit_ty (by decide +kernel), true, rfl, iteT ?_⟩
    have no : ∀ (P : Prop) [Decidable P], tokB z = decide P → ¬ P → Q (.bl false) H := fun P _ e n => by rw [e, decide_eq_false n] at q; exact q
    have tk : tokB z = decide (1 ≤ z.length ∧ z.length ≤ 20 ∧ 32 ∉ z.cps.toList) := by
      unfold tokB
      rw [Bool.eq_iff_iff]
      simp only [Bool.and_eq_true, decide_eq_true_eq, and_assoc]
    refine ⟨_, rfl, z, rfl, Nat.le_of_lt (small1000 (by omega)), _, _, rfl, rfl, _, rfl, ite2 (fun e => ?_) (fun e => ?_)⟩
    · have e1 : (1 : Int) ≤ z.length := of_decide_eq_true e
      refine ⟨_, _, rfl, rfl, _, rfl, ite2 (fun e2 => ?_) (fun e2 => ?_)⟩
      · have e2' : (z.length : Int) ≤ 20 := of_decide_eq_true e2
        refine ⟨_, rfl, 32, z, (by rfl), rfl, ?_⟩
        rw [tk] at q
        have ee : (!decide (32 ∈ z.cps.toList)) = decide (1 ≤ z.length ∧ z.length ≤ 20 ∧ 32 ∉ z.cps.toList) := by
          rw [← decide_not]
          exact decide_eq_decide.mpr ⟨fun h => ⟨by omega, by omega, h⟩, fun h => h.2.2⟩
        rw [ee]
        exact q
      · exact no _ tk fun h => e2 (decide_eq_true (by have := h.2.1; omega))
    · exact ⟨_, rfl, iteF (no _ tk fun h => e (decide_eq_true (by have := h.1; omega)))⟩
theorem ok_is_place (T : Tab K mg) : FnOk P w K mg base CX0 1 T.f_is_place T.d_is_place ["front", "back", "place"] (sp_is_place K) := by
  refine T.F_is_place.ok sc_is_place (fun vs H Q E h => ?_) (fun cdv A outer s H vs Q E hr h => ?_)
  · obtain ⟨rfl, _⟩ := h
    rfl
  · exact h.2.elim
theorem ok_Book_iter (T : Tab K mg) : InOk P w K mg base 1 T.f_Book_iter T.d_Book_iter ["self"] (sp_Book_iter K T.C_Book) := by
  refine in_ok T.F_Book_iter sc_Book_iter (fun nn vs H Q E h => ?_) (fun cdv A outer s H vs Q E hr h => ?_)
  · obtain ⟨b, dx, l, fs, zs, rfl, _⟩ := h
    rfl
  · obtain ⟨b, dx, l, fs, zs, rfl, hb, hf, hz, q⟩ := h
    refine ⟨_, (pss_one (ps_ret (pe_callB call_iterT (by rfl) T.m_iter (by decide +kernel) (pa_cons (pe_fld (pv 0) rfl) pa_nil)))), ?_⟩
    exact ⟨_, rfl, b, _, dx, fs, _, rfl, hb, T.cl_Book, T.na_Book_leaves, hf, l, zs, rfl, hz, fun it n1 n2 => q it n1 n2⟩
theorem ok_source (T : Tab K mg) : FnOk P w K mg base CX0 1 T.f_source T.d_source ["_law_script", "_law_k"] (sp_source K) := by
  refine T.F_source.ok sc_source (fun vs H Q E h => ?_) (fun cdv A outer s H vs Q E hr h => ?_)
  · obtain ⟨a, ns, k, rfl, _⟩ := h
    rfl
  · obtain ⟨a, ns, k, rfl, hS, q⟩ := h
    refine ⟨_, (C8.pss_cut (ps_set (i := 2) sc_source.nd rfl (.inl rfl) (pe_ifExp (pt_cmpR op_lt (pv 1) (pe_callB call_len_seq (by rfl) T.m_len PySem.boot_len (pa_cons (pv 0) pa_nil)) (nomark _)) (pe_ix ix_list (pv 0) (pv 1) (fun _ _ => rfl)) (pe_op op_add (pe_op op_mod (pe_callTy call_int1 (by rfl) T.m_int (by decide +kernel) (pa_cons (pe_op op_add (pe_callB (cr_sum rfl) (by rfl) T.m_sum (by decide +kernel) (pa_cons (pe_slice sl_list (pv 0) po_none (po_some pe_int)) pa_nil)) (pe_op op_mul pe_int (pe_callB (cr_sum rfl) (by rfl) T.m_sum (by decide +kernel) (pa_cons (pe_slice sl_list (pv 0) (po_some pe_int) (po_some pe_int)) pa_nil)))) pa_nil)) pe_int) (pe_op op_mul pe_int (pv 1)))))
      (pss_cons (ps_set (i := 3) sc_source.nd rfl (.inl rfl) (pe_callB call_abs (by rfl) T.m_abs (by decide +kernel) (pa_cons (pv 2) pa_nil)))
      (C8.pss_cut (ps_set (i := 4) sc_source.nd rfl (.inl rfl) (pe_ifExp (pt_cmpR op_ge (pv 3) pe_int (nomark _)) (pv 3) pe_int))
      (pss_one (ps_ret (pe_lst (pa_cons (pv 4) (pa_cons (pe_op op_mod (pe_callTy call_int1 (by rfl) T.m_int (by decide +kernel) (pa_cons (pe_op op_add (pe_op op_add (pe_op op_add (pe_op op_mul (pv 3) pe_int) (pe_callTy call_int1 (by rfl) T.m_int (by decide +kernel) (pa_cons (pe_cmpR op_lt (pv 2) pe_int (nomark _)) pa_nil))) (pe_op op_mul pe_int (pv 1))) pe_int) pa_nil)) pe_int) (pa_cons pe_int pa_nil))))))))), ?_⟩
    refine ⟨fun σ' H' => ∃ c : Int, σ' = [some (.ref a), some (.int k), some (.int c), none, none] ∧ Same H H', ?_, ?_⟩
    · refine ⟨_, rfl, _, rfl, _, _, rfl, .inl hS, _, _, rfl, rfl, _, rfl, ite2 (fun e => ?_) (fun e => ?_)⟩
      · have e1 : (k : Int) < ((ns.map V.int).length : Int) := of_decide_eq_true e
        rw [List.length_map] at e1
        have hk : k < ns.length := by omega
        have g : (ns.map V.int)[k]? = some (.int ns[k]) := by
          rw [List.getElem?_map, List.getElem?_eq_getElem hk]
          rfl
        exact ⟨_, rfl, _, rfl, _, _, _, _, rfl, rfl, hS, atI_nat g, _, rfl, Same.refl H⟩
      · refine ⟨_, rfl, 1, rfl, _, _, rfl, hS, fun p1 n1 => ?_⟩
        obtain ⟨m1, c1⟩ := cut_map ns none (some 1)
        rw [c1]
        have s1 : Same H (upd H p1 (.lst (m1.map V.int))) := same_upd n1
        refine ⟨_, m1, rfl, .inl (.inl upd_same), _, rfl, 1, rfl, 2, rfl, _, _, rfl, s1.seq hS, fun p2 n2 => ?_⟩
        obtain ⟨m2, c2⟩ := cut_map ns (some 1) (some 2)
        rw [c2]
        refine ⟨_, m2, rfl, .inl (.inl upd_same), _, _, rfl, rfl, .inl ⟨by decide, by decide⟩, _, _, rfl, rfl, .inl ⟨_, rfl, _, _, rfl, rfl, (by show (0 : Int) < 1000003; decide), _, rfl, _, _, rfl, rfl, .inl ⟨by decide, by decide⟩, _, _, rfl, rfl, _, rfl, s1.trans (same_upd n2)⟩⟩
    · rintro σ' H1 ⟨c, rfl, s1⟩
      refine ⟨_, rfl, _, rfl, ?_⟩
      refine ⟨fun σ' H' => ∃ n g : Int, σ' = [some (.ref a), some (.int k), some (.int c), some (.int n), some (.int g)] ∧ H' = H1, ?_, ?_⟩
      · refine ⟨_, rfl, _, _, rfl, rfl, _, rfl, ite2 (fun e => ?_) (fun e => ?_)⟩
        · exact ⟨_, rfl, _, _, rfl, rfl⟩
        · exact ⟨_, _, rfl, rfl⟩
      · rintro σ' H' ⟨n, g, rfl, rfl⟩
        refine ⟨_, rfl, _, rfl, _, _, rfl, rfl, .inr ⟨by decide, by decide⟩, _, rfl, _, _, rfl, rfl, .inr ⟨_, rfl, _, _, rfl, rfl, _, rfl, _, _, rfl, rfl, .inl ⟨by decide, by decide⟩, _, _, rfl, rfl, _, _, rfl, rfl, .inl ⟨_, rfl, _, _, rfl, rfl, (by show (0 : Int) < 2147483647; decide), ?_⟩⟩⟩
        refine ⟨(by show 3 ≤ sizeLine; decide), fun p np => ?_⟩
        exact q p _ (s1.trans (same_upd np)) (s1.free np) ⟨_, _, _, upd_same⟩
theorem ok_pick (T : Tab K mg) : FnOk P w K mg base CX0 1 T.f_pick T.d_pick ["_law_source_here", "_law_many"] (sp_pick K) := by
  refine T.F_pick.ok sc_pick (fun vs H Q E h => ?_) (fun cdv A outer s H vs Q E hr h => ?_)
  · obtain ⟨a, m, rfl, _⟩ := h
    rfl
  · obtain ⟨a, m, rfl, ⟨g, x, c, hs⟩, h1, h2, q⟩ := h
    refine ⟨_, (pss_cons (ps_if (pt_cmpR op_lt (pv 1) pe_int (nomark _))
      (pss_one (ps_ret pe_int))
      pss_nil)
      (pss_cons (ps_if (pt_cmpR op_gt (pe_ix ix_list (pv 0) pe_int (fun _ _ => rfl)) pe_int (nomark _))
      (pss_cons (ps_set (i := 2) sc_pick.nd rfl (.inl rfl) (pe_op op_mod (pe_callTy call_int1 (by rfl) T.m_int (by decide +kernel) (pa_cons (pe_ix ix_list (pv 0) pe_int (fun _ _ => rfl)) pa_nil)) (pv 1)))
        (pss_cons (ps_asg (pe_op op_fdiv (pe_ix ix_list (pv 0) pe_int (fun _ _ => rfl)) (pv 1)) (pg_sub (pv 0) pe_int set_list))
        (pss_one (ps_ret (pv 2)))))
      pss_nil)
      (pss_cons (ps_asg (pe_op op_add (pe_ix ix_list (pv 0) pe_int (fun _ _ => rfl)) pe_int) (pg_sub (pv 0) pe_int set_list))
      (pss_cons (ps_asg (pe_op op_mod (pe_callTy call_int1 (by rfl) T.m_int (by decide +kernel) (pa_cons (pe_op op_add (pe_op op_add (pe_op op_mul (pe_ix ix_list (pv 0) pe_int (fun _ _ => rfl)) pe_int) (pe_op op_mul (pe_ix ix_list (pv 0) pe_int (fun _ _ => rfl)) pe_int)) pe_int) pa_nil)) pe_int) (pg_sub (pv 0) pe_int set_list))
      (pss_one (ps_ret (pe_op op_mod (pe_callTy call_int1 (by rfl) T.m_int (by decide +kernel) (pa_cons (pe_op op_fdiv (pe_op op_mod (pe_callTy call_int1 (by rfl) T.m_int (by decide +kernel) (pa_cons (pe_op op_add (pe_op op_add (pe_op op_mul (pe_ix ix_list (pv 0) pe_int (fun _ _ => rfl)) pe_int) (pe_op op_mul (pe_ix ix_list (pv 0) pe_int (fun _ _ => rfl)) pe_int)) pe_int) pa_nil)) pe_int) pe_int) pa_nil)) (pv 1)))))))), ?_⟩
    refine ⟨_, rfl, _, _, rfl, rfl, _, rfl, ite2 (fun e => ?_) (fun e => ?_)⟩
    · exact q 0 H ⟨g, x, c, hs⟩ (But.refl a H) (by decide) (by omega)
    · have hm : ¬ m < 2 := fun z => e (decide_eq_true z)
      refine ⟨_, rfl, _, _, _, _, rfl, rfl, .inl (.inl hs), rfl, _, _, rfl, rfl, _, rfl, ite2 (fun e => ?_) (fun e => ?_)⟩
      · refine ⟨_, rfl, _, _, _, _, rfl, rfl, .inl (.inl hs), rfl, .inl ⟨_, rfl, _, rfl, _, _, rfl, rfl, (by omega), ?_⟩⟩
        refine ⟨_, rfl, _, _, _, _, rfl, rfl, .inl (.inl hs), rfl, _, rfl, _, _, rfl, rfl, ⟨by omega, by omega⟩, ?_⟩
        refine ⟨_, rfl, _, _, _, _, rfl, rfl, hs, rfl, ?_⟩
        refine ⟨_, rfl, ?_⟩
        exact q _ _ ⟨_, _, _, upd_same⟩ (But.upd _) (Int.emod_nonneg _ (by omega)) (.inl (Int.emod_lt_of_pos _ (by omega)))
      · refine ⟨_, rfl, _, _, _, _, rfl, rfl, .inl (.inl hs), rfl, _, _, rfl, rfl, _, rfl, _, _, _, _, rfl, rfl, hs, rfl, ?_⟩
        refine ⟨_, rfl, _, _, _, _, rfl, rfl, .inl (.inl upd_same), rfl, _, _, rfl, rfl, .inr ⟨by decide, by decide⟩, _, rfl, _, _, _, _, rfl, rfl, .inl (.inl upd_same), rfl, _, _, rfl, rfl, .inr ⟨by decide, by decide⟩, _, _, rfl, rfl, _, _, rfl, rfl, .inl ⟨_, rfl, _, _, rfl, rfl, (by show (0 : Int) < 2147483647; decide), ?_⟩⟩
        refine ⟨_, rfl, _, _, _, _, rfl, rfl, upd_same, rfl, ?_⟩
        refine ⟨_, rfl, _, _, _, _, rfl, rfl, .inl (.inl upd_same), rfl, _, _, rfl, rfl, .inr ⟨by decide, by decide⟩, _, rfl, _, _, _, _, rfl, rfl, .inl (.inl upd_same), rfl, _, _, rfl, rfl, .inr ⟨by decide, by decide⟩, _, _, rfl, rfl, _, _, rfl, rfl, .inl ⟨_, rfl, _, _, rfl, rfl, (by show (0 : Int) < 2147483629; decide), _, _, rfl, rfl, ⟨by decide, by decide⟩, .inl ⟨_, rfl, _, rfl, _, _, rfl, rfl, (by omega), ?_⟩⟩⟩
        exact q _ _ ⟨_, _, _, upd_same⟩ (((But.upd _).trans (But.upd _))) (Int.emod_nonneg _ (by omega)) (.inl (Int.emod_lt_of_pos _ (by omega)))
theorem ok_law_is_integer (T : Tab K mg) : FnOk P w K mg base CX0 1 T.f_law_is_integer T.d_law_is_integer ["_law_actual"] (sp_law_is_integer K) := by
  refine T.F_law_is_integer.ok sc_law_is_integer (fun vs H Q E h => ?_) (fun cdv A outer s H vs Q E hr h => ?_)
  · obtain ⟨i, rfl, _⟩ := h
    rfl
  · obtain ⟨i, rfl, q⟩ := h
    refine ⟨_, (pss_one (ps_ret (pe_and (pe_callB call_isi (by rfl) T.m_isinstance (by decide +kernel) (pa_cons (pv 0) (pa_cons (pe_bltn (v := .ty "int") (u := .type "int") (by rfl) T.m_int (by decide +kernel) rfl) pa_nil))) (pe_one (pe_not (pe_callB call_isi (by rfl) T.m_isinstance (by decide +kernel) (pa_cons (pv 0) (pa_cons (pe_bltn (v := .ty "bool") (u := .type "bool") (by rfl) T.m_bool (by decide +kernel) rfl) pa_nil)))))))), ?_⟩
    refine ⟨_, rfl, _, _, _, _, _, rfl, .ty "int", .base (.int i), kit_ty (by decide +kernel), true, rfl, iteT ?_⟩
    exact ⟨_, rfl, _, _, _, _, _, rfl, .ty "bool", .base (.int i), kit_ty (r := false) (by decide +kernel), false, rfl, q⟩
theorem ok_all_pages (T : Tab K mg) : FnOk P w K mg base CX0 1 T.f_all_pages T.d_all_pages ["_law_leaves_here"] (sp_all_pages K) := by
  refine T.F_all_pages.ok sc_all_pages (fun vs H Q E h => ?_) (fun cdv A outer s H vs Q E hr h => ?_)
  · obtain ⟨a, bk, rfl, _⟩ := h
    rfl
  · obtain ⟨a, bk, rfl, ⟨vs, ha, tp⟩, h60, q⟩ := h
    refine ⟨_, (pss_cons (ps_set (i := 1) sc_all_pages.nd rfl (.inl rfl) (pe_lst pa_nil))
      (pss_cons (ps_for PassesOwn.never rfl (pi_list (pv 0)) (pg_name (i := 2) sc_all_pages.nd rfl (.inl rfl))
      (pss_one (ps_set (i := 1) sc_all_pages.nd rfl (.inl rfl) (pe_op op_cat (pv 1) (pe_lst (pa_cons (pe_tup (pa_cons (pe_ix ix_tup (pv 2) pe_int (fun _ _ => rfl)) (pa_cons pe_int pa_nil))) (pa_cons (pe_tup (pa_cons (pe_ix ix_tup (pv 2) pe_int (fun _ _ => rfl)) (pa_cons pe_int pa_nil))) pa_nil)))))))
      (pss_one (ps_ret (pv 1))))), ?_⟩
    have len := tp.len
    rw [List.length_map] at len
    refine ⟨Nat.zero_le _, fun D nD => ?_⟩
    have s0 := same_upd (o := .lst []) nD
    refine ⟨_, rfl, a, rfl, ⟨_, .inl (.inl (s0 _ _ ha))⟩, for_list (xs := vs) (fun i σ' H' => ∃ (c : Addr) (us : List V) (y : Option V), σ' = [some (.ref a), some (.ref c), y] ∧ Same H H' ∧ H' c = some (.lst us) ∧ TpAll H' us ((allP (bk.take i)).map dP)) ⟨D, [], none, rfl, s0, upd_same, .nil⟩ (fun i σ' H' _ hh => by obtain ⟨_, _, _, _, s, _⟩ := hh; exact .inl (.inl (s _ _ ha))) ?_ ?_⟩
    · rintro i x σ' H1 hx ⟨c, us, y, rfl, s1, hc, tus⟩
      obtain ⟨d, ed, td⟩ := tp.get hx
      obtain ⟨lf, el, rfl⟩ : ∃ lf, bk[i]? = some lf ∧ d = dLf lf := by
        rw [List.getElem?_map] at ed
        cases e : bk[i]? with
        | none => rw [e] at ed; cases ed
        | some l => rw [e] at ed; exact ⟨l, rfl, (Option.some.inj ed).symm⟩
      obtain ⟨t, u1, u2, u3, u4, rfl, ht, t1, _⟩ := dLf_inv (td.nl (NL.of s1))
      obtain ⟨l, rfl, hl⟩ := tpL_inv t1
      have ul : us.length ≤ 120 := by
        rw [tus.len, List.length_map, allP_len, List.length_take]
        have := (List.getElem?_eq_some_iff.mp el).1
        omega
      refine ⟨_, rfl, _, rfl, t, _, 0, _, rfl, rfl, .inl (.inl ht), rfl, (by show 2 ≤ sizeLine; decide), fun p np => ?_⟩
      have s2 := same_upd (o := .tup [.ref l, .int 0]) np
      refine ⟨_, rfl, t, _, 0, _, rfl, rfl, .inl (.inl (s2 _ _ ht)), rfl, (by show 2 ≤ sizeLine; decide), fun p2 np2 => ?_⟩
      have s3 := same_upd (o := .tup [.ref l, .int 1]) np2
      refine ⟨(by show 2 ≤ sizeLine; decide), fun b nb => ?_⟩
      have s4 := same_upd (o := .lst [.ref p, .ref p2]) nb
      have s24 := (s2.trans s3).trans s4
      refine ⟨c, b, us, _, rfl, rfl, s24 _ _ hc, upd_same, (by show us.length + 2 ≤ sizeLine; rw [show sizeLine = 16777216 by decide]; omega), fun c2 nc2 => ?_⟩
      have s5 := same_upd (o := .lst (us ++ [.ref p, .ref p2])) nc2
      have s25 := s24.trans s5
      refine ⟨c2, _, _, rfl, s1.trans s25, upd_same, ?_⟩
      rw [List.take_add_one, el]
      show TpAll _ _ ((allP (bk.take i ++ [lf])).map dP)
      rw [allP_snoc, List.map_append]
      exact (tus.nl (NL.of s25)).app (.cons (tpP (p := (lf.L, 0)) ((s3.trans s4).trans s5 _ _ upd_same) (s25 _ _ hl)) (.cons (tpP (p := (lf.L, 1)) ((s4.trans s5) _ _ upd_same) (s25 _ _ hl)) .nil))
    · rintro σ' H1 ⟨c, us, y, rfl, s1, hc, tus⟩
      rw [len, List.take_length] at tus
      exact ⟨_, rfl, q c us H1 s1 hc tus⟩
theorem ok_told_pages (T : Tab K mg) : FnOk P w K mg base CX0 1 T.f_told_pages T.d_told_pages ["_law_leaves_here", "_law_pairs"] (sp_told_pages K) := by
  refine T.F_told_pages.ok sc_told_pages (fun vs H Q E h => ?_) (fun cdv A outer s H vs Q E hr h => ?_)
  · obtain ⟨a, w0, bk, ps, rfl, _⟩ := h
    rfl
  · obtain ⟨a, w0, bk, ps, rfl, ⟨vs, ha, tp⟩, h60, h100, hw0, q⟩ := h
    obtain ⟨b, us, rfl, hb, tpp⟩ := dRs_inv hw0
    refine ⟨_, (pss_cons (ps_set (i := 2) sc_told_pages.nd rfl (.inl rfl) (pe_lst pa_nil))
      (pss_cons (ps_for PassesOwn.never rfl (pi_list (pv 0)) (pg_name (i := 3) sc_told_pages.nd rfl (.inl rfl))
      (pss_one (ps_for PassesOwn.never rfl (pi_list (pe_lst (pa_cons pe_int (pa_cons pe_int pa_nil)))) (pg_name (i := 4) sc_told_pages.nd rfl (.inl rfl))
        (pss_cons (ps_set (i := 5) sc_told_pages.nd rfl (.inr rfl) (pe_tup (pa_cons (pe_ix ix_tup (pv 3) pe_int (fun _ _ => rfl)) (pa_cons (pv 4) pa_nil))))
          (pss_one (ps_if (PW.pt (pw_and (pt_truth (pe_ix ix_tup (pv 3) (pe_op op_add pe_int (pv 4)) (fun _ _ => rfl)) (fun _ => rfl)) (pw_and1 (pt_truth (pe_lc (own := [("_law_pair", 6)]) (g := gName 6) (by rfl) sc_told_pages.nd (pi_tup (pv 1)) (blkOk_by (own := [("_law_pair", 6)]) (N := N_told_pages) (sc := defScope s_told_pages) (by decide +kernel)) (fun _ _ _ _ _ => pg_name (i := 6) sc_told_pages.nd rfl (.inl rfl)) (fun _ _ _ _ _ => (pts_one (pt_chain (op_leDK (K := K) rfl (un2 hr)) (op_leDK (K := K) rfl (un2 hr)) (pe_ix (ix_tupK (K := K) rfl) (pv 6) pe_int (fun _ _ => rfl)) (pv 5) (pe_ix (ix_tupK (K := K) rfl) (pv 6) pe_int (fun _ _ => rfl))))) (fun _ _ _ _ _ => (pv 6))) (fun _ => rfl)))))
          (pss_one (ps_expr (pe_bm PySem.F.plainAttrs_list PySem.F.slot_list_append PySem.F.type_list_append mt_append (pv 2) (pa_cons (pv 5) pa_nil))))
          pss_nil))))))
      (pss_one (ps_ret (pv 2))))), ?_⟩
    have len := tp.len
    rw [List.length_map] at len
    have lenp := dpAll_len tpp
    rw [List.length_map] at lenp
    refine ⟨Nat.zero_le _, fun D nD => ?_⟩
    have s0 := same_upd (o := .lst []) nD
    have Dn : ∀ {p : Addr} {o : HO}, H p = some o → p ≠ D := fun e => ne_of_none e nD
    refine ⟨_, rfl, a, rfl, ⟨_, .inl (.inl (s0 _ _ ha))⟩, for_list (xs := vs) (fun i σ' H' => ∃ (ws : List V) (y3 y4 y5 : Option V), σ' = [some (.ref a), some (.ref b), some (.ref D), y3, y4, y5, none] ∧ Same H H' ∧ H' D = some (.lst ws) ∧ TpAll H' ws (((shownP (bk.take i)).filter fun p => ps.any (inR p)).map dP)) ⟨[], none, none, none, rfl, s0, upd_same, .nil⟩ (fun i σ' H' _ hh => by obtain ⟨_, _, _, _, _, s, _⟩ := hh; exact .inl (.inl (s _ _ ha))) ?_ ?_⟩
    · rintro i x σ' H1 hx ⟨ws, y3, y4, y5, rfl, s1, hD, tws⟩
      obtain ⟨d, ed, td⟩ := tp.get hx
      obtain ⟨lf, el, rfl⟩ : ∃ lf, bk[i]? = some lf ∧ d = dLf lf := by
        rw [List.getElem?_map] at ed
        cases e : bk[i]? with
        | none => rw [e] at ed; cases ed
        | some l => rw [e] at ed; exact ⟨l, rfl, (Option.some.inj ed).symm⟩
      have il := (List.getElem?_eq_some_iff.mp el).1
      have td0 := td
      obtain ⟨t, u1, u2, u3, u4, rfl, ht, t1, t2, t3⟩ := dLf_inv td0
      obtain ⟨l, rfl, hl⟩ := tpL_inv t1
      obtain ⟨f, rfl, hf⟩ := tpS_inv t2
      obtain ⟨g, rfl, hg⟩ := tpS_inv t3
      refine ⟨by show 2 ≤ sizeLine; decide, fun w nw => ?_⟩
      have sw := same_upd (o := .lst [.int 0, .int 1]) nw
      have hw : upd H1 w (.lst [.int 0, .int 1]) w = some (.lst [.int 0, .int 1]) := upd_same
      have wD : w ≠ D := fun z => by rw [z, hD] at nw; cases nw
      generalize upd H1 w (.lst [.int 0, .int 1]) = H2 at sw hw
      refine ⟨w, rfl, ⟨_, .inl (.inl hw)⟩, for_list (xs := [.int 0, .int 1]) (fun j σ' H' => ∃ (ws : List V) (y4 y5 : Option V), σ' = [some (.ref a), some (.ref b), some (.ref D), some (.ref t), y4, y5, none] ∧ Same H H' ∧ H' w = some (.lst [.int 0, .int 1]) ∧ H' D = some (.lst ws) ∧ ws.length ≤ 120 + j ∧ TpAll H' ws (((shownP (bk.take i)).filter fun p => ps.any (inR p)).map dP ++ ((([0, 1].take j).filterMap (sideF lf)).filter fun p => ps.any (inR p)).map dP)) ⟨ws, y4, y5, rfl, s1.trans sw, hw, sw _ _ hD, ?_, ?_⟩ (fun j σ' H' _ hh => by obtain ⟨_, _, _, _, _, e, _⟩ := hh; exact .inl (.inl e)) ?_ ?_⟩
      · rw [tws.len, List.length_map]
        have h1 := List.length_filter_le (fun p => ps.any (inR p)) (shownP (bk.take i))
        have h2 := shownP_len (bk.take i)
        rw [List.length_take] at h2
        omega
      · rw [List.take_zero, List.filterMap_nil, List.filter_nil, List.map_nil, List.append_nil]
        exact tws.nl (NL.of sw)
      · rintro j y σ' H3 hy ⟨ws3, y4, y5, rfl, s3, hw3, hD3, lw3, tw3⟩
        obtain ⟨c, rfl, hc, hc1, hj2⟩ : ∃ c : Int, y = .int c ∧ [(0 : Int), 1][j]? = some c ∧ (c = 0 ∨ c = 1) ∧ j < 2 := by
          match j, hy with
          | 0, e => cases e; exact ⟨0, rfl, rfl, .inl rfl, by decide⟩
          | 1, e => cases e; exact ⟨1, rfl, rfl, .inr rfl, by decide⟩
          | j + 2, e => cases e
        have stp : ([0, 1].take (j + 1)).filterMap (sideF lf) = ([0, 1].take j).filterMap (sideF lf) ++ (sideF lf c).toList := fm_step hc
        refine ⟨_, rfl, t, _, 0, _, rfl, rfl, .inl (.inl (s3 _ _ ht)), rfl, _, rfl, (by show 2 ≤ sizeLine; decide), fun p np => ?_⟩
        have s4 := same_upd (o := .tup [.ref l, .int c]) np
        have s34 := s3.trans s4
        have hp : Tp (upd H3 p (.tup [.ref l, .int c])) (.ref p) (dP (lf.L, c)) := tpP (p := (lf.L, c)) upd_same (s34 _ _ hl)
        generalize upd H3 p (.tup [.ref l, .int c]) = H4 at s4 s34 hp
        obtain ⟨rw_, eat, hrow⟩ : ∃ r : Addr, atI [V.ref l, .ref f, .ref g, u4] (1 + c) = some (.ref r) ∧ H r = some (.tup ((if c = 1 then lf.bk else lf.fr).map V.str)) := by
          rcases hc1 with rfl | rfl
          · exact ⟨f, rfl, hf⟩
          · exact ⟨g, rfl, hg⟩
        have no : sideF lf c = none ∨ (∀ pg, sideF lf c = some pg → ps.any (inR pg) = false) → ∀ H5, Same H4 H5 → ∃ (ws : List V) (y4 y5 : Option V), ([some (.ref a), some (.ref b), some (.ref D), some (.ref t), some (.int c), some (.ref p), none] : L2.St) = [some (.ref a), some (.ref b), some (.ref D), some (.ref t), y4, y5, none] ∧ Same H H5 ∧ H5 w = some (.lst [.int 0, .int 1]) ∧ H5 D = some (.lst ws) ∧ ws.length ≤ 120 + (j + 1) ∧ TpAll H5 ws (((shownP (bk.take i)).filter fun p => ps.any (inR p)).map dP ++ ((([0, 1].take (j + 1)).filterMap (sideF lf)).filter fun p => ps.any (inR p)).map dP) := fun h H5 s5 => by
          refine ⟨ws3, _, _, rfl, s34.trans s5, s5 _ _ (s4 _ _ hw3), s5 _ _ (s4 _ _ hD3), by omega, ?_⟩
          rw [stp, List.filter_append, List.map_append]
          have e : ((sideF lf c).toList.filter fun p => ps.any (inR p)) = [] := by
            cases hs : sideF lf c with
            | none => rfl
            | some pg =>
              rcases h with h | h
              · rw [h] at hs; cases hs
              · show List.filter _ [pg] = []
                rw [List.filter_cons_of_neg (by rw [h pg hs]; decide)]
                rfl
          rw [e, List.map_nil, List.append_nil]
          exact tw3.nl (NL.of (s4.trans s5))
        refine ⟨_, rfl, _, rfl, _, _, rfl, rfl, t, _, _, _, rfl, rfl, .inl (.inl (s34 _ _ ht)), eat, _, tru_tup (.inl (.inl (s34 _ _ hrow))), ?_⟩
        cases hs : sideF lf c with
        | none =>
          rw [sideF_none hs]
          exact iteF (no (.inl hs) _ (Same.refl H4))
        | some pg =>
          obtain ⟨e, rfl⟩ := sideF_some hs
          have e2 : (!(List.map V.str (if c = 1 then lf.bk else lf.fr)).isEmpty) = true := by
            cases q : (if c = 1 then lf.bk else lf.fr) with
            | nil => exact absurd q e
            | cons u w => rfl
          rw [e2]
          have hb4 := same_seqT s34 hb
          refine iteT ⟨_, rfl, b, rfl, ⟨_, hb4⟩, fun E1 nE => ?_⟩
          have lz0 : (ps.zip us).length = us.length := by rw [List.length_zip]; omega
          refine lc_fm (ps.zip us) (fun z => if inR (lf.L, c) z.1 = true then some z.2 else none) (walkT (xs := us) lz0.symm) nE (fun H h => same_seqT h hb4) (by omega) ?_ ?_
          · rintro k ⟨r, v⟩ y H5x H5 er sm ⟨rfl, hy5⟩ R N hR hN
            rw [List.getElem?_zip_eq_some] at er
            obtain ⟨er, ev⟩ := er
            simp only at er ev
            rw [ev] at hy5
            cases hy5
            obtain ⟨d2, ed2, dy⟩ := dpAll_get tpp ev
            rw [List.getElem?_map, er] at ed2
            cases ed2
            have dy5 := dp_same (s34.trans sm) dy
            obtain ⟨ra, x1, x2, rfl, hra, h1, h2⟩ := dR_inv dy5
            have hp5 := hp.nl (NL.of sm)
            refine ⟨rfl, ?_⟩
            have iv : inR (lf.L, c) r = (leP r.1 (lf.L, c) && leP (lf.L, c) r.2) := rfl
            refine ⟨_, rfl, ra, _, 0, _, rfl, rfl, hra, rfl, _, rfl, _, _, h1, hp5.dp, alike_P _ _, (fun z => nomatch z), Nat.le_trans (depthP _) (by decide), leP r.1 (lf.L, c), rfl, ?_⟩
            cases e1 : leP r.1 (lf.L, c) with
            | false =>
              rw [e1] at iv
              exact iteF ⟨_, rfl, iteF (hN (if_neg (by rw [iv]; simp)) _ (Same.refl _))⟩
            | true =>
              rw [e1] at iv
              refine iteT ⟨_, rfl, ra, _, 1, _, rfl, rfl, hra, rfl, _, _, hp5.dp, h2, alike_P _ _, (fun z => nomatch z), Nat.le_trans (depthP _) (by decide), leP (lf.L, c) r.2, rfl, ?_⟩
              cases e3 : leP (lf.L, c) r.2 with
              | false =>
                rw [e3] at iv
                exact iteF (hN (if_neg (by rw [iv]; simp)) _ (Same.refl _))
              | true =>
                rw [e3] at iv
                exact iteT ⟨_, rfl, hR _ (if_pos (by rw [iv]; rfl)) _ (Same.refl _)⟩
          · rintro H5 sm eE
            rw [fm_filter] at eE
            refine ⟨_, tru_lst (.inl (.inl eE)), ?_⟩
            have ea := zip_any (inR (lf.L, c)) (f := fun z : (Pg × Pg) × V => z.2) ps us lenp.symm
            cases e : ps.any (inR (lf.L, c)) with
            | false =>
              rw [ea, e]
              exact iteF (no (.inr fun pg h => by rw [hs] at h; cases h; exact e) _ sm)
            | true =>
              rw [ea, e]
              refine iteT ?_
              have s5 := s34.trans sm
              have hD5 := sm _ _ (s4 _ _ hD3)
              have m := (NL.of sm).put hD5 (.lst (ws3 ++ [.ref p]))
              refine ⟨_, rfl, .inl ⟨rfl, _, .inl (.inl hD5)⟩, _, rfl, D, ws3, _, rfl, rfl, hD5, small1000 (by omega), ws3 ++ [.ref p], _, _, rfl, same_put s5 nD _, ?_, upd_same, by rw [List.length_append]; show _ + 1 ≤ _; omega, ?_⟩
              · rw [upd_ne wD]; exact sm _ _ (s4 _ _ hw3)
              · rw [stp, hs, List.filter_append, List.map_append, ← List.append_assoc]
                show TpAll _ _ (_ ++ ([(lf.L, c)].filter fun p => ps.any (inR p)).map dP)
                rw [List.filter_cons_of_pos (by exact e)]
                exact ((tw3.nl (NL.of s4)).nl m).snoc (hp.nl m)
      · rintro σ' H3 ⟨ws3, y4, y5, rfl, s3, _, hD3, _, tw3⟩
        refine ⟨ws3, _, _, _, rfl, s3, hD3, ?_⟩
        rw [List.take_add_one, el]
        show TpAll H3 ws3 (((shownP (bk.take i ++ [lf])).filter fun p => ps.any (inR p)).map dP)
        rw [shownP_snoc, List.filter_append, List.map_append, sideP_eq]
        exact tw3
    · rintro σ' H1 ⟨ws, y3, y4, y5, rfl, s1, hD, tws⟩
      rw [len, List.take_length] at tws
      exact ⟨_, rfl, q D ws H1 s1 hD tws⟩
theorem ok_with_rows (T : Tab K mg) : FnOk P w K mg base CX0 1 T.f_with_rows T.d_with_rows ["_law_leaves_here"] (sp_with_rows K) := by
  refine T.F_with_rows.ok sc_with_rows (fun vs H Q E h => ?_) (fun cdv A outer s H vs Q E hr h => ?_)
  · obtain ⟨a, bk, rfl, _⟩ := h
    rfl
  · obtain ⟨a, bk, rfl, ⟨vs, ha, tp⟩, ok, q⟩ := h
    refine ⟨_, (pss_cons (ps_set (i := 1) sc_with_rows.nd rfl (.inl rfl) (pe_lst pa_nil))
      (pss_cons (ps_for PassesOwn.never rfl (pi_list (pv 0)) (pg_name (i := 2) sc_with_rows.nd rfl (.inl rfl))
      (pss_one (ps_for PassesOwn.never rfl (pi_list (pe_lst (pa_cons pe_int (pa_cons pe_int pa_nil)))) (pg_name (i := 3) sc_with_rows.nd rfl (.inl rfl))
        (pss_one (ps_if (pt_truth (pe_ix ix_tup (pv 2) (pe_op op_add pe_int (pv 3)) (fun _ _ => rfl)) (fun _ => rfl))
          (pss_one (ps_expr (pe_bm PySem.F.plainAttrs_list PySem.F.slot_list_append PySem.F.type_list_append mt_append (pv 1) (pa_cons (pe_tup (pa_cons (pe_ix ix_tup (pv 2) pe_int (fun _ _ => rfl)) (pa_cons (pv 3) pa_nil))) pa_nil))))
          pss_nil)))))
      (pss_one (ps_ret (pv 1))))), ?_⟩
    have len := tp.len
    rw [List.length_map] at len
    have h60 := ok.1
    refine ⟨Nat.zero_le _, fun D nD => ?_⟩
    have s0 := same_upd (o := .lst []) nD
    have Dn : ∀ {p : Addr} {o : HO}, H p = some o → p ≠ D := fun e => ne_of_none e nD
    refine ⟨_, rfl, a, rfl, ⟨_, .inl (.inl (s0 _ _ ha))⟩, for_list (xs := vs) (fun i σ' H' => ∃ (ws : List V) (y2 y3 : Option V), σ' = [some (.ref a), some (.ref D), y2, y3] ∧ Same H H' ∧ H' D = some (.lst ws) ∧ TpAll H' ws ((shownP (bk.take i)).map dP)) ⟨[], none, none, rfl, s0, upd_same, .nil⟩ (fun i σ' H' _ hh => by obtain ⟨_, _, _, _, s, _⟩ := hh; exact .inl (.inl (s _ _ ha))) ?_ ?_⟩
    · rintro i x σ' H1 hx ⟨ws, y2, y3, rfl, s1, hD, tws⟩
      obtain ⟨lf, el, td⟩ := lv_get tp hx
      have il := (List.getElem?_eq_some_iff.mp el).1
      obtain ⟨t, u1, u2, u3, u4, rfl, ht, t1, t2, t3⟩ := dLf_inv td
      obtain ⟨l, rfl, hl⟩ := tpL_inv t1
      obtain ⟨f, rfl, hf⟩ := tpS_inv t2
      obtain ⟨g, rfl, hg⟩ := tpS_inv t3
      refine ⟨by show 2 ≤ sizeLine; decide, fun w nw => ?_⟩
      have sw := same_upd (o := .lst [.int 0, .int 1]) nw
      have hw : upd H1 w (.lst [.int 0, .int 1]) w = some (.lst [.int 0, .int 1]) := upd_same
      have wD : w ≠ D := fun z => by rw [z, hD] at nw; cases nw
      generalize upd H1 w (.lst [.int 0, .int 1]) = H2 at sw hw
      refine ⟨w, rfl, ⟨_, .inl (.inl hw)⟩, for_list (xs := [.int 0, .int 1]) (fun j σ' H' => ∃ (ws : List V) (y3 : Option V), σ' = [some (.ref a), some (.ref D), some (.ref t), y3] ∧ Same H H' ∧ H' w = some (.lst [.int 0, .int 1]) ∧ H' D = some (.lst ws) ∧ ws.length ≤ 120 + j ∧ TpAll H' ws ((shownP (bk.take i)).map dP ++ (([0, 1].take j).filterMap (sideF lf)).map dP)) ⟨ws, y3, rfl, s1.trans sw, hw, sw _ _ hD, ?_, ?_⟩ (fun j σ' H' _ hh => by obtain ⟨_, _, _, _, e, _⟩ := hh; exact .inl (.inl e)) ?_ ?_⟩
      · rw [tws.len, List.length_map]
        have h2 := shownP_len (bk.take i)
        rw [List.length_take] at h2
        omega
      · rw [List.take_zero, List.filterMap_nil, List.map_nil, List.append_nil]
        exact tws.nl (NL.of sw)
      · rintro j y σ' H3 hy ⟨ws3, y3, rfl, s3, hw3, hD3, lw3, tw3⟩
        obtain ⟨c, rfl, hc, hc1, hj2⟩ : ∃ c : Int, y = .int c ∧ [(0 : Int), 1][j]? = some c ∧ (c = 0 ∨ c = 1) ∧ j < 2 := by
          match j, hy with
          | 0, e => cases e; exact ⟨0, rfl, rfl, .inl rfl, by decide⟩
          | 1, e => cases e; exact ⟨1, rfl, rfl, .inr rfl, by decide⟩
          | j + 2, e => cases e
        have stp : ([0, 1].take (j + 1)).filterMap (sideF lf) = ([0, 1].take j).filterMap (sideF lf) ++ (sideF lf c).toList := fm_step hc
        obtain ⟨rw_, eat, hrow⟩ : ∃ r : Addr, atI [V.ref l, .ref f, .ref g, u4] (1 + c) = some (.ref r) ∧ H r = some (.tup ((if c = 1 then lf.bk else lf.fr).map V.str)) := by
          rcases hc1 with rfl | rfl
          · exact ⟨f, rfl, hf⟩
          · exact ⟨g, rfl, hg⟩
        refine ⟨_, rfl, _, rfl, _, _, rfl, rfl, t, _, _, _, rfl, rfl, .inl (.inl (s3 _ _ ht)), eat, _, tru_tup (.inl (.inl (s3 _ _ hrow))), ?_⟩
        cases hs : sideF lf c with
        | none =>
          rw [sideF_none hs]
          refine iteF ⟨ws3, _, rfl, s3, hw3, hD3, by omega, ?_⟩
          rw [stp, hs]
          show TpAll H3 ws3 (_ ++ (_ ++ []).map dP)
          rw [List.append_nil]
          exact tw3
        | some pg =>
          obtain ⟨e, rfl⟩ := sideF_some hs
          have e2 : (!(List.map V.str (if c = 1 then lf.bk else lf.fr)).isEmpty) = true := by
            cases q : (if c = 1 then lf.bk else lf.fr) with
            | nil => exact absurd q e
            | cons u w => rfl
          rw [e2]
          refine iteT ⟨_, rfl, .inl ⟨rfl, _, .inl (.inl hD3)⟩, _, rfl, t, _, 0, _, rfl, rfl, .inl (.inl (s3 _ _ ht)), rfl, _, rfl, (by show 2 ≤ sizeLine; decide), fun p np => ?_⟩
          have s4 := same_upd (o := .tup [.ref l, .int c]) np
          have hp : Tp (upd H3 p (.tup [.ref l, .int c])) (.ref p) (dP (lf.L, c)) := tpP (p := (lf.L, c)) upd_same ((s3.trans s4) _ _ hl)
          have hD4 := s4 _ _ hD3
          have m := (NL.refl _).put hD4 (.lst (ws3 ++ [.ref p]))
          refine ⟨D, ws3, _, rfl, rfl, hD4, small1000 (by omega), ws3 ++ [.ref p], _, rfl, same_put (s3.trans s4) nD _, ?_, upd_same, by rw [List.length_append]; show _ + 1 ≤ _; omega, ?_⟩
          · rw [upd_ne wD]; exact s4 _ _ hw3
          · rw [stp, hs, List.map_append, ← List.append_assoc]
            exact ((tw3.nl (NL.of s4)).nl m).snoc (hp.nl m)
      · rintro σ' H3 ⟨ws3, y3, rfl, s3, _, hD3, _, tw3⟩
        refine ⟨ws3, _, _, rfl, s3, hD3, ?_⟩
        rw [List.take_add_one, el]
        show TpAll H3 ws3 ((shownP (bk.take i ++ [lf])).map dP)
        rw [shownP_snoc, List.map_append, sideP_eq]
        exact tw3
    · rintro σ' H1 ⟨ws, y2, y3, rfl, s1, hD, tws⟩
      rw [len, List.take_length] at tws
      exact ⟨_, rfl, q D ws H1 s1 nD hD tws⟩
theorem ok_stranger (T : Tab K mg) : FnOk P w K mg base CX0 1 T.f_stranger T.d_stranger ["_law_leaves_here"] (sp_stranger K) := by
  refine T.F_stranger.ok sc_stranger (fun vs H Q E h => ?_) (fun cdv A outer s H vs Q E hr h => ?_)
  · obtain ⟨a, bk, rfl, _⟩ := h
    rfl
  · obtain ⟨a, bk, rfl, ⟨vs, ha, tp⟩, h60, q⟩ := h
    refine ⟨_, (pss_cons (ps_set (i := 1) sc_stranger.nd rfl (.inr rfl) (pe_lc (own := [("_law_one", 3)]) (g := gName 3) (by rfl) sc_stranger.nd (pi_list (pv 0)) (blkOk_by (own := [("_law_one", 3)]) (N := N_stranger) (sc := defScope s_stranger) (by decide +kernel)) (fun _ _ _ _ _ => pg_name (i := 3) sc_stranger.nd rfl (.inl rfl)) (fun _ _ _ _ _ => pts_nil) (fun _ _ _ _ _ => (pe_ix (ix_tupK (K := K) rfl) (pv 3) pe_int (fun _ _ => rfl)))))
      (pss_cons (ps_setLc (i := 2) (own := [("_law_step", 4)]) (g := gName 4) (by rfl) sc_stranger.nd rfl rfl (sw_true rfl rfl rfl (by decide +kernel)) (pi_range1 (by rfl) T.m_range (pa_cons pe_int pa_nil)) (blkOk_by (own := [("_law_step", 4)]) (N := N_stranger) (sc := defScope s_stranger) (by decide +kernel)) (fun _ _ _ _ _ => pg_name (i := 4) sc_stranger.nd rfl (.inl rfl)) (fun _ _ _ _ _ => (pts_one (pt_cmpR (op_notInDDK (K := K) rfl (un2 hr)) (pe_tup (pa_cons (pe_op op_sub pe_int (pv 4)) pa_nil)) (pv 1) (by rfl)))) (fun _ _ _ _ _ => (pe_tup (pa_cons (pe_op op_sub pe_int (pv 4)) pa_nil))))
      (pss_one (ps_ret (pe_ix ix_list (pv 2) pe_int (fun _ _ => rfl)))))), ?_⟩
    have len := tp.len
    rw [List.length_map] at len
    refine ⟨_, rfl, a, rfl, ⟨_, .inl (.inl ha)⟩, fun D nD => ?_⟩
    refine lc_tp bk (fun l => some (dL l.L)) (walkL (xs := vs) len) nD (fun H h => .inl (.inl (h _ _ ha))) (by omega) ?_ ?_
    · rintro i lf y H4x H4 er sm ⟨rfl, hy⟩ R N hR hN
      obtain ⟨lf', el, td⟩ := lv_get tp hy
      rw [er] at el
      cases el
      obtain ⟨t, u1, u2, u3, u4, rfl, ht, t1, _⟩ := dLf_inv (td.nl (NL.of sm))
      exact ⟨rfl, _, rfl, t, _, 0, _, rfl, rfl, .inl (.inl ht), rfl, hR _ _ rfl _ (Same.refl _) t1⟩
    rintro H1 us s1 eD1 tu
    rw [map_fm] at tu
    have kl : TpAll H1 us ((bk.map (·.L)).map dL) := by rw [List.map_map]; exact tu
    refine ⟨_, rfl, by omega, by omega, fun D2 nD2 => ?_⟩
    refine lc_range (lo := 0) (n := 99) (fun j H' => Same H1 H' ∧ ∃ ws, H' D2 = some (.lst ws) ∧ TpAll H' ws ((freeK (bk.map (·.L)) j).map fun (i : Nat) => dL [(99 : Int) - (i : Int)])) ⟨same_upd nD2, [], upd_same, .nil⟩ ?_ ?_
    · rintro j H2 hj ⟨s2, ws, eD2, tw⟩
      have hj : j < 99 := hj
      refine ⟨rfl, ?_⟩
      have lw : ws.length ≤ 99 := by
        rw [tw.len, List.length_map]
        have := List.length_filter_le (fun (i : Nat) => decide ([(99 : Int) - (i : Int)] ∉ bk.map (·.L))) (List.range j)
        rw [List.length_range] at this
        unfold freeK
        omega
      refine ⟨_, rfl, _, _, rfl, rfl, (by show 1 ≤ sizeLine; decide), fun p np => ?_⟩
      have s3 := same_upd (o := .tup [.int (99 - (0 + (j : Int)))]) np
      have hp : Tp (upd H2 p (.tup [.int (99 - (0 + (j : Int)))])) (.ref p) (dL [(99 : Int) - (j : Int)]) := tpL (L := [(99 : Int) - (j : Int)]) (by rw [upd_same, Int.zero_add]; rfl)
      generalize upd H2 p (.tup [.int (99 - (0 + (j : Int)))]) = H3 at s3 hp
      have s23 := s2.trans s3
      refine ⟨_, rfl, dL [(99 : Int) - (j : Int)], (bk.map (·.L)).map dL, hp.dp, .inl (.lst (.inl (.inl (s23 _ _ eD1))) (kl.nl (NL.of s23)).dp), shaped_L _, pn_Ls, decide ([(99 : Int) - (j : Int)] ∉ bk.map (·.L)), congrArg V.bl ?_, ?_⟩
      · rw [in_L, Bool.true_bne, ← decide_not]
      refine ite2 (fun e => ?_) (fun e => ?_)
      · refine ⟨_, rfl, _, _, rfl, rfl, (by show 1 ≤ sizeLine; decide), fun t nt => ?_⟩
        have s4 := same_upd (o := .tup [.int (99 - (0 + (j : Int)))]) nt
        have ht : Tp (upd H3 t (.tup [.int (99 - (0 + (j : Int)))])) (.ref t) (dL [(99 : Int) - (j : Int)]) := tpL (L := [(99 : Int) - (j : Int)]) (by rw [upd_same, Int.zero_add]; rfl)
        generalize upd H3 t (.tup [.int (99 - (0 + (j : Int)))]) = H4 at s4 ht
        have e4 := (s3.trans s4) _ _ eD2
        have m := (NL.refl H4).put e4 (.lst (ws ++ [.ref t]))
        refine ⟨ws, e4, small1000 (by omega), same_put (s23.trans s4) nD2 _, ws ++ [.ref t], upd_same, ?_⟩
        rw [freeK_succ, if_pos e, List.map_append]
        exact ((tw.nl (NL.of (s3.trans s4))).nl m).snoc (ht.nl m)
      · refine ⟨s23, ws, s3 _ _ eD2, ?_⟩
        rw [freeK_succ, if_neg e, List.append_nil]
        exact tw.nl (NL.of s3)
    · rintro H2 ⟨s2, ws, eD2, tw⟩
      have ne := freeK_ne (Ls := bk.map (·.L)) (by rw [List.length_map]; exact h60)
      obtain ⟨i, r, ei⟩ : ∃ i r, freeK (bk.map (·.L)) 99 = i :: r := by
        cases e : freeK (bk.map (·.L)) 99 with
        | nil => exact absurd e ne
        | cons i r => exact ⟨i, r, rfl⟩
      have hi := freeK_mem (n := 99) (by rw [ei]; exact List.mem_cons_self ..)
      have hn : [(99 : Int) - (i : Int)] ∉ bk.map (·.L) := of_decide_eq_true (List.mem_filter.mp (show i ∈ freeK (bk.map (·.L)) 99 by rw [ei]; exact List.mem_cons_self ..)).2
      have tw : TpAll H2 ws ((freeK (bk.map (·.L)) 99).map fun (i : Nat) => dL [(99 : Int) - (i : Int)]) := tw
      rw [ei] at tw
      cases tw with
      | cons th tr =>
        obtain ⟨p, rfl, hp⟩ := tpL_inv th
        exact ⟨_, rfl, D2, _, 0, .ref p, rfl, rfl, .inl (.inl eD2), at_of' (j := 0) rfl rfl, q p _ H2 (s1.trans s2) hp (by omega) (by omega) hn⟩
theorem ok_truths (T : Tab K mg) : FnOk P w K mg base CX0 1 T.f_truths T.d_truths ["_law_label_here"] (sp_truths K) := by
  refine T.F_truths.ok sc_truths (fun vs H Q E h => ?_) (fun cdv A outer s H vs Q E hr h => ?_)
  · obtain ⟨a, L, rfl, _⟩ := h
    rfl
  · obtain ⟨a, L, rfl, ha, hL, q⟩ := h
    refine ⟨_, (pss_one (ps_ret (pe_callTy call_tuple_of (by rfl) T.m_tuple (by decide +kernel) (pa_cons (pe_lc (own := [("_law_part", 1)]) (g := gName 1) (by rfl) sc_truths.nd (pi_tup (pv 0)) (blkOk_by (own := [("_law_part", 1)]) (N := N_truths) (sc := defScope s_truths) (by decide +kernel)) (fun _ _ _ _ _ => pg_name (i := 1) sc_truths.nd rfl (.inl rfl)) (fun _ _ _ _ _ => pts_nil) (fun _ _ _ _ _ => (pe_ix (ix_listK (K := K) rfl) (pe_lst (pa_cons pe_bl (pa_cons pe_bl (pa_cons (pv 1) pa_nil)))) (pe_callB (call_min2 rfl) (by rfl) T.m_min (by decide +kernel) (pa_cons (pv 1) (pa_cons pe_int pa_nil))) (fun _ _ => rfl)))) pa_nil)))), ?_⟩
    refine ⟨_, rfl, a, rfl, ⟨_, ha⟩, fun D nD => ?_⟩
    refine lc_dp (K := K) L (fun i => some (trD i)) (fun d e h => by cases h; exact nl_tr _) (walkT (xs := L.map V.int) (List.length_map ..)) nD (fun H h => same_seqT h ha) (by have := hL.1; omega) ?_ ?_
    · rintro i x y H4x H4 er sm ⟨rfl, hy⟩ R N hR hN
      rw [List.getElem?_map, er] at hy
      cases hy
      have hx := hL.2.2 x (List.mem_of_getElem? er)
      refine ⟨rfl, ?_⟩
      refine ⟨_, rfl, (by show 3 ≤ sizeLine; decide), fun w nw => ?_⟩
      have sw := same_upd (o := .lst [.bl false, .bl true, .int x]) nw
      have hw : ∀ (j : Nat) (v : V), ([V.bl false, V.bl true, V.int x] : List V)[j]? = some v → Dp K (upd H4 w (.lst [.bl false, .bl true, .int x])) v (trD x) → (if (2 : Int) < x then (2 : Int) else x) = (j : Int) → ∃ c xs z u, V.ref w = .ref c ∧ V.int (if (2 : Int) < x then (2 : Int) else x) = .int z ∧ (SqL K (upd H4 w (.lst [.bl false, .bl true, .int x])) c xs) ∧ atI xs z = some u ∧ R u (upd H4 w (.lst [.bl false, .bl true, .int x])) := fun j v e hd ej =>
        ⟨w, _, _, v, rfl, rfl, .inl (.inl upd_same), at_of' ej e, hR v _ rfl _ sw hd⟩
      refine ⟨_, rfl, _, _, rfl, ?_⟩
      by_cases h0 : x = 0
      · subst h0
        exact hw 0 _ rfl (.bl false) rfl
      · by_cases h1 : x = 1
        · subst h1
          exact hw 1 _ rfl (.bl true) rfl
        · have e2 : trD x = .int x := by unfold trD; rw [if_neg h0, if_neg h1]
          refine hw 2 _ rfl (by rw [e2]; exact .int x) ?_
          split <;> omega
    · rintro H1 us s1 eD du
      have du : DpAll K H1 us (L.filterMap fun i => some (trD i)) := du
      rw [List.filterMap_eq_map'] at du
      refine ⟨D, us, rfl, .inl ⟨.inl (.inl eD), fun t nt => ?_⟩⟩
      have st := same_upd (o := .tup us) nt
      exact q t _ (s1.trans st) (.tup (.inl (.inl upd_same)) (dpAll_same st du))
theorem ok_is_within (T : Tab K mg) : FnOk P w K mg base CX0 2 T.f_is_within T.d_is_within ["thing", "least", "most"] (sp_is_within K) := by
  refine T.F_is_within.ok sc_is_within (fun vs H Q E h => ?_) (fun cdv A outer s H vs Q E hr h => ?_)
  · obtain ⟨v, d, l, m, rfl, _⟩ := h
    rfl
  · obtain ⟨v, d, l, m, rfl, hd, q⟩ := h
    refine ⟨_, (pss_one (ps_ret (pe_and (pe_call (ok_is_integer T) (hr.mono (by decide)) (by rfl) T.g_is_integer T.F_is_integer.kp T.b_is_integer .nil pass0 (pa_cons (pv 0) pa_nil)) (pe_one (pe_chain op_le op_le (pv 1) (pv 0) (pv 2)))))), ?_⟩
    refine ⟨_, rfl, _, d, rfl, hd, ?_⟩
    cases hd with
    | int i =>
      refine ⟨true, rfl, iteT ?_⟩
      refine ⟨_, rfl, _, rfl, _, _, rfl, rfl, _, rfl, ite2 (fun e => ?_) (fun e => ?_)⟩
      · have h1 : l ≤ i := of_decide_eq_true e
        refine ⟨_, rfl, _, _, rfl, rfl, ?_⟩
        have : wI l m (.int i) = decide (i ≤ m) := by
          show decide (l ≤ i ∧ i ≤ m) = _
          simp [h1]
        rw [this] at q
        exact q
      · have h1 : ¬ l ≤ i := fun h => e (decide_eq_true h)
        have : wI l m (.int i) = false := by
          show decide (l ≤ i ∧ i ≤ m) = _
          simp [h1]
        rw [this] at q
        exact q
    | non => exact ⟨false, rfl, q⟩
    | bl b => exact ⟨false, rfl, q⟩
    | str z => exact ⟨false, rfl, q⟩
    | lst h _ => exact ⟨false, rfl, q⟩
    | tup h _ => exact ⟨false, rfl, q⟩
theorem ok_is_sized (T : Tab K mg) : FnOk P w K mg base CX0 2 T.f_is_sized T.d_is_sized ["thing", "least", "most"] (sp_is_sized K) := by
  refine T.F_is_sized.ok sc_is_sized (fun vs H Q E h => ?_) (fun cdv A outer s H vs Q E hr h => ?_)
  · obtain ⟨v, d, l, m, rfl, _⟩ := h
    rfl
  · obtain ⟨v, d, l, m, rfl, hd, q⟩ := h
    refine ⟨_, (pss_one (ps_ret (pe_and (pe_call (ok_is_tuple T) (hr.mono (by decide)) (by rfl) T.g_is_tuple T.F_is_tuple.kp T.b_is_tuple .nil pass0 (pa_cons (pv 0) pa_nil)) (pe_one (pe_chain op_le op_le (pv 1) (pe_callB call_len_seq (by rfl) T.m_len PySem.boot_len (pa_cons (pv 0) pa_nil)) (pv 2)))))), ?_⟩
    refine ⟨_, rfl, _, d, rfl, .inl ⟨hd, fun H1 s1 => ?_⟩⟩
    have q1 := q H1 s1
    have cut : ∀ ds : List PyData, items d = some ds → ∀ e : Bool, (l ≤ (ds.length : Int)) → (decide ((ds.length : Int) ≤ m) = e) → sz l m d = e := fun ds hi e h1 h2 => by
      unfold sz
      rw [hi]
      simp only
      rw [← h2]
      simp [h1]
    have cut0 : ∀ ds : List PyData, items d = some ds → ¬ (l ≤ (ds.length : Int)) → sz l m d = false := fun ds hi h1 => by
      unfold sz
      rw [hi]
      simp [h1]
    cases hd with
    | lst h k =>
      rename_i a xs ds
      have el := dpAll_len k
      refine ⟨true, rfl, iteT ?_⟩
      refine ⟨_, rfl, _, rfl, _, _, rfl, .inl (s1.seq h), _, _, rfl, rfl, _, rfl, ite2 (fun e => ?_) (fun e => ?_)⟩
      · have h1 := of_decide_eq_true e
        rw [el] at h1 ⊢
        refine ⟨_, rfl, _, _, rfl, rfl, ?_⟩
        rw [cut ds rfl _ h1 rfl] at q1
        exact q1
      · have h1 : ¬ (l ≤ (ds.length : Int)) := fun z => e (by rw [el]; exact decide_eq_true z)
        rw [cut0 ds rfl h1] at q1
        exact q1
    | tup h k =>
      rename_i a xs ds
      have el := dpAll_len k
      refine ⟨true, rfl, iteT ?_⟩
      refine ⟨_, rfl, _, rfl, _, _, rfl, .inr (same_seqT s1 h), _, _, rfl, rfl, _, rfl, ite2 (fun e => ?_) (fun e => ?_)⟩
      · have h1 := of_decide_eq_true e
        rw [el] at h1 ⊢
        refine ⟨_, rfl, _, _, rfl, rfl, ?_⟩
        rw [cut ds rfl _ h1 rfl] at q1
        exact q1
      · have h1 : ¬ (l ≤ (ds.length : Int)) := fun z => e (by rw [el]; exact decide_eq_true z)
        rw [cut0 ds rfl h1] at q1
        exact q1
    | non => exact ⟨false, rfl, q1⟩
    | bl b => exact ⟨false, rfl, q1⟩
    | int i => exact ⟨false, rfl, q1⟩
    | str z => exact ⟨false, rfl, q1⟩
theorem ok_shown_pages (T : Tab K mg) : FnOk P w K mg base CX0 2 T.f_shown_pages T.d_shown_pages ["book"] (sp_shown_pages K T.C_Leaf T.C_Book) := by
  refine T.F_shown_pages.ok sc_shown_pages (fun vs H Q E h => ?_) (fun cdv A outer s H vs Q E hr h => ?_)
  · obtain ⟨v, bk, rfl, _⟩ := h
    rfl
  · obtain ⟨v, bk, rfl, ⟨x, dx, l, s, vs, rfl, hx, hl, hf, _, h60⟩, q⟩ := h
    refine ⟨_, (pss_one (ps_ret (pe_callTy call_tuple_of (by rfl) T.m_tuple (by decide +kernel) (pa_cons (pe_lc2 (own := [("leaf", 1), ("side", 2)]) (vs1 := [2]) (g := gName 1) (g1 := gName 2) (by rfl) sc_shown_pages.nd (pi_ownI (ok_Book_iter T) T.g_Book_iter T.fn_Book_iter T.b_Book_iter (hr.mono (by decide)) (pv 0)) (blkOk_by (own := [("leaf", 1), ("side", 2)]) (N := N_shown_pages) (sc := defScope s_shown_pages) (by decide +kernel)) (by decide) (fun _ _ _ _ _ => pg_name (i := 1) sc_shown_pages.nd rfl (.inl rfl)) (fun _ _ _ _ _ => pts_nil) (fun _ _ _ _ _ => (pi_tupK (K := K) rfl (pe_tup (pa_cons pe_int (pa_cons pe_int pa_nil))))) (fun _ _ _ _ _ => pg_name (i := 2) sc_shown_pages.nd rfl (.inl rfl)) (fun _ _ _ _ _ => (pts_one (pt_truthK (K := K) rfl (pe_meth (pv 1) T.cl_Leaf ⟨T.g_Leaf_side_rows, T.fn_Leaf_side_rows, T.F_Leaf_side_rows.kp⟩ (ok_Leaf_side_rows T) (hr.mono (by decide)) T.b_Leaf_side_rows .nil pass0 (pa_cons (pv 2) pa_nil)) (fun _ => rfl)))) (fun _ _ _ _ _ => (pe_tup (pa_cons (pe_fldK (K := K) rfl (pv 1) rfl) (pa_cons (pv 2) pa_nil))))) pa_nil)))), ?_⟩
    have len := hf.len
    refine ⟨_, rfl, x, dx, l, _, vs, rfl, hx, fBk_leaves, .inl (.inl hl), fun D nD => ?_⟩
    refine lc2_it (walkT (xs := vs) rfl) (fun i H' => Same H H' ∧ ∃ us, H' D = some (.lst us) ∧ TpAll H' us ((shownP (bk.take i)).map dP)) ⟨same_upd nD, [], upd_same, .nil⟩ (fun _ H' _ h => .inl (.inl (h.1 _ _ hl))) ?_ ?_
    · rintro i y H3x H3 hi ⟨sm, us, eD, tp⟩ ⟨rfl, hy⟩
      obtain ⟨lf, el, hlf⟩ := hf.get hy
      have lf3 := LfAt.nl (NL.of sm) hlf
      obtain ⟨z, dz, la, f, b, pn, st, rfl, hz, hL, _⟩ := id lf3
      refine ⟨rfl, ?_⟩
      have ul : us.length ≤ 120 := by
        have := shownP_len (bk.take i)
        rw [tp.len, List.length_map]
        rw [List.length_take] at this
        omega
      refine ⟨(by show 2 ≤ sizeLine; decide), fun t nt => ⟨t, rfl, ⟨_, .inl (.inl upd_same)⟩, ?_⟩⟩
      have s4 := same_upd (o := .tup [.int 0, .int 1]) nt
      have ht : upd H3 t (.tup [.int 0, .int 1]) t = some (.tup [.int 0, .int 1]) := upd_same
      generalize upd H3 t (.tup [.int 0, .int 1]) = H4 at s4 ht
      refine in2_it (walkT (xs := [.int 0, .int 1]) rfl) (fun j H' => Same H H' ∧ H' t = some (.tup [.int 0, .int 1]) ∧ LfAt T.C_Leaf H' (.ref z) lf ∧ ∃ us, H' D = some (.lst us) ∧ us.length ≤ 120 + j ∧ TpAll H' us ((shownP (bk.take i)).map dP ++ (([0, 1].take j).filterMap (sideF lf)).map dP)) ⟨sm.trans s4, ht, lf3.nl (NL.of s4), us, s4 _ _ eD, ul, by rw [List.take_zero, List.filterMap_nil, List.map_nil, List.append_nil]; exact tp.nl (NL.of s4)⟩ (fun _ H' _ h => .inl (.inl h.2.1)) ?_ ?_
      · rintro j y H5x H5 hj ⟨sm5, ht5, lf5, us5, eD5, ul5, tp5⟩ ⟨rfl, hy5⟩
        have hj2 : j < 2 := hj
        obtain ⟨c, rfl, hc, hc1⟩ : ∃ c : Int, y = .int c ∧ [(0 : Int), 1][j]? = some c ∧ (c = 0 ∨ c = 1) := by
          match j, hj, hy5 with
          | 0, _, e => cases e; exact ⟨0, rfl, rfl, .inl rfl⟩
          | 1, _, e => cases e; exact ⟨1, rfl, rfl, .inr rfl⟩
          | j + 2, hj, _ => exact absurd hj (by show ¬ j + 2 < 2; omega)
        obtain ⟨z', dz5, la5, f5, b5, pn5, st5, ez, hz5, hL5, _⟩ := id lf5
        cases ez
        refine ⟨rfl, ?_⟩
        refine ⟨_, rfl, z, dz5, _, rfl, hz5, fLf_no (by decide +kernel), _, rfl, .ref z, c, lf, rfl, lf5, fun ro hro => ?_⟩
        refine ⟨_, tru_tup (.inl (.inl hro)), ?_⟩
        have stp : ([0, 1].take (j + 1)).filterMap (sideF lf) = ([0, 1].take j).filterMap (sideF lf) ++ (sideF lf c).toList := fm_step hc
        cases hs : sideF lf c with
        | none =>
          have e := sideF_none hs
          rw [e]
          refine iteF ⟨sm5, ht5, lf5, us5, eD5, by omega, ?_⟩
          rw [stp, hs]
          simpa using tp5
        | some pg =>
          have e := sideF_some hs
          obtain ⟨e, rfl⟩ := e
          have e2 : (!(List.map V.str (if c = 1 then lf.bk else lf.fr)).isEmpty) = true := by
            cases q : (if c = 1 then lf.bk else lf.fr) with
            | nil => exact absurd q e
            | cons u w => rfl
          rw [e2]
          refine iteT ?_
          refine ⟨_, rfl, z, _, dz5, _, _, rfl, hz5, T.cl_Leaf, T.na_Leaf_label, fLf_label, _, rfl, (by show 2 ≤ sizeLine; decide), fun p np => ?_⟩
          have s6 := same_upd (o := .tup [.ref la5, .int c]) np
          have e6 := s6 _ _ eD5
          have m := (NL.of s6).put e6 (.lst (us5 ++ [.ref p]))
          refine ⟨us5, e6, small1000 (by omega), same_put (sm5.trans s6) nD _, m _ _ ht5 (fun _ z => nomatch z), lf5.nl m, us5 ++ [.ref p], upd_same, by rw [List.length_append]; show _ + 1 ≤ _; omega, ?_⟩
          rw [stp, hs, List.map_append, ← List.append_assoc]
          refine (tp5.nl m).snoc (tpP (p := (lf.L, c)) ?_ (m _ _ hL5 (fun _ z => nomatch z)))
          have pD : p ≠ D := fun z => by rw [z, eD5] at np; cases np
          rw [upd_ne pD, upd_same]
      · rintro H5 ⟨sm5, _, _, us5, eD5, _, tp5⟩
        refine ⟨sm5, us5, eD5, ?_⟩
        rw [List.take_add_one, el]
        show TpAll H5 us5 ((shownP (bk.take i ++ [lf])).map dP)
        rw [shownP_snoc, List.map_append, sideP_eq]
        exact tp5
    · rintro H3 ⟨sm, us, eD, tp⟩
      rw [len, List.take_length] at tp
      refine ⟨D, us, rfl, .inl ⟨.inl (.inl eD), fun p np => ?_⟩⟩
      exact q p _ (sm.trans (same_upd np)) (.tup upd_same (tp.nl ((NL.refl H3).new np _)))
theorem ok_is_row (T : Tab K mg) : FnOk P w K mg base CX0 2 T.f_is_row T.d_is_row ["thing"] (sp_is_row K) := by
  refine T.F_is_row.ok sc_is_row (fun vs H Q E h => ?_) (fun cdv A outer s H vs Q E hr h => ?_)
  · obtain ⟨z, rfl, _⟩ := h
    rfl
  · obtain ⟨z, rfl, hz, q⟩ := h
    refine ⟨_, (pss_cons (ps_if (PW.pt (pw_or (pt_not (pt_val (pe_callB call_isi (by rfl) T.m_isinstance (by decide +kernel) (pa_cons (pv 0) (pa_cons (pe_bltn (v := .ty "str") (u := .type "str") (by rfl) T.m_str (by decide +kernel) rfl) pa_nil))))) (pw_or1 (pt_cmpR op_gt (pe_callB call_len_str (by rfl) T.m_len PySem.boot_len (pa_cons (pv 0) pa_nil)) (pe_glob (v := .int 120) (by rfl) T.c_LONGEST_ROW ⟨_, rfl⟩) (nomark _)))))
      (pss_one (ps_ret pe_bl))
      pss_nil)
      (pss_cons (ps_set (i := 1) sc_is_row.nd rfl (.inl rfl) (pe_split (pv 0) pe_str))
      (pss_one (ps_ret (pe_and (pe_cmpR op_le (pe_callB call_len_seq (by rfl) T.m_len PySem.boot_len (pa_cons (pv 1) pa_nil)) (pe_glob (v := .int 30) (by rfl) T.c_MOST_TOKENS ⟨_, rfl⟩) (nomark _)) (pe_one (pe_callB (cr_all rfl) (by rfl) T.m_all (by decide +kernel) (pa_cons (pe_lc (own := [("token", 2)]) (g := gName 2) (by rfl) sc_is_row.nd (pi_list (pv 1)) (blkOk_by (own := [("token", 2)]) (N := N_is_row) (sc := defScope s_is_row) (by decide +kernel)) (fun _ _ _ _ _ => pg_name (i := 2) sc_is_row.nd rfl (.inl rfl)) (fun _ _ _ _ _ => pts_nil) (fun _ _ _ _ _ => (pe_call (ok_is_token T) (hr.mono (by decide)) (by rfl) T.g_is_token T.F_is_token.kp T.b_is_token .nil pass0 (pa_cons (pv 2) pa_nil)))) pa_nil)))))))), ?_⟩
    refine ⟨_, rfl, _, _, _, _, _, rfl, .ty "str", .base (.str z), kit_ty (by decide +kernel), true, rfl, iteF ?_⟩
    have e2 : sizeLine = 16777216 := by decide
    have hd1 : 1 ≤ (" " : Str).length := by decide +kernel
    have hcnt := split_cnt z " " hd1
    refine ⟨_, rfl, z, rfl, (by omega), _, _, rfl, rfl, _, rfl, ite2 (fun e => ?_) (fun e => ?_)⟩
    · have e1 : (120 : Int) < z.length := of_decide_eq_true e
      have : rowB z = false := by
        unfold rowB
        rw [decide_eq_false (by omega)]
        rfl
      rw [← this]
      exact q H (Same.refl H)
    have e1 : z.length ≤ 120 := by
      have : ¬ (120 : Int) < z.length := fun h => e (decide_eq_true h)
      omega
    refine ⟨_, rfl, ⟨_, rfl⟩, z, _, rfl, rfl, (by decide +kernel), (by omega), fun p np => ?_⟩
    have ep : (upd H p (.lst ((Txt.split z " ").map V.str))) p = some (.lst ((Txt.split z " ").map V.str)) := upd_same
    have s1 := same_upd (o := .lst ((Txt.split z " ").map V.str)) np
    generalize upd H p (.lst ((Txt.split z " ").map V.str)) = H1 at ep s1
    have rb : rowB z = (decide ((Txt.split z " ").length ≤ 30) && (Txt.split z " ").all tokB) := by
      unfold rowB
      rw [decide_eq_true e1, Bool.true_and]
    refine ⟨_, rfl, p, _, rfl, .inl (.inl (.inl ep)), _, _, rfl, rfl, _, rfl, ite2 (fun e3 => ?_) (fun e3 => ?_)⟩
    · have e4 : (Txt.split z " ").length ≤ 30 := by
        have : (((Txt.split z " ").map V.str).length : Int) ≤ 30 := of_decide_eq_true e3
        rw [List.length_map] at this
        omega
      refine ⟨_, rfl, p, rfl, ⟨_, .inl (.inl ep)⟩, fun D nD => ?_⟩
      refine lc_fm (Txt.split z " ") (fun t => some (V.bl (tokB t))) (walkL (xs := (Txt.split z " ").map V.str) (List.length_map ..)) nD (fun H h => .inl (.inl (h _ _ ep))) (by omega) ?_ ?_
      · rintro i d x H2 H3 ed sm ⟨rfl, hx⟩ R N hR hN
        rw [List.getElem?_map, ed] at hx
        cases hx
        have hy1 := split_part z " " hd1 (List.mem_of_getElem? ed)
        exact ⟨rfl, _, rfl, d, rfl, by omega, hR _ rfl _ (Same.refl _)⟩
      · rintro H2 sm eD
        rw [map_fm, show (fun d => V.bl (tokB d)) = V.bl ∘ tokB from rfl, ← List.map_map] at eD
        refine ⟨D, _, rfl, .inl (.inl eD), ?_⟩
        rw [all_map]
        have := q H2 (s1.trans sm)
        rw [rb, decide_eq_true e4, Bool.true_and] at this
        exact this
    · have : rowB z = false := by
        rw [rb, decide_eq_false (fun h => e3 (decide_eq_true (by rw [List.length_map]; omega)))]
        rfl
      rw [← this]
      exact q H1 s1
theorem ok_judged_leaves (T : Tab K mg) : FnOk P w K mg base CX0 2 T.f_judged_leaves T.d_judged_leaves ["leaves"] (sp_judged_leaves K T.C_Leaf) := by
  refine T.F_judged_leaves.ok sc_judged_leaves (fun vs H Q E h => ?_) (fun cdv A outer s H vs Q E hr h => ?_)
  · obtain ⟨a, xs, bk, rfl, _⟩ := h
    rfl
  · obtain ⟨a, xs, bk, rfl, ha, hl, ⟨o1, o2, o3⟩, q⟩ := h
    refine ⟨_, (pss_cons (ps_if (PW.pt (pw_or (pt_not (pt_val (pe_call (ok_is_tuple T) (hr.mono (by decide)) (by rfl) T.g_is_tuple T.F_is_tuple.kp T.b_is_tuple .nil pass0 (pa_cons (pv 0) pa_nil)))) (pw_or1 (pt_not (pt_val (pe_callB (cr_all rfl) (by rfl) T.m_all (by decide +kernel) (pa_cons (pe_lc (own := [("leaf", 2)]) (g := gName 2) (by rfl) sc_judged_leaves.nd (pi_or (pi_list (pv 0)) (pi_tup (pv 0))) (blkOk_by (own := [("leaf", 2)]) (N := N_judged_leaves) (sc := defScope s_judged_leaves) (by decide +kernel)) (fun _ _ _ _ _ => pg_name (i := 2) sc_judged_leaves.nd rfl (.inl rfl)) (fun _ _ _ _ _ => pts_nil) (fun _ _ _ _ _ => (pe_callB (call_isiK' (K := K) rfl) (by rfl) T.m_isinstance (by decide +kernel) (pa_cons (pv 2) (pa_cons (pe_glob (v := .ref T.C_Leaf) (by rfl) T.cg_Leaf rfl) pa_nil))))) pa_nil)))))))
      (pss_one ps_never)
      pss_nil)
      (pss_cons (ps_if (pt_cmpR op_gt (pe_callB call_len_seq (by rfl) T.m_len PySem.boot_len (pa_cons (pv 0) pa_nil)) (pe_glob (v := .int 60) (by rfl) T.c_MOST_LEAVES ⟨_, rfl⟩) (nomark _))
      (pss_one ps_never)
      pss_nil)
      (pss_cons (ps_for PassesOwn.never rfl (pi_range2 (by rfl) T.m_range (pa_cons pe_int (pa_cons (pe_callB call_len_seq (by rfl) T.m_len PySem.boot_len (pa_cons (pv 0) pa_nil)) pa_nil))) (pg_name (i := 1) sc_judged_leaves.nd rfl (.inl rfl))
      (pss_one (ps_if (pt_cmpR (op_leD (un2 hr)) (pe_fld (pe_ix (IxR.or ix_list ix_tup) (pv 0) (pv 1) (fun _ _ => rfl)) rfl) (pe_fld (pe_ix (IxR.or ix_list ix_tup) (pv 0) (pe_op op_sub (pv 1) pe_int) (fun _ _ => rfl)) rfl) (nomark _))
        (pss_one ps_never)
        pss_nil)))
      (pss_one (ps_ret (pe_callTy call_tuple_of (by rfl) T.m_tuple (by decide +kernel) (pa_cons (pv 0) pa_nil))))))), ?_⟩
    have len := hl.len
    refine ⟨_, rfl, _, .none, rfl, .inr ⟨a, xs, rfl, .inl (.inl (.inl ha)), fun H1 s1 => ⟨_, rfl, iteF ?_⟩⟩⟩
    have ha1 := s1 _ _ ha
    refine .inl ⟨_, rfl, a, rfl, ⟨_, .inl (.inl ha1)⟩, fun D nD => ?_⟩
    refine lc_fm xs (fun _ => some (V.bl true)) (walkL (xs := xs) rfl) nD (fun H h => .inl (.inl (h _ _ ha1))) (by omega) ?_ ?_
    · rintro i d x H2 H3 ed sm ⟨rfl, hx⟩ R N hR hN
      obtain ⟨lf, _, y, dx, l, f, b, p, s, rfl, hy, _⟩ := hl.get hx
      exact ⟨rfl, _, rfl, _, _, _, _, _, rfl, .own T.C_Leaf, .base (.ins ((s1.trans sm) _ _ hy) T.cl_Leaf T.ca_Leaf T.cn_Leaf T.ct_Leaf T.cm_Leaf), kit_self, hR _ rfl _ (Same.refl _)⟩
    rintro H2 sm eD
    rw [map_fm, show (fun (_ : V) => V.bl true) = V.bl ∘ (fun _ => true) from rfl, ← List.map_map] at eD
    refine ⟨D, _, rfl, .inl (.inl eD), _, rfl, ?_⟩
    rw [all_map, List.all_eq_true.mpr (fun _ _ => rfl)]
    refine iteF ?_
    have s2 := s1.trans sm
    have ha2 := s2 _ _ ha
    refine ⟨_, rfl, a, xs, rfl, .inl (.inl (.inl ha2)), _, _, rfl, rfl, _, rfl, ite2 (fun e => ?_) (fun _ => ?_)⟩
    · have : (60 : Int) < xs.length := of_decide_eq_true e
      omega
    refine ⟨_, rfl, a, xs, rfl, .inl (.inl (.inl ha2)), 1, _, rfl, ⟨by decide, by decide, by omega, by omega⟩, for_range (lo := 1) (n := ((xs.length : Int) - 1).toNat) (fun j σ' H' => ∃ y, σ' = [some (.ref a), y, none] ∧ H' = H2) ⟨none, rfl, rfl⟩ ?_ ?_⟩
    · rintro j σ' H' hj ⟨y, rfl, rfl⟩
      have hj2 : j + 1 < bk.length := by omega
      obtain ⟨v1, e1, x1, dx1, l1, f1, b1, p1, t1, rfl, hx1, hl1, _⟩ := hl.get2 (List.getElem?_eq_getElem hj2)
      obtain ⟨v0, e0, x0, dx0, l0, f0, b0, p0, t0, rfl, hx0, hl0, _⟩ := hl.get2 (List.getElem?_eq_getElem (show j < bk.length by omega))
      refine ⟨_, rfl, _, rfl, .inl ⟨a, xs, _, _, rfl, rfl, .inl (.inl ha2), at_of' (by omega) e1, x1, _, dx1, _, _, rfl, s2 _ _ hx1, T.cl_Leaf, T.na_Leaf_label, fLf_label, ?_⟩⟩
      refine ⟨_, rfl, _, rfl, _, _, rfl, rfl, .inl ⟨a, xs, _, _, rfl, rfl, .inl (.inl ha2), at_of' (by omega) e0, x0, _, dx0, _, _, rfl, s2 _ _ hx0, T.cl_Leaf, T.na_Leaf_label, fLf_label, ?_⟩⟩
      refine ⟨_, _, (tpL (s2 _ _ hl1)).dp, (tpL (s2 _ _ hl0)).dp, alike_L _ _, (fun z => nomatch z), Nat.le_trans (depthL _) (by decide), false, congrArg V.bl ?_, iteF ⟨_, rfl, rfl⟩⟩
      show (!PySem.W.dataLt _ _) = false
      rw [dlt_L, (List.pairwise_iff_getElem.mp o3) j (j + 1) (by omega) hj2 (by omega)]
      rfl
    · rintro σ' H' ⟨y, rfl, rfl⟩
      exact ⟨_, rfl, a, xs, rfl, .inl ⟨.inl (.inl ha2), fun p np => q p _ (s2.trans (same_upd np)) upd_same⟩⟩
theorem ok_label (T : Tab K mg) : FnOk P w K mg base CX0 2 T.f_label T.d_label ["_law_source_here", "_law_most"] (sp_label K) := by
  refine T.F_label.ok sc_label (fun vs H Q E h => ?_) (fun cdv A outer s H vs Q E hr h => ?_)
  · obtain ⟨a, m, rfl, _⟩ := h
    rfl
  · obtain ⟨a, m, rfl, src, m1, m9, q⟩ := h
    refine ⟨_, (pss_cons (ps_setLc (i := 2) (own := [("_law_step", 3)]) (g := gName 3) (by rfl) sc_label.nd rfl rfl (sw_true rfl rfl rfl (by decide +kernel)) (pi_range1 (by rfl) T.m_range (pa_cons (pe_op op_add pe_int (pe_call (ok_pick T) (hr.mono (by decide)) (by rfl) T.g_pick T.F_pick.kp T.b_pick .nil pass0 (pa_cons (pv 0) (pa_cons pe_int pa_nil)))) pa_nil)) (blkOk_by (own := [("_law_step", 3)]) (N := N_label) (sc := defScope s_label) (by decide +kernel)) (fun _ _ _ _ _ => pg_name (i := 3) sc_label.nd rfl (.inl rfl)) (fun _ _ _ _ _ => pts_nil) (fun _ _ _ _ _ => (pe_call (ok_pick T) (hr.mono (by decide)) (by rfl) T.g_pick T.F_pick.kp T.b_pick .nil pass0 (pa_cons (pv 0) (pa_cons (pe_op op_add (pv 1) pe_int) pa_nil)))))
      (C8.pss_cut (ps_if (pt_cmpR op_eq (pe_ix ix_list (pv 2) (pe_un un_neg pe_int) (fun _ _ => rfl)) pe_int (nomark _))
      (pss_one (ps_asg (pe_op op_add pe_int (pe_call (ok_pick T) (hr.mono (by decide)) (by rfl) T.g_pick T.F_pick.kp T.b_pick .nil pass0 (pa_cons (pv 0) (pa_cons (pv 1) pa_nil)))) (pg_sub (pv 2) (pe_un un_neg pe_int) set_list)))
      pss_nil)
      (pss_one (ps_ret (pe_callTy call_tuple_of (by rfl) T.m_tuple (by decide +kernel) (pa_cons (pv 2) pa_nil)))))), ?_⟩
    refine ⟨_, rfl, _, _, rfl, src, by decide, by decide, fun n1 H1 s1 b1 p1 p2 => ?_⟩
    refine ⟨_, _, rfl, rfl, _, rfl, by omega, by omega, fun D nD => ?_⟩
    have nDa : D ≠ a := (s1.ne nD).symm
    have fD : H D = none := b1.none nD nDa
    refine lc_range (lo := 0) (n := (1 + n1).toNat) (fun j H' => Src H' a ∧ But a H H' ∧ ∃ L : List Int, H' D = some (.lst (L.map V.int)) ∧ L.length = j ∧ ∀ i ∈ L, 0 ≤ i ∧ i ≤ 99) ⟨s1.put nDa.symm _, b1.put fD _, [], upd_same, rfl, fun _ h => nomatch h⟩ ?_ ?_
    · rintro j H2 hj ⟨s2, b2, L, eD, lL, bL⟩
      refine ⟨rfl, ?_⟩
      refine ⟨_, rfl, _, rfl, _, _, rfl, rfl, a, m + 1, rfl, s2, by omega, by omega, fun v H3 s3 b3 p3 p4 => ?_⟩
      refine ⟨_, b3 _ _ nDa eD, by rw [List.length_map]; exact small1000 (by omega), s3.put nDa.symm _, (b2.trans b3).put fD _, L ++ [v], ?_, ?_, ?_⟩
      · rw [upd_same, List.map_append]; rfl
      · rw [List.length_append, lL]; rfl
      · intro i hi
        rcases List.mem_append.mp hi with h | h
        · exact bL _ h
        · rw [List.mem_singleton.mp h]; omega
    · rintro H2 ⟨s2, b2, L, eD2, lL, bL⟩
      have hne : L ≠ [] := fun e => by rw [e] at lL; simp at lL; omega
      obtain ⟨R, x, rfl⟩ : ∃ R x, L = R ++ [x] := ⟨_, _, (List.dropLast_concat_getLast hne).symm⟩
      have hx := bL x (by simp)
      have lR : (R ++ [x]).length ≤ 3 := by omega
      refine ⟨fun σ' H' => ∃ (L : List Int), σ' = [some (.ref a), some (.int m), some (.ref D), none] ∧ Src H' a ∧ But a H H' ∧ H' D = some (.lst (L.map V.int)) ∧ okL L, ?_, ?_⟩
      · refine ⟨_, rfl, 1, rfl, D, _, -1, .int x, rfl, rfl, .inl (.inl eD2), at_end R x, rfl, _, rfl, ite2 (fun e => ?_) (fun e => ?_)⟩
        · refine ⟨_, rfl, _, rfl, _, _, rfl, s2, by omega, by omega, fun n5 H5 s5 b5 p5 p6 => ?_⟩
          have eD5 := b5 _ _ nDa eD2
          refine ⟨_, _, rfl, rfl, _, rfl, 1, rfl, D, _, -1, _, rfl, rfl, eD5, ixN_end R x, ?_⟩
          refine ⟨R ++ [1 + n5], rfl, s5.put nDa.symm _, (b2.trans b5).put fD _, ?_, ?_, ?_, ?_⟩
          · rw [upd_same, set_end]
          · rw [List.length_append] at lR ⊢; exact lR
          · rw [List.getLastD_eq_getLast?, List.getLast?_append]
            show (1 + n5 : Int) ≠ 0
            omega
          · intro i hi
            rcases List.mem_append.mp hi with h | h
            · exact bL _ (List.mem_append_left _ h)
            · rw [List.mem_singleton.mp h]; omega
        · have hx0 : x ≠ 0 := fun h => e (decide_eq_true (congrArg V.int h))
          refine ⟨_, rfl, s2, b2, eD2, lR, ?_, bL⟩
          rw [List.getLastD_eq_getLast?, List.getLast?_append]
          exact hx0
      · rintro σ' H3 ⟨L, rfl, s3, b3, eD3, hL⟩
        refine ⟨_, rfl, D, _, rfl, .inl ⟨.inl (.inl eD3), fun l nl => ?_⟩⟩
        have nla : l ≠ a := (s3.ne nl).symm
        exact q l L _ (s3.put nla.symm _) (b3.trans (But.of (same_upd nl))) (b3.none nl nla) upd_same hL
theorem ok_side (T : Tab K mg) : FnOk P w K mg base CX0 2 T.f_side T.d_side ["_law_source_here"] (sp_side K) := by
  refine T.F_side.ok sc_side (fun vs H Q E h => ?_) (fun cdv A outer s H vs Q E hr h => ?_)
  · obtain ⟨a, rfl, _⟩ := h
    rfl
  · obtain ⟨a, rfl, src, q⟩ := h
    refine ⟨_, (pss_cons (ps_set (i := 1) sc_side.nd rfl (.inr rfl) (pe_lst (pa_cons pe_str (pa_cons pe_str (pa_cons pe_str (pa_cons pe_str (pa_cons pe_str (pa_cons pe_str (pa_cons pe_str pa_nil)))))))))
      (pss_one (ps_ret (pe_callTy call_tuple_of (by rfl) T.m_tuple (by decide +kernel) (pa_cons (pe_lc (own := [("_law_step", 2)]) (g := gName 2) (by rfl) sc_side.nd (pi_range1 (by rfl) T.m_range (pa_cons (pe_op op_add pe_int (pe_call (ok_pick T) (hr.mono (by decide)) (by rfl) T.g_pick T.F_pick.kp T.b_pick .nil pass0 (pa_cons (pv 0) (pa_cons pe_int pa_nil)))) pa_nil)) (blkOk_by (own := [("_law_step", 2)]) (N := N_side) (sc := defScope s_side) (by decide +kernel)) (fun _ _ _ _ _ => pg_name (i := 2) sc_side.nd rfl (.inl rfl)) (fun _ _ _ _ _ => pts_nil) (fun _ _ _ _ _ => (pe_ix (ix_listK (K := K) rfl) (pv 1) (pe_call (ok_pick T) (hr.mono (by decide)) (by rfl) T.g_pick T.F_pick.kp T.b_pick .nil pass0 (pa_cons (pv 0) (pa_cons pe_int pa_nil))) (fun _ _ => rfl)))) pa_nil))))), ?_⟩
    refine ⟨by show 7 ≤ sizeLine; decide, fun M nM => ?_⟩
    have nMa : M ≠ a := (src.ne nM).symm
    have s0 := src.put nMa.symm (.lst [.str "x", .str "one two", .str "* foot", .str "+ desk 7a", .str ":", .str "1p1 .", .str "7a-7b"])
    have b0 : But a H _ := But.of (same_upd (o := .lst [.str "x", .str "one two", .str "* foot", .str "+ desk 7a", .str ":", .str "1p1 .", .str "7a-7b"]) nM)
    have eM : upd H M (.lst [.str "x", .str "one two", .str "* foot", .str "+ desk 7a", .str ":", .str "1p1 .", .str "7a-7b"]) M = some (.lst [.str "x", .str "one two", .str "* foot", .str "+ desk 7a", .str ":", .str "1p1 .", .str "7a-7b"]) := upd_same
    generalize upd H M (.lst [.str "x", .str "one two", .str "* foot", .str "+ desk 7a", .str ":", .str "1p1 .", .str "7a-7b"]) = H0 at s0 b0 eM
    refine ⟨_, rfl, _, _, rfl, s0, by decide, by decide, fun n1 H1 s1 b1 p1 p2 => ?_⟩
    refine ⟨_, _, rfl, rfl, _, rfl, by omega, by omega, fun D nD => ?_⟩
    have nDa : D ≠ a := (s1.ne nD).symm
    have eM1 := b1 _ _ nMa eM
    have nMD : M ≠ D := ne_of_none eM1 nD
    have fD : H D = none := (b0.trans b1).none nD nDa
    refine lc_range (lo := 0) (n := (1 + n1).toNat) (fun j H' => Src H' a ∧ But a H H' ∧ H' M = some (.lst [.str "x", .str "one two", .str "* foot", .str "+ desk 7a", .str ":", .str "1p1 .", .str "7a-7b"]) ∧ ∃ zs : List Str, H' D = some (.lst (zs.map V.str)) ∧ zs.length = j ∧ ∀ z ∈ zs, rowB z = true) ⟨s1.put nDa.symm _, (b0.trans b1).put fD _, by rw [upd_ne nMD]; exact eM1, [], upd_same, rfl, fun _ h => nomatch h⟩ ?_ ?_
    · rintro j H2 hj ⟨s2, b2, e2, zs, eD, lz, bz⟩
      refine ⟨rfl, ?_⟩
      refine ⟨_, rfl, _, rfl, a, 7, rfl, s2, by decide, by decide, fun v H3 s3 b3 p3 p4 => ?_⟩
      have e3 := b3 _ _ nMa e2
      have eD3 := b3 _ _ nDa eD
      obtain ⟨z, hz, hr⟩ : ∃ z : Str, atI [V.str "x", .str "one two", .str "* foot", .str "+ desk 7a", .str ":", .str "1p1 .", .str "7a-7b"] v = some (.str z) ∧ rowB z = true := by
        have : v = 0 ∨ v = 1 ∨ v = 2 ∨ v = 3 ∨ v = 4 ∨ v = 5 ∨ v = 6 := by omega
        rcases this with rfl | rfl | rfl | rfl | rfl | rfl | rfl
        · exact ⟨_, rfl, by decide +kernel⟩
        · exact ⟨_, rfl, by decide +kernel⟩
        · exact ⟨_, rfl, by decide +kernel⟩
        · exact ⟨_, rfl, by decide +kernel⟩
        · exact ⟨_, rfl, by decide +kernel⟩
        · exact ⟨_, rfl, by decide +kernel⟩
        · exact ⟨_, rfl, by decide +kernel⟩
      refine ⟨M, _, v, .str z, rfl, rfl, .inl (.inl e3), hz, ?_⟩
      refine ⟨_, eD3, by rw [List.length_map]; exact small1000 (by omega), s3.put nDa.symm _, (b2.trans b3).put fD _, by rw [upd_ne nMD]; exact e3, zs ++ [z], ?_, ?_, ?_⟩
      · rw [upd_same, List.map_append]; rfl
      · rw [List.length_append, lz]; rfl
      · intro y hy
        rcases List.mem_append.mp hy with h | h
        · exact bz _ h
        · rw [List.mem_singleton.mp h]; exact hr
    · rintro H2 ⟨s2, b2, _, zs, eD, lz, bz⟩
      refine ⟨D, _, rfl, .inl ⟨.inl (.inl eD), fun l nl => ?_⟩⟩
      have nla : l ≠ a := (s2.ne nl).symm
      refine q l zs _ (s2.put nla.symm _) (b2.trans (But.of (same_upd nl))) upd_same ?_
      unfold rowsB
      rw [decide_eq_true (by omega), decide_eq_true (by omega), List.all_eq_true.mpr bz]
      rfl
theorem ok_changed (T : Tab K mg) : FnOk P w K mg base CX0 2 T.f_changed T.d_changed ["_law_source_here", "_law_leaves_here"] (sp_changed K) := by
  refine T.F_changed.ok sc_changed (fun vs H Q E h => ?_) (fun cdv A outer s H vs Q E hr h => ?_)
  · obtain ⟨a, l, bk, rfl, _⟩ := h
    rfl
  · obtain ⟨a, l, bk, rfl, src, la, ⟨vs, hl, tv⟩, ok, q⟩ := h
    refine ⟨_, (pss_cons (ps_if (pt_not (pt_truth (pv 1) (fun _ => rfl)))
      (pss_one (ps_ret (pe_lst (pa_cons (pe_tup (pa_cons (pe_tup (pa_cons pe_int pa_nil)) (pa_cons (pe_tup (pa_cons pe_str pa_nil)) (pa_cons (pe_tup (pa_cons pe_str pa_nil)) (pa_cons (pe_tup pa_nil) pa_nil))))) pa_nil))))
      pss_nil)
      (pss_cons (ps_set (i := 2) sc_changed.nd rfl (.inl rfl) (pe_call (ok_pick T) (hr.mono (by decide)) (by rfl) T.g_pick T.F_pick.kp T.b_pick .nil pass0 (pa_cons (pv 0) (pa_cons (pe_callB call_len_seq (by rfl) T.m_len PySem.boot_len (pa_cons (pv 1) pa_nil)) pa_nil))))
      (pss_cons (ps_if (pt_cmpR op_eq (pe_call (ok_pick T) (hr.mono (by decide)) (by rfl) T.g_pick T.F_pick.kp T.b_pick .nil pass0 (pa_cons (pv 0) (pa_cons pe_int pa_nil))) pe_int (nomark _))
      (pss_one (ps_ret (pe_op op_cat (pe_slice sl_list (pv 1) po_none (po_some (pv 2))) (pe_slice sl_list (pv 1) (po_some (pe_op op_add (pv 2) pe_int)) po_none))))
      pss_nil)
      (pss_cons (ps_set (i := 3) sc_changed.nd rfl (.inl rfl) (pe_tup pa_nil))
      (C8.pss_cut (ps_if (pt_not (pt_truth (pe_ix ix_tup (pe_ix ix_list (pv 1) (pv 2) (fun _ _ => rfl)) pe_int (fun _ _ => rfl)) (fun _ => rfl)))
      (pss_one (ps_set (i := 3) sc_changed.nd rfl (.inl rfl) (pe_tup (pa_cons pe_str pa_nil))))
      pss_nil)
      (pss_one (ps_ret (pe_op op_cat (pe_op op_cat (pe_slice sl_list (pv 1) po_none (po_some (pv 2))) (pe_lst (pa_cons (pe_tup (pa_cons (pe_ix ix_tup (pe_ix ix_list (pv 1) (pv 2) (fun _ _ => rfl)) pe_int (fun _ _ => rfl)) (pa_cons (pe_ix ix_tup (pe_ix ix_list (pv 1) (pv 2) (fun _ _ => rfl)) pe_int (fun _ _ => rfl)) (pa_cons (pv 3) (pa_cons (pe_tup pa_nil) pa_nil))))) pa_nil))) (pe_slice sl_list (pv 1) (po_some (pe_op op_add (pv 2) pe_int)) po_none))))))))), ?_⟩
    have len := tv.len
    rw [List.length_map] at len
    have h60 := ok.1
    have srcS : ∀ {Ha Hb : Hp}, Same Ha Hb → Src Ha a → Src Hb a := fun s h => by
      obtain ⟨g, x, c, e⟩ := h
      exact ⟨g, x, c, s _ _ e⟩
    refine ⟨_, rfl, _, tru_lst (.inl (.inl hl)), ?_⟩
    cases e : (!vs.isEmpty) with
    | false =>
      refine iteT ⟨(by show 1 ≤ sizeLine; decide), fun t1 n1 => ⟨(by show 1 ≤ sizeLine; decide), fun t2 n2 => ⟨(by show 1 ≤ sizeLine; decide), fun t3 n3 => ⟨Nat.zero_le _, fun t4 n4 => ⟨(by show 4 ≤ sizeLine; decide), fun t5 n5 => ⟨(by show 1 ≤ sizeLine; decide), fun t6 n6 => ?_⟩⟩⟩⟩⟩⟩
      have s1 := same_upd (o := .tup [.int 1]) n1
      have s2 := same_upd (o := .tup [.str "x"]) n2
      have s3 := same_upd (o := .tup [.str "y"]) n3
      have s4 := same_upd (o := .tup []) n4
      have s5 := same_upd (o := .tup [.ref t1, .ref t2, .ref t3, .ref t4]) n5
      have s6 := same_upd (o := .lst [.ref t5]) n6
      have s16 := (((s1.trans s2).trans s3).trans s4).trans s5
      have n6a : H t6 = none := by
        cases e : H t6 with
        | none => rfl
        | some o => have := s16 _ _ e; rw [n6] at this; cases this
      have h1 := (s2.trans (s3.trans (s4.trans (s5.trans s6)))) _ _ (upd_same (o := .tup [.int 1]))
      have h2 := (s3.trans (s4.trans (s5.trans s6))) _ _ (upd_same (o := .tup [.str "x"]))
      have h3 := (s4.trans (s5.trans s6)) _ _ (upd_same (o := .tup [.str "y"]))
      have h4 := (s5.trans s6) _ _ (upd_same (o := .tup []))
      have h5 := s6 _ _ (upd_same (o := .tup [.ref t1, .ref t2, .ref t3, .ref t4]))
      refine q t6 [⟨[1], ["x"], ["y"], []⟩] _ (srcS (s16.trans s6) src) (But.of (s16.trans s6)) n6a ⟨_, upd_same, .cons (.tup h5 (.cons (tpL (L := [1]) h1) (.cons (tpS (L := ["x"]) h2) (.cons (tpS (L := ["y"]) h3) (.cons (.tup h4 .nil) .nil))))) .nil⟩ ⟨by show 1 ≤ 60; decide, fun l hl => ?_, .cons (fun _ h => nomatch h) .nil⟩
      rw [List.mem_singleton.mp hl]
      exact ⟨⟨by show 1 ≤ 3; decide, by show (1 : Int) ≠ 0; decide, fun i hi => by rw [List.mem_singleton.mp hi]; decide⟩, by decide +kernel, by decide +kernel, rfl⟩
    | true =>
      have hne : 1 ≤ vs.length := by
        cases vs with
        | nil => cases e
        | cons _ _ => exact Nat.le_add_left _ _
      refine iteF ?_
      refine ⟨_, rfl, _, rfl, l, vs, rfl, .inl (.inl (.inl hl)), _, _, rfl, src, by omega, by omega, fun i H1 s1 b1 i0 i1 => ?_⟩
      have hl1 := b1 _ _ la hl
      have tv1 := tv.nl (src.nl b1)
      obtain ⟨k, rfl⟩ : ∃ k : Nat, i = (k : Int) := ⟨i.toNat, (Int.toNat_of_nonneg i0).symm⟩
      have hk : k < bk.length := by omega
      refine ⟨_, rfl, _, _, rfl, s1, by decide, by decide, fun n2 H2 s2 b2 _ _ => ?_⟩
      have hl2 := b2 _ _ la hl1
      have tv2 := tv1.nl (s1.nl b2)
      have b02 := b1.trans b2
      have fresh : ∀ {p : Addr}, H2 p = none → H p = none := fun {p} e => b02.none e (s2.ne e).symm
      refine ⟨rfl, _, rfl, ite2 (fun _ => ?_) (fun _ => ?_)⟩
      · refine ⟨_, rfl, _, rfl, _, rfl, l, vs, rfl, .inl (.inl hl2), fun x nx => ?_⟩
        have s3 := same_upd (o := .lst (cutV vs none (some (k : Int)))) nx
        have ex : upd H2 x (.lst (cutV vs none (some (k : Int)))) x = some (.lst (vs.take k)) := by rw [cutV_to]; exact upd_same
        generalize upd H2 x (.lst (cutV vs none (some (k : Int)))) = H3 at s3 ex
        refine ⟨_, rfl, _, rfl, _, _, rfl, rfl, _, rfl, l, vs, rfl, .inl (.inl (s3 _ _ hl2)), fun y ny => ?_⟩
        have s4 := same_upd (o := .lst (cutV vs (some ((k : Int) + 1)) none)) ny
        have ey : upd H3 y (.lst (cutV vs (some ((k : Int) + 1)) none)) y = some (.lst (vs.drop (k + 1))) := by rw [show ((k : Int) + 1) = ((k + 1 : Nat) : Int) from rfl, cutV_from]; exact upd_same
        generalize upd H3 y (.lst (cutV vs (some ((k : Int) + 1)) none)) = H4 at s4 ey
        refine ⟨x, y, _, _, rfl, rfl, s4 _ _ ex, ey, ?_, fun z nz => ?_⟩
        · rw [List.length_take, List.length_drop]
          exact Nat.le_of_lt (small1000 (by omega))
        · have s5 := same_upd (o := .lst (vs.take k ++ vs.drop (k + 1))) nz
          have nz2 : H2 z = none := by
            cases e : H2 z with
            | none => rfl
            | some o => have := (s3.trans s4) _ _ e; rw [nz] at this; cases this
          have s25 := (s3.trans s4).trans s5
          refine q z (bk.take k ++ bk.drop (k + 1)) _ (srcS s25 s2) (b02.trans (But.of s25)) (fresh nz2) ⟨_, upd_same, ?_⟩ (okBk_drop k ok)
          rw [List.map_append, List.map_take, List.map_drop]
          exact ((tv2.take k).app (tv2.drop (k + 1))).nl (NL.of s25)
      · refine ⟨Nat.zero_le _, fun e0 ne0 => ?_⟩
        have sm0 := same_upd (o := .tup []) ne0
        have he0 : upd H2 e0 (.tup []) e0 = some (.tup []) := upd_same
        have fr0 : ∀ {p : Addr}, upd H2 e0 (.tup []) p = none → H2 p = none := fun {p} e => by
          cases e2 : H2 p with
          | none => rfl
          | some o => have := sm0 _ _ e2; rw [e] at this; cases this
        generalize upd H2 e0 (.tup []) = H3 at sm0 he0 fr0
        obtain ⟨v, ev⟩ : ∃ v, vs[k]? = some v := ⟨_, List.getElem?_eq_getElem (by omega)⟩
        obtain ⟨d, ed, td⟩ := tv2.get ev
        obtain ⟨lf, el, rfl⟩ : ∃ lf, bk[k]? = some lf ∧ d = dLf lf := by
          rw [List.getElem?_map] at ed
          cases e : bk[k]? with
          | none => rw [e] at ed; cases ed
          | some l => rw [e] at ed; exact ⟨l, rfl, (Option.some.inj ed).symm⟩
        have okl := ok.2.1 lf (List.mem_of_getElem? el)
        obtain ⟨t, u1, u2, u3, u4, rfl, ht, t1, t2, t3⟩ := dLf_inv td
        obtain ⟨lb, rfl, hlb⟩ := tpL_inv t1
        obtain ⟨f, rfl, hf⟩ := tpS_inv t2
        obtain ⟨b, rfl, hb⟩ := tpS_inv t3
        have hl3 := sm0 _ _ hl2
        refine ⟨fun σ' H' => ∃ (g : Addr) (zs : List Str), σ' = [some (.ref a), some (.ref l), some (.int (k : Int)), some (.ref g)] ∧ Same H3 H' ∧ H' g = some (.tup (zs.map V.str)) ∧ rowsB 0 zs = true, ?_, ?_⟩
        · refine ⟨_, rfl, _, rfl, l, vs, _, .ref t, rfl, rfl, .inl (.inl hl3), at_of' rfl ev, t, _, 2, _, rfl, rfl, .inl (.inl (sm0 _ _ ht)), rfl, _, tru_tup (.inl (.inl (sm0 _ _ hb))), ?_⟩
          cases e2 : (!(lf.bk.map V.str).isEmpty) with
          | false => exact iteT ⟨(by show 1 ≤ sizeLine; decide), fun p np => ⟨p, ["x"], rfl, same_upd np, upd_same, by decide +kernel⟩⟩
          | true => exact iteF ⟨e0, [], rfl, Same.refl _, he0, rfl⟩
        · rintro σ' H4 ⟨g, zs, rfl, s4, hg, hr⟩
          have s24 := sm0.trans s4
          refine ⟨_, rfl, _, rfl, _, rfl, l, vs, rfl, .inl (.inl (s24 _ _ hl2)), fun x nx => ?_⟩
          have s5 := same_upd (o := .lst (cutV vs none (some (k : Int)))) nx
          have ex : upd H4 x (.lst (cutV vs none (some (k : Int)))) x = some (.lst (vs.take k)) := by rw [cutV_to]; exact upd_same
          generalize upd H4 x (.lst (cutV vs none (some (k : Int)))) = H5 at s5 ex
          have s25 := s24.trans s5
          have hl5 := s25 _ _ hl2
          have ht5 := s25 _ _ ht
          refine ⟨_, rfl, _, rfl, l, vs, _, .ref t, rfl, rfl, .inl (.inl hl5), at_of' rfl ev, t, _, 0, _, rfl, rfl, .inl (.inl ht5), rfl, ?_⟩
          refine ⟨_, rfl, _, rfl, l, vs, _, .ref t, rfl, rfl, .inl (.inl hl5), at_of' rfl ev, t, _, 1, _, rfl, rfl, .inl (.inl ht5), rfl, ?_⟩
          refine ⟨_, rfl, Nat.zero_le _, fun e1 ne1 => ⟨(by show 4 ≤ sizeLine; decide), fun t' nt' => ⟨(by show 1 ≤ sizeLine; decide), fun y ny => ?_⟩⟩⟩
          have s6 := same_upd (o := .tup []) ne1
          have he1 : upd H5 e1 (.tup []) e1 = some (.tup []) := upd_same
          generalize upd H5 e1 (.tup []) = H6 at s6 he1 nt' ny
          have s7 := same_upd (o := .tup [.ref lb, .ref f, .ref g, .ref e1]) nt'
          have ht' : upd H6 t' (.tup [.ref lb, .ref f, .ref g, .ref e1]) t' = some (.tup [.ref lb, .ref f, .ref g, .ref e1]) := upd_same
          generalize upd H6 t' (.tup [.ref lb, .ref f, .ref g, .ref e1]) = H7 at s7 ht' ny
          have s8 := same_upd (o := .lst [.ref t']) ny
          have ey : upd H7 y (.lst [.ref t']) y = some (.lst [.ref t']) := upd_same
          generalize upd H7 y (.lst [.ref t']) = H8 at s8 ey
          refine ⟨x, y, _, _, rfl, rfl, (s6.trans (s7.trans s8)) _ _ ex, ey, ?_, fun z nz => ?_⟩
          · rw [List.length_take]
            exact Nat.le_of_lt (small1000 (by show _ + 1 ≤ 1000; omega))
          have s9 := same_upd (o := .lst (vs.take k ++ [.ref t'])) nz
          have ez : upd H8 z (.lst (vs.take k ++ [.ref t'])) z = some (.lst (vs.take k ++ [.ref t'])) := upd_same
          generalize upd H8 z (.lst (vs.take k ++ [.ref t'])) = H9 at s9 ez
          have s29 := s25.trans (((s6.trans s7).trans s8).trans s9)
          refine ⟨_, rfl, _, rfl, _, _, rfl, rfl, _, rfl, l, vs, rfl, .inl (.inl (s29 _ _ hl2)), fun w nw => ?_⟩
          have s10 := same_upd (o := .lst (cutV vs (some ((k : Int) + 1)) none)) nw
          have ew : upd H9 w (.lst (cutV vs (some ((k : Int) + 1)) none)) w = some (.lst (vs.drop (k + 1))) := by rw [show ((k : Int) + 1) = ((k + 1 : Nat) : Int) from rfl, cutV_from]; exact upd_same
          generalize upd H9 w (.lst (cutV vs (some ((k : Int) + 1)) none)) = H10 at s10 ew
          refine ⟨z, w, _, _, rfl, rfl, s10 _ _ ez, ew, ?_, fun r nr => ?_⟩
          · rw [List.length_append, List.length_take, List.length_drop]
            exact Nat.le_of_lt (small1000 (by show _ + 1 + _ ≤ 1000; omega))
          have s11 := same_upd (o := .lst ((vs.take k ++ [.ref t']) ++ vs.drop (k + 1))) nr
          have s210 := s29.trans s10
          have nr2 : H2 r = none := by
            cases e : H2 r with
            | none => rfl
            | some o => have := s210 _ _ e; rw [nr] at this; cases this
          have s211 := s210.trans s11
          have tail := ((s8.trans s9).trans s10).trans s11
          refine q r ((bk.take k ++ [⟨lf.L, lf.fr, zs, []⟩]) ++ bk.drop (k + 1)) _ (srcS s211 s2) (b02.trans (But.of s211)) (fresh nr2) ⟨_, upd_same, ?_⟩ (okBk_set ok el ⟨okl.1, okl.2.1, hr, rfl⟩ rfl)
          rw [List.map_append, List.map_append, List.map_take, List.map_drop]
          refine ((((tv2.take k).nl (NL.of s211)).app (.cons ?_ .nil)).app ((tv2.drop (k + 1)).nl (NL.of s211)))
          exact .tup (tail _ _ ht') (.cons (tpL (s211 _ _ hlb)) (.cons (tpS (s211 _ _ hf)) (.cons (tpS ((((s5.trans s6).trans s7).trans tail) _ _ hg)) (.cons (.tup ((s7.trans tail) _ _ he1) .nil) .nil))))
theorem ok_bad_pages (T : Tab K mg) : FnOk P w K mg base CX0 2 T.f_bad_pages T.d_bad_pages ["_law_source_here", "_law_leaves_here", "_law_pages"] (sp_bad_pages K) := by
  refine T.F_bad_pages.ok sc_bad_pages (fun vs H Q E h => ?_) (fun cdv A outer s H vs Q E hr h => ?_)
  · obtain ⟨a, l, b, us, bk, ps, rfl, _⟩ := h
    rfl
  · obtain ⟨a, l, b, us, bk, ps, rfl, src, la, ⟨vs, hl, tv⟩, ok, hb, tu, hs, up, q⟩ := h
    refine ⟨_, (pss_cons (ps_set (i := 3) sc_bad_pages.nd rfl (.inl rfl) (pe_call (ok_pick T) (hr.mono (by decide)) (by rfl) T.g_pick T.F_pick.kp T.b_pick .nil pass0 (pa_cons (pv 0) (pa_cons pe_int pa_nil))))
      (pss_cons (ps_set (i := 4) sc_bad_pages.nd rfl (.inl rfl) (pe_call (ok_pick T) (hr.mono (by decide)) (by rfl) T.g_pick T.F_pick.kp T.b_pick .nil pass0 (pa_cons (pv 0) (pa_cons (pe_callB call_len_seq (by rfl) T.m_len PySem.boot_len (pa_cons (pv 2) pa_nil)) pa_nil))))
      (pss_cons (ps_setLc (i := 5) (own := [("_law_one", 8)]) (g := gName 8) (by rfl) sc_bad_pages.nd rfl rfl (sw_true rfl rfl rfl (by decide +kernel)) (pi_list (pv 1)) (blkOk_by (own := [("_law_one", 8)]) (N := N_bad_pages) (sc := defScope s_bad_pages) (by decide +kernel)) (fun _ _ _ _ _ => pg_name (i := 8) sc_bad_pages.nd rfl (.inl rfl)) (fun _ _ _ _ _ => (pts_one (pt_not (pt_truthK (K := K) rfl (pe_ix (ix_tupK (K := K) rfl) (pv 8) pe_int (fun _ _ => rfl)) (fun _ => rfl))))) (fun _ _ _ _ _ => (pe_tup (pa_cons (pe_ix (ix_tupK (K := K) rfl) (pv 8) pe_int (fun _ _ => rfl)) (pa_cons pe_int pa_nil)))))
      (pss_cons (ps_setLc (i := 6) (own := [("_law_k", 9)]) (g := gName 9) (by rfl) sc_bad_pages.nd rfl rfl (sw_true rfl rfl rfl (by decide +kernel)) (pi_range1 (by rfl) T.m_range (pa_cons (pe_callB call_len_seq (by rfl) T.m_len PySem.boot_len (pa_cons (pv 2) pa_nil)) pa_nil)) (blkOk_by (own := [("_law_k", 9)]) (N := N_bad_pages) (sc := defScope s_bad_pages) (by decide +kernel)) (fun _ _ _ _ _ => pg_name (i := 9) sc_bad_pages.nd rfl (.inl rfl)) (fun _ _ _ _ _ => (pts_one (pt_cmpR op_lt (pe_callB (cr_minTK (K := K) rfl rfl (un2 hr)) (by rfl) T.m_min (by decide +kernel) (pa_cons (pe_ix (ix_tupK (K := K) rfl) (pe_ix (ix_tupK (K := K) rfl) (pv 2) (pv 9) (fun _ _ => rfl)) pe_int (fun _ _ => rfl)) pa_nil)) pe_int (nomark _)))) (fun _ _ _ _ _ => (pv 9)))
      (pss_cons (ps_if (PW.pt (pw_and (pt_cmpR op_eq (pv 3) pe_int (nomark _)) (pw_and1 (pt_truth (pv 5) (fun _ => rfl)))))
      (pss_one (ps_ret (pe_callTy call_tuple_of (by rfl) T.m_tuple (by decide +kernel) (pa_cons (pe_callB (cr_sortedD (un2 hr)) (by rfl) T.m_sorted (by decide +kernel) (pa_cons (pe_op op_cat (pe_callTy call_list_of (by rfl) T.m_list (by decide +kernel) (pa_cons (pv 2) pa_nil)) (pe_lst (pa_cons (pe_ix ix_list (pv 5) (pe_call (ok_pick T) (hr.mono (by decide)) (by rfl) T.g_pick T.F_pick.kp T.b_pick .nil pass0 (pa_cons (pv 0) (pa_cons (pe_callB call_len_seq (by rfl) T.m_len PySem.boot_len (pa_cons (pv 5) pa_nil)) pa_nil))) (fun _ _ => rfl)) pa_nil))) pa_nil)) pa_nil))))
      pss_nil)
      (pss_cons (ps_if (PW.pt (pw_and (pt_cmpR op_eq (pv 3) pe_int (nomark _)) (pw_and1 (pt_cmpR op_lt (pe_op op_add (pv 4) pe_int) (pe_callB call_len_seq (by rfl) T.m_len PySem.boot_len (pa_cons (pv 2) pa_nil)) (nomark _)))))
      (pss_one (ps_ret (pe_op op_catA (pe_op op_catA (pe_slice sl_tupA (pv 2) po_none (po_some (pv 4))) (pe_tup (pa_cons (pe_ix ix_tup (pv 2) (pe_op op_add (pv 4) pe_int) (fun _ _ => rfl)) (pa_cons (pe_ix ix_tup (pv 2) (pv 4) (fun _ _ => rfl)) pa_nil)))) (pe_slice sl_tupA (pv 2) (po_some (pe_op op_add (pv 4) pe_int)) po_none))))
      pss_nil)
      (pss_cons (ps_if (PW.pt (pw_and (pt_cmpR op_eq (pv 3) pe_int (nomark _)) (pw_and1 (pt_truth (pv 2) (fun _ => rfl)))))
      (pss_one (ps_ret (pe_op op_catA (pe_slice sl_tupA (pv 2) po_none (po_some (pe_op op_add (pv 4) pe_int))) (pe_slice sl_tupA (pv 2) (po_some (pv 4)) po_none))))
      pss_nil)
      (pss_cons (ps_if (PW.pt (pw_and (pt_cmpR op_eq (pv 3) pe_int (nomark _)) (pw_and1 (pt_truth (pv 2) (fun _ => rfl)))))
      (pss_one (ps_ret (pe_op op_catA (pe_op op_catA (pe_slice sl_tupA (pv 2) po_none (po_some (pv 4))) (pe_tup (pa_cons (pe_tup (pa_cons (pe_ix ix_tup (pe_ix ix_tup (pv 2) (pv 4) (fun _ _ => rfl)) pe_int (fun _ _ => rfl)) (pa_cons (pe_cmpR op_eq (pe_ix ix_tup (pe_ix ix_tup (pv 2) (pv 4) (fun _ _ => rfl)) pe_int (fun _ _ => rfl)) pe_int (nomark _)) pa_nil))) pa_nil))) (pe_slice sl_tupA (pv 2) (po_some (pe_op op_add (pv 4) pe_int)) po_none))))
      pss_nil)
      (pss_cons (ps_if (PW.pt (pw_and (pt_cmpR op_eq (pv 3) pe_int (nomark _)) (pw_and1 (pt_truth (pv 6) (fun _ => rfl)))))
      (pss_cons (ps_set (i := 4) sc_bad_pages.nd rfl (.inl rfl) (pe_ix ix_list (pv 6) (pe_call (ok_pick T) (hr.mono (by decide)) (by rfl) T.g_pick T.F_pick.kp T.b_pick .nil pass0 (pa_cons (pv 0) (pa_cons (pe_callB call_len_seq (by rfl) T.m_len PySem.boot_len (pa_cons (pv 6) pa_nil)) pa_nil))) (fun _ _ => rfl)))
        (pss_one (ps_ret (pe_op op_catA (pe_op op_catA (pe_slice sl_tupA (pv 2) po_none (po_some (pv 4))) (pe_tup (pa_cons (pe_tup (pa_cons (pe_call (ok_truths T) (hr.mono (by decide)) (by rfl) T.g_truths T.F_truths.kp T.b_truths .nil pass0 (pa_cons (pe_ix ix_tup (pe_ix ix_tup (pv 2) (pv 4) (fun _ _ => rfl)) pe_int (fun _ _ => rfl)) pa_nil)) (pa_cons (pe_ix ix_tup (pe_ix ix_tup (pv 2) (pv 4) (fun _ _ => rfl)) pe_int (fun _ _ => rfl)) pa_nil))) pa_nil))) (pe_slice sl_tupA (pv 2) (po_some (pe_op op_add (pv 4) pe_int)) po_none)))))
      pss_nil)
      (pss_cons (ps_if (pt_cmpR op_eq (pv 3) pe_int (nomark _))
      (pss_one (ps_ret (pe_ix ix_list (pe_lst (pa_cons pe_non (pa_cons pe_int (pa_cons pe_str (pa_cons pe_str (pa_cons pe_bl (pa_cons pe_int pa_nil))))))) (pe_call (ok_pick T) (hr.mono (by decide)) (by rfl) T.g_pick T.F_pick.kp T.b_pick .nil pass0 (pa_cons (pv 0) (pa_cons pe_int pa_nil))) (fun _ _ => rfl))))
      pss_nil)
      (pss_cons (ps_if (pt_cmpR op_eq (pv 3) pe_int (nomark _))
      (pss_cons (ps_set (i := 7) sc_bad_pages.nd rfl (.inl rfl) (pe_lst (pa_cons pe_non (pa_cons pe_int (pa_cons pe_str (pa_cons (pe_tup pa_nil) (pa_cons (pe_tup (pa_cons (pe_tup (pa_cons pe_int pa_nil)) pa_nil)) (pa_cons (pe_tup (pa_cons (pe_tup (pa_cons pe_int pa_nil)) (pa_cons pe_int pa_nil))) (pa_cons (pe_tup (pa_cons (pe_tup (pa_cons pe_int pa_nil)) (pa_cons pe_str pa_nil))) (pa_cons (pe_tup (pa_cons pe_int (pa_cons pe_int pa_nil))) (pa_cons (pe_tup (pa_cons (pe_tup (pa_cons pe_int pa_nil)) (pa_cons pe_int (pa_cons pe_int pa_nil)))) (pa_cons (pe_tup (pa_cons (pe_tup (pa_cons pe_int pa_nil)) (pa_cons pe_non pa_nil))) pa_nil))))))))))))
        (pss_one (ps_ret (pe_op op_catA (pe_op op_catA (pe_slice sl_tupA (pv 2) po_none (po_some (pv 4))) (pe_tup (pa_cons (pe_ix ix_list (pv 7) (pe_call (ok_pick T) (hr.mono (by decide)) (by rfl) T.g_pick T.F_pick.kp T.b_pick .nil pass0 (pa_cons (pv 0) (pa_cons pe_int pa_nil))) (fun _ _ => rfl)) pa_nil))) (pe_slice sl_tupA (pv 2) (po_some (pv 4)) po_none)))))
      pss_nil)
      (pss_one (ps_ret (pe_callTy call_tuple_of (by rfl) T.m_tuple (by decide +kernel) (pa_cons (pe_callB (cr_sortedD (un2 hr)) (by rfl) T.m_sorted (by decide +kernel) (pa_cons (pe_op op_cat (pe_callTy call_list_of (by rfl) T.m_list (by decide +kernel) (pa_cons (pv 2) pa_nil)) (pe_lst (pa_cons (pe_tup (pa_cons (pe_call (ok_stranger T) (hr.mono (by decide)) (by rfl) T.g_stranger T.F_stranger.kp T.b_stranger .nil pass0 (pa_cons (pv 1) pa_nil)) (pa_cons (pe_call (ok_pick T) (hr.mono (by decide)) (by rfl) T.g_pick T.F_pick.kp T.b_pick .nil pass0 (pa_cons (pv 0) (pa_cons pe_int pa_nil))) pa_nil))) pa_nil))) pa_nil)) pa_nil))))))))))))))), ?_⟩
    have h60 := ok.1
    have lS := shownP_len bk
    have lps : ps.length ≤ 120 := by
      have := nodup_sub (m := shownP bk) (up.imp fun {x y} h e => by rw [e, ltP_irr] at h; cases h) hs
      omega
    have lu := tu.len
    rw [List.length_map] at lu
    have lv := tv.len
    rw [List.length_map] at lv
    have okp : ∀ p ∈ ps, okP p := fun p hp => shown_okP ok p (hs p hp)
    refine ⟨_, rfl, a, 8, rfl, src, by decide, by decide, fun way H1 s1 b1 w0 w8 => ?_⟩
    have n1 : NL H H1 := src.nl b1
    refine ⟨_, rfl, _, rfl, b, us, rfl, .inr (n1.seqT hb), a, _, rfl, s1, by omega, by omega, fun at_ H2 s2 b2 a0 a1 => ?_⟩
    have b02 := b1.trans b2
    have n2 : NL H H2 := src.nl b02
    have hl2 := b02 _ _ la hl
    refine ⟨_, rfl, l, rfl, ⟨_, .inl (.inl hl2)⟩, fun D nD => ?_⟩
    refine lc_tp bk (fun y => if decide (y.bk = []) = true then some (dP (y.L, 1)) else none) (walkL (xs := vs) lv) nD (fun H h => .inl (.inl (h _ _ hl2))) (by omega) ?_ ?_
    · rintro i y z H4x H4 er sm ⟨rfl, hy⟩ R N hR hN
      obtain ⟨lf, el, td⟩ := lv_get tv hy
      rw [er] at el
      cases el
      obtain ⟨t, u1, u2, u3, u4, rfl, ht, t1, t2, t3⟩ := dLf_inv ((td.nl n2).nl (NL.of sm))
      obtain ⟨gl, rfl, hgl⟩ := tpL_inv t1
      obtain ⟨gb, rfl, hgb⟩ := tpS_inv t3
      refine ⟨rfl, ?_⟩
      refine ⟨_, rfl, t, _, 2, _, rfl, rfl, .inl (.inl ht), rfl, _, tru_tup (.inl (.inl hgb)), ?_⟩
      by_cases eb : y.bk = []
      · show _
        rw [eb]
        refine ⟨_, rfl, t, _, 0, _, rfl, rfl, .inl (.inl ht), rfl, (by show 2 ≤ sizeLine; decide), fun p np => ?_⟩
        have sp := same_upd (o := .tup [.ref gl, .int 1]) np
        exact hR _ _ (if_pos (decide_eq_true eb)) _ sp (tpP (p := (y.L, 1)) upd_same (sp _ _ hgl))
      · have e2 : (!(y.bk.map V.str).isEmpty) = true := by
          cases e : y.bk with
          | nil => exact absurd e eb
          | cons _ _ => rfl
        show _
        rw [e2]
        exact hN (if_neg (by rw [decide_eq_false eb]; decide)) _ (Same.refl _)
    rintro H3 ws s3 eD tw
    have n3 : NL H H3 := n2.trans (NL.of s3)
    have hb3 := n3.seqT (K := K) hb
    have tu3 := tu.nl n3
    have sr3 := srcS s3 s2
    have b03 : But a H H3 := b02.trans (But.of s3)
    have hl3 := s3 _ _ hl2
    have sr2 : Src H2 a := s2
    clear s1 s2 b1 b2 n1 n2 hl2
    refine ⟨_, rfl, b, us, rfl, .inr hb3, _, rfl, by omega, by omega, fun D2 nD2 => ?_⟩
    refine lc_range (lo := 0) (n := (us.length : Int).toNat) (fun j H' => Same H3 H' ∧ ∃ ks : List Nat, H' D2 = some (.lst (ks.map fun (k : Nat) => V.int (k : Int))) ∧ ks.length ≤ j ∧ ∀ k ∈ ks, ∃ p, ps[k]? = some p ∧ ∃ i ∈ p.1, i < 2) ⟨same_upd nD2, [], upd_same, Nat.le_refl _, fun _ h => nomatch h⟩ ?_ ?_
    · rintro j H4 hj ⟨s4, ks, eD2, lks, hks⟩
      have hj : j < us.length := by omega
      refine ⟨rfl, ?_⟩
      obtain ⟨x, ex⟩ : ∃ x, us[j]? = some x := ⟨_, List.getElem?_eq_getElem hj⟩
      obtain ⟨d, ed, tx⟩ := (tu3.nl (NL.of s4)).get ex
      obtain ⟨p, ep, rfl⟩ : ∃ p, ps[j]? = some p ∧ d = dP p := by
        rw [List.getElem?_map] at ed
        cases e : ps[j]? with
        | none => rw [e] at ed; cases ed
        | some l => rw [e] at ed; exact ⟨l, rfl, (Option.some.inj ed).symm⟩
      obtain ⟨t, l1, rfl, ht, hl1⟩ := tpP_inv tx
      obtain ⟨n, ns, en⟩ : ∃ n ns, p.1 = n :: ns := by
        cases e : p.1 with
        | nil => exact absurd (by rw [e]; rfl) (okp p (List.mem_of_getElem? ep)).1.2.1
        | cons n ns => exact ⟨n, ns, rfl⟩
      refine ⟨_, rfl, _, rfl, b, us, _, .ref t, rfl, rfl, same_seqT s4 hb3, at_of' (j := j) (by omega) ex, t, _, 0, _, rfl, rfl, .inl (.inl ht), rfl, l1, n, ns, rfl, .inl (.inl (by rw [← en]; exact hl1)), _, _, rfl, rfl, _, rfl, ite2 (fun e => ?_) (fun e => ?_)⟩
      · refine ⟨_, rfl, _, eD2, small1000 (by rw [List.length_map]; omega), same_put s4 nD2 _, ks ++ [j], ?_, ?_, fun k hk => ?_⟩
        · rw [upd_same, List.map_append, Int.zero_add]; rfl
        · rw [List.length_append]; show ks.length + 1 ≤ _; omega
        · rcases List.mem_append.mp hk with h | h
          · exact hks k h
          · rw [List.mem_singleton.mp h]
            obtain ⟨i, hi, li⟩ := fmin_lt (of_decide_eq_true e)
            exact ⟨p, ep, i, by rw [en]; exact hi, li⟩
      · exact ⟨s4, ks, eD2, by omega, hks⟩
    rintro H4 ⟨s4, ks, eD2, lks, hks⟩
    have n4 := n3.trans (NL.of s4)
    have hb4 : SqT K H4 b us := n4.seqT hb
    have tu4 := tu.nl n4
    have sr4 : Src H4 a := srcS s4 sr3
    have b04 := b03.trans (But.of s4)
    have eD4 := s4 _ _ eD
    have tw4 := tw.nl (NL.of s4)
    have hl4 := s4 _ _ hl3
    have tv4 := tv.nl n4
    have nD3 : D ≠ a := (sr2.ne nD).symm
    have nD23 : D2 ≠ a := (sr3.ne nD2).symm
    have lw : ws.length ≤ 60 := by
      rw [tw.len]
      exact Nat.le_trans (List.length_filterMap_le ..) h60
    have lks : ks.length ≤ 120 := by omega
    clear tw s4 hl3 sr2 nD nD2 eD n3 b02 b03 sr3 hb3 tu3 s3
    have out : ∀ {v : V} {H9 : Hp} {d : PyData}, Src H9 a → But a H4 H9 → Dp K H9 v d → (∀ qs, ¬ GoodPs bk d qs) → (∀ ds, items d = some ds → ds.length ≤ 200) → Q v H9 := fun sr bt dd ng ld => q _ _ _ sr (b04.trans bt) dd ng ld
    have dpb : ∀ {H9 : Hp}, NL H4 H9 → Dp K H9 (.ref b) (.tuple (ps.map dP)) := fun n => .tup (n.seqT hb4) (tu4.nl n).dp
    have lds : ∀ {es : List PyData}, es.length ≤ 200 → ∀ ds, items (.tuple es) = some ds → ds.length ≤ 200 := fun h ds e => by cases e; exact h
    have pg : ∀ {i : Nat}, i < us.length → ∃ (t l1 : Addr) (p : Pg), us[i]? = some (.ref t) ∧ ps[i]? = some p ∧ H4 t = some (.tup [.ref l1, .int p.2]) ∧ H4 l1 = some (.tup (p.1.map V.int)) ∧ Tp H4 (.ref t) (dP p) := fun {i} hi => by
      obtain ⟨x, ex⟩ : ∃ x, us[i]? = some x := ⟨_, List.getElem?_eq_getElem hi⟩
      obtain ⟨d, ed, tx⟩ := tu4.get ex
      obtain ⟨p, ep, rfl⟩ : ∃ p, ps[i]? = some p ∧ d = dP p := by
        rw [List.getElem?_map] at ed
        cases e : ps[i]? with
        | none => rw [e] at ed; cases ed
        | some l => rw [e] at ed; exact ⟨l, rfl, (Option.some.inj ed).symm⟩
      obtain ⟨t, l1, rfl, ht, hl1⟩ := tpP_inv tx
      exact ⟨t, l1, p, ex, ep, ht, hl1, tx⟩
    have fin : ∀ {y : Addr} {H6 : Hp} {x : V} {p0 : Pg}, Src H6 a → But a H4 H6 → H6 y = some (.lst (us ++ [x])) → Tp H6 x (dP p0) → okP p0 → p0 ∉ shownP bk →
        rSortedD K [V.ref y] H6 (fun x H' => ∃ p ys, [x] = [V.ref p] ∧ ((SqL K H' p ys ∧ ∀ l, H' l = none → Q (.ref l) (upd H' l (.tup ys))) ∨ SqT K H' p ys ∧ Q (.ref p) H')) := by
      intro y H6 x p0 sr6 b6 hy tx ok0 no
      have tc : TpAll H6 (us ++ [x]) ((ps ++ [p0]).map dP) := by
        rw [List.map_append]
        exact (tu4.nl (sr4.nl b6)).snoc tx
      obtain ⟨qs, pq, tq⟩ := srt_Ps tc
      refine ⟨y, us ++ [x], (ps ++ [p0]).map dP, rfl, .inl (.inl hy), tc.dp, alike_Ps _, sortable_Ps _, ?_, fun r nr => ?_⟩
      · intro d hd
        obtain ⟨p, _, rfl⟩ := List.mem_map.mp hd
        exact Nat.le_trans (depthP _) (by decide)
      have s7 := same_upd (o := .lst ((srtV (us ++ [x]) ((ps ++ [p0]).map dP)).map Prod.fst)) nr
      refine ⟨r, _, rfl, .inl ⟨.inl (.inl upd_same), fun t nt => ?_⟩⟩
      have s8 := s7.trans (same_upd (o := .tup ((srtV (us ++ [x]) ((ps ++ [p0]).map dP)).map Prod.fst)) nt)
      refine out (d := dPs qs) (srcS s8 sr6) (b6.trans (But.of s8)) (.tup (.inl (.inl upd_same)) (tq.nl (NL.of s8)).dp) (bad_out (fun p hp => ?_) (pq.mem_iff.mpr (by simp)) no) (lds ?_)
      · rcases List.mem_append.mp (pq.mem_iff.mp hp) with h | h
        · exact okp p h
        · rw [List.mem_singleton.mp h]; exact ok0
      · rw [List.length_map, pq.length_eq, List.length_append]
        show ps.length + 1 ≤ 200
        omega
    obtain ⟨n, rfl⟩ : ∃ n : Nat, at_ = (n : Int) := ⟨at_.toNat, (Int.toNat_of_nonneg a0).symm⟩
    have hw : way = 0 ∨ way = 1 ∨ way = 2 ∨ way = 3 ∨ way = 4 ∨ way = 5 ∨ way = 6 ∨ way = 7 := by omega
    clear w0 w8
    rcases hw with rfl | rfl | rfl | rfl | rfl | rfl | rfl | rfl
    · show _
      refine ⟨_, rfl, rfl, true, congrArg V.bl (decide_eq_true rfl), iteT ?_⟩
      refine ⟨_, rfl, _, tru_lst (.inl (.inl eD4)), ?_⟩
      cases e : (!ws.isEmpty) with
      | false =>
        refine iteF ?_
        refine ⟨_, rfl, rfl, false, congrArg V.bl (ne_way (by decide)), iteF (iteF ?_)⟩
        refine ⟨_, rfl, rfl, false, congrArg V.bl (ne_way (by decide)), iteF (iteF ?_)⟩
        refine ⟨_, rfl, rfl, false, congrArg V.bl (ne_way (by decide)), iteF (iteF ?_)⟩
        refine ⟨_, rfl, rfl, false, congrArg V.bl (ne_way (by decide)), iteF (iteF ?_)⟩
        refine ⟨_, rfl, rfl, false, congrArg V.bl (ne_way (by decide)), iteF ?_⟩
        refine ⟨_, rfl, rfl, false, congrArg V.bl (ne_way (by decide)), iteF ?_⟩
        refine ⟨_, rfl, b, us, rfl, .inr hb4, fun z nz => ?_⟩
        have s5 := same_upd (o := .lst us) nz
        have hz : upd H4 z (.lst us) z = some (.lst us) := upd_same
        generalize upd H4 z (.lst us) = H5 at s5 hz
        have za : z ≠ a := (sr4.ne nz).symm
        refine ⟨_, rfl, l, bk, rfl, ⟨vs, s5 _ _ hl4, tv4.nl (NL.of s5)⟩, h60, fun g k H6 s6 hg k1 k99 nk => ?_⟩
        have s56 := s5.trans s6
        refine ⟨_, rfl, a, 2, rfl, srcS s56 sr4, by decide, by decide, fun i H7 s7 b7 i0 i1 => ?_⟩
        have tg := (tpL (L := [k]) hg).nl ((srcS s56 sr4).nl b7)
        obtain ⟨g', eg, hg7⟩ := tpL_inv tg
        cases eg
        refine ⟨(by show 2 ≤ sizeLine; decide), fun t nt => ?_⟩
        have s8 := same_upd (o := .tup [.ref g, .int i]) nt
        have ht : Tp (upd H7 t (.tup [.ref g, .int i])) (.ref t) (dP ([k], i)) := tpP upd_same (s8 _ _ hg7)
        generalize upd H7 t (.tup [.ref g, .int i]) = H8 at s8 ht
        refine ⟨(by show 1 ≤ sizeLine; decide), fun w nw => ?_⟩
        have s9 := same_upd (o := .lst [.ref t]) nw
        have hw : upd H8 w (.lst [.ref t]) w = some (.lst [.ref t]) := upd_same
        generalize upd H8 w (.lst [.ref t]) = H9 at s9 hw
        refine ⟨z, w, _, _, rfl, rfl, (s8.trans s9) _ _ (b7 _ _ za (s6 _ _ hz)), hw, Nat.le_of_lt (small1000 (by show us.length + 1 ≤ 1000; omega)), fun y ny => ?_⟩
        have s10 := same_upd (o := .lst (us ++ [.ref t])) ny
        have s810 := (s8.trans s9).trans s10
        exact fin (srcS s810 s7) (((But.of s56).trans b7).trans (But.of s810)) upd_same (ht.nl (NL.of (s9.trans s10))) ⟨⟨by show 1 ≤ 3; decide, by show k ≠ 0; omega, fun j hj => by rw [List.mem_singleton.mp hj]; omega⟩, by show i = 0 ∨ i = 1; omega⟩ (strange_out nk)
      | true =>
        have hne : 1 ≤ ws.length := by
          cases ws with
          | nil => cases e
          | cons _ _ => exact Nat.le_add_left _ _
        refine iteT ⟨_, rfl, b, us, rfl, .inr hb4, fun z nz => ?_⟩
        have s5 := same_upd (o := .lst us) nz
        have hz : upd H4 z (.lst us) z = some (.lst us) := upd_same
        generalize upd H4 z (.lst us) = H5 at s5 hz
        have za : z ≠ a := (sr4.ne nz).symm
        have eD5 := s5 _ _ eD4
        refine ⟨_, rfl, _, rfl, _, rfl, D, ws, rfl, .inl (.inl (.inl eD5)), a, _, rfl, srcS s5 sr4, by omega, by omega, fun i H6 s6 b6 i0 i1 => ?_⟩
        obtain ⟨x, ex⟩ : ∃ x, ws[i.toNat]? = some x := ⟨_, List.getElem?_eq_getElem (by omega)⟩
        obtain ⟨d, ed, tx⟩ := ((tw4.nl (NL.of s5)).nl ((srcS s5 sr4).nl b6)).get ex
        obtain ⟨y, hy, ey⟩ := List.mem_filterMap.mp (List.mem_of_getElem? ed)
        by_cases eb : y.bk = []
        · rw [if_pos (decide_eq_true eb)] at ey
          cases ey
          refine ⟨D, ws, i, x, rfl, rfl, .inl (.inl (b6 _ _ nD3 eD5)), at_of' (Int.toNat_of_nonneg i0).symm ex, (by show 1 ≤ sizeLine; decide), fun g ng => ?_⟩
          have s7 := same_upd (o := .lst [x]) ng
          have hg : upd H6 g (.lst [x]) g = some (.lst [x]) := upd_same
          generalize upd H6 g (.lst [x]) = H7 at s7 hg
          refine ⟨z, g, _, _, rfl, rfl, s7 _ _ (b6 _ _ za hz), hg, Nat.le_of_lt (small1000 (by show us.length + 1 ≤ 1000; omega)), fun u nu => ?_⟩
          have s8 := s7.trans (same_upd (o := .lst (us ++ [x])) nu)
          exact fin (srcS s8 s6) (((But.of s5).trans b6).trans (But.of s8)) upd_same (tx.nl (NL.of s8)) ⟨(ok.2.1 y hy).1, .inr rfl⟩ (blank_out ok hy eb)
        · rw [if_neg (by rw [decide_eq_false eb]; decide)] at ey
          cases ey
    · show _
      refine ⟨_, rfl, rfl, false, congrArg V.bl (ne_way (by decide)), iteF (iteF ?_)⟩
      refine ⟨_, rfl, rfl, true, congrArg V.bl (decide_eq_true rfl), iteT ?_⟩
      refine ⟨_, rfl, _, _, rfl, rfl, _, rfl, b, us, rfl, .inr hb4, _, _, rfl, rfl, _, rfl, ite2 (fun e => ?_) (fun e => ?_)⟩
      · have e : (n : Int) + 1 < us.length := of_decide_eq_true e
        obtain ⟨t0, l0, p0, ex0, ep0, _, _, tx0⟩ := pg (i := n) (by omega)
        obtain ⟨t1, l1, p1, ex1, ep1, _, _, tx1⟩ := pg (i := n + 1) (by omega)
        refine ⟨_, rfl, _, rfl, _, rfl, sl_to (n := n) (dpb (NL.refl _)) fun v1 H5 s5 d1 => ?_⟩
        refine ⟨_, rfl, _, rfl, _, _, rfl, rfl, b, us, _, .ref t1, rfl, rfl, same_seqT s5 hb4, at_of' (j := n + 1) rfl ex1, _, rfl, _, rfl, b, us, _, .ref t0, rfl, rfl, same_seqT s5 hb4, at_of' (j := n) rfl ex0, (by show 2 ≤ sizeLine; decide), fun t nt => ?_⟩
        have s6 := same_upd (o := .tup [.ref t1, .ref t0]) nt
        have dt : Dp K (upd H5 t (.tup [.ref t1, .ref t0])) (.ref t) (.tuple [dP p1, dP p0]) := .tup (.inl (.inl upd_same)) (.cons (tx1.nl (NL.of (s5.trans s6))).dp (.cons (tx0.nl (NL.of (s5.trans s6))).dp .nil))
        generalize upd H5 t (.tup [.ref t1, .ref t0]) = H6 at s6 dt
        refine cat_dp (dp_same s6 d1) dt (by rw [List.length_take, List.length_map]; show _ + 2 ≤ 1000; omega) fun v2 H7 s7 d2 => ?_
        have s57 := (s5.trans s6).trans s7
        refine ⟨_, rfl, _, rfl, _, _, rfl, rfl, _, rfl, noPart (sl_from (n := n + 2) (dpb (NL.of s57)) fun v3 H8 s8 d3 => ?_)⟩
        refine cat_dp (dp_same s8 d2) d3 (by rw [List.length_append, List.length_take, List.length_drop, List.length_map]; show _ + 2 + _ ≤ 1000; omega) fun v4 H9 s9 d4 => ?_
        have s49 := (s57.trans s8).trans s9
        have ed : (List.take n (ps.map dP) ++ [dP p1, dP p0]) ++ List.drop (n + 2) (ps.map dP) = ((ps.take n ++ [p1, p0]) ++ ps.drop (n + 2)).map dP := by
          rw [List.map_append, List.map_append, List.map_take, List.map_drop]
          rfl
        rw [ed] at d4
        refine out (srcS s49 sr4) (But.of s49) d4 (bad_up (fun p hp => ?_) fun u => ?_) (lds ?_)
        · rcases List.mem_append.mp hp with h | h
          · rcases List.mem_append.mp h with h | h
            · exact okp p (List.mem_of_mem_take h)
            · rcases List.mem_cons.mp h with rfl | h
              · exact okp p (List.mem_of_getElem? ep1)
              · rw [List.mem_singleton.mp h]; exact okp _ (List.mem_of_getElem? ep0)
          · exact okp p (List.mem_of_mem_drop h)
        · have := up_at up ep0 ep1 (Nat.lt_succ_self n)
          rw [ltP_asym (up_mid u)] at this
          cases this
        · rw [List.length_map, List.length_append, List.length_append, List.length_take, List.length_drop]
          show _ + 2 + _ ≤ 200
          omega
      · show _
        refine ⟨_, rfl, rfl, false, congrArg V.bl (ne_way (by decide)), iteF (iteF ?_)⟩
        refine ⟨_, rfl, rfl, false, congrArg V.bl (ne_way (by decide)), iteF (iteF ?_)⟩
        refine ⟨_, rfl, rfl, false, congrArg V.bl (ne_way (by decide)), iteF (iteF ?_)⟩
        refine ⟨_, rfl, rfl, false, congrArg V.bl (ne_way (by decide)), iteF ?_⟩
        refine ⟨_, rfl, rfl, false, congrArg V.bl (ne_way (by decide)), iteF ?_⟩
        refine ⟨_, rfl, b, us, rfl, .inr hb4, fun z nz => ?_⟩
        have s5 := same_upd (o := .lst us) nz
        have hz : upd H4 z (.lst us) z = some (.lst us) := upd_same
        generalize upd H4 z (.lst us) = H5 at s5 hz
        have za : z ≠ a := (sr4.ne nz).symm
        refine ⟨_, rfl, l, bk, rfl, ⟨vs, s5 _ _ hl4, tv4.nl (NL.of s5)⟩, h60, fun g k H6 s6 hg k1 k99 nk => ?_⟩
        have s56 := s5.trans s6
        refine ⟨_, rfl, a, 2, rfl, srcS s56 sr4, by decide, by decide, fun i H7 s7 b7 i0 i1 => ?_⟩
        have tg := (tpL (L := [k]) hg).nl ((srcS s56 sr4).nl b7)
        obtain ⟨g', eg, hg7⟩ := tpL_inv tg
        cases eg
        refine ⟨(by show 2 ≤ sizeLine; decide), fun t nt => ?_⟩
        have s8 := same_upd (o := .tup [.ref g, .int i]) nt
        have ht : Tp (upd H7 t (.tup [.ref g, .int i])) (.ref t) (dP ([k], i)) := tpP upd_same (s8 _ _ hg7)
        generalize upd H7 t (.tup [.ref g, .int i]) = H8 at s8 ht
        refine ⟨(by show 1 ≤ sizeLine; decide), fun w nw => ?_⟩
        have s9 := same_upd (o := .lst [.ref t]) nw
        have hw : upd H8 w (.lst [.ref t]) w = some (.lst [.ref t]) := upd_same
        generalize upd H8 w (.lst [.ref t]) = H9 at s9 hw
        refine ⟨z, w, _, _, rfl, rfl, (s8.trans s9) _ _ (b7 _ _ za (s6 _ _ hz)), hw, Nat.le_of_lt (small1000 (by show us.length + 1 ≤ 1000; omega)), fun y ny => ?_⟩
        have s10 := same_upd (o := .lst (us ++ [.ref t])) ny
        have s810 := (s8.trans s9).trans s10
        exact fin (srcS s810 s7) (((But.of s56).trans b7).trans (But.of s810)) upd_same (ht.nl (NL.of (s9.trans s10))) ⟨⟨by show 1 ≤ 3; decide, by show k ≠ 0; omega, fun j hj => by rw [List.mem_singleton.mp hj]; omega⟩, by show i = 0 ∨ i = 1; omega⟩ (strange_out nk)
    · show _
      refine ⟨_, rfl, rfl, false, congrArg V.bl (ne_way (by decide)), iteF (iteF ?_)⟩
      refine ⟨_, rfl, rfl, false, congrArg V.bl (ne_way (by decide)), iteF (iteF ?_)⟩
      refine ⟨_, rfl, rfl, true, congrArg V.bl (decide_eq_true rfl), iteT ?_⟩
      refine ⟨_, rfl, _, tru_tup hb4, ?_⟩
      cases e : (!us.isEmpty) with
      | false =>
        refine iteF ?_
        refine ⟨_, rfl, rfl, false, congrArg V.bl (ne_way (by decide)), iteF (iteF ?_)⟩
        refine ⟨_, rfl, rfl, false, congrArg V.bl (ne_way (by decide)), iteF (iteF ?_)⟩
        refine ⟨_, rfl, rfl, false, congrArg V.bl (ne_way (by decide)), iteF ?_⟩
        refine ⟨_, rfl, rfl, false, congrArg V.bl (ne_way (by decide)), iteF ?_⟩
        refine ⟨_, rfl, b, us, rfl, .inr hb4, fun z nz => ?_⟩
        have s5 := same_upd (o := .lst us) nz
        have hz : upd H4 z (.lst us) z = some (.lst us) := upd_same
        generalize upd H4 z (.lst us) = H5 at s5 hz
        have za : z ≠ a := (sr4.ne nz).symm
        refine ⟨_, rfl, l, bk, rfl, ⟨vs, s5 _ _ hl4, tv4.nl (NL.of s5)⟩, h60, fun g k H6 s6 hg k1 k99 nk => ?_⟩
        have s56 := s5.trans s6
        refine ⟨_, rfl, a, 2, rfl, srcS s56 sr4, by decide, by decide, fun i H7 s7 b7 i0 i1 => ?_⟩
        have tg := (tpL (L := [k]) hg).nl ((srcS s56 sr4).nl b7)
        obtain ⟨g', eg, hg7⟩ := tpL_inv tg
        cases eg
        refine ⟨(by show 2 ≤ sizeLine; decide), fun t nt => ?_⟩
        have s8 := same_upd (o := .tup [.ref g, .int i]) nt
        have ht : Tp (upd H7 t (.tup [.ref g, .int i])) (.ref t) (dP ([k], i)) := tpP upd_same (s8 _ _ hg7)
        generalize upd H7 t (.tup [.ref g, .int i]) = H8 at s8 ht
        refine ⟨(by show 1 ≤ sizeLine; decide), fun w nw => ?_⟩
        have s9 := same_upd (o := .lst [.ref t]) nw
        have hw : upd H8 w (.lst [.ref t]) w = some (.lst [.ref t]) := upd_same
        generalize upd H8 w (.lst [.ref t]) = H9 at s9 hw
        refine ⟨z, w, _, _, rfl, rfl, (s8.trans s9) _ _ (b7 _ _ za (s6 _ _ hz)), hw, Nat.le_of_lt (small1000 (by show us.length + 1 ≤ 1000; omega)), fun y ny => ?_⟩
        have s10 := same_upd (o := .lst (us ++ [.ref t])) ny
        have s810 := (s8.trans s9).trans s10
        exact fin (srcS s810 s7) (((But.of s56).trans b7).trans (But.of s810)) upd_same (ht.nl (NL.of (s9.trans s10))) ⟨⟨by show 1 ≤ 3; decide, by show k ≠ 0; omega, fun j hj => by rw [List.mem_singleton.mp hj]; omega⟩, by show i = 0 ∨ i = 1; omega⟩ (strange_out nk)
      | true =>
        have hne : 1 ≤ us.length := by
          cases us with
          | nil => cases e
          | cons _ _ => exact Nat.le_add_left _ _
        refine iteT ?_
        obtain ⟨t0, l0, p0, ex0, ep0, ht0, hl0, tx0⟩ := pg (i := n) (by omega)
        refine ⟨_, rfl, _, rfl, _, _, rfl, rfl, _, rfl, sl_to (n := n + 1) (dpb (NL.refl _)) fun v1 H5 s5 d1 => ?_⟩
        refine ⟨_, rfl, _, rfl, _, rfl, noPart (sl_from (n := n) (dpb (NL.of s5)) fun v2 H6 s6 d2 => ?_)⟩
        refine cat_dp (dp_same s6 d1) d2 (by rw [List.length_take, List.length_drop, List.length_map]; omega) fun v4 H9 s9 d4 => ?_
        have s49 := (s5.trans s6).trans s9
        have n1 : n < ps.length := (List.getElem?_eq_some_iff.mp ep0).1
        have ed : List.take (n + 1) (ps.map dP) ++ List.drop n (ps.map dP) = ((ps.take n ++ [p0]) ++ (p0 :: ps.drop (n + 1))).map dP := by
          have e1 : ps.take (n + 1) = ps.take n ++ [p0] := by rw [List.take_add_one, ep0]; rfl
          have e2 : ps.drop n = p0 :: ps.drop (n + 1) := by
            rw [List.drop_eq_getElem_cons n1]
            rw [List.getElem?_eq_getElem n1] at ep0
            rw [Option.some.inj ep0]
          rw [List.map_append, ← e1, ← e2, List.map_take, List.map_drop]
        rw [ed] at d4
        have m0 := okp _ (List.mem_of_getElem? ep0)
        refine out (srcS s49 sr4) (But.of s49) d4 (bad_up (fun p hp => ?_) fun u => up_twice u) (lds ?_)
        · rcases List.mem_append.mp hp with h | h
          · rcases List.mem_append.mp h with h | h
            · exact okp p (List.mem_of_mem_take h)
            · rw [List.mem_singleton.mp h]; exact m0
          · rcases List.mem_cons.mp h with rfl | h
            · exact m0
            · exact okp p (List.mem_of_mem_drop h)
        · rw [List.length_map, List.length_append, List.length_append, List.length_take]
          show _ + 1 + ((List.drop (n + 1) ps).length + 1) ≤ 200
          rw [List.length_drop]
          omega
    · show _
      refine ⟨_, rfl, rfl, false, congrArg V.bl (ne_way (by decide)), iteF (iteF ?_)⟩
      refine ⟨_, rfl, rfl, false, congrArg V.bl (ne_way (by decide)), iteF (iteF ?_)⟩
      refine ⟨_, rfl, rfl, false, congrArg V.bl (ne_way (by decide)), iteF (iteF ?_)⟩
      refine ⟨_, rfl, rfl, true, congrArg V.bl (decide_eq_true rfl), iteT ?_⟩
      refine ⟨_, rfl, _, tru_tup hb4, ?_⟩
      cases e : (!us.isEmpty) with
      | false =>
        refine iteF ?_
        refine ⟨_, rfl, rfl, false, congrArg V.bl (ne_way (by decide)), iteF (iteF ?_)⟩
        refine ⟨_, rfl, rfl, false, congrArg V.bl (ne_way (by decide)), iteF ?_⟩
        refine ⟨_, rfl, rfl, false, congrArg V.bl (ne_way (by decide)), iteF ?_⟩
        refine ⟨_, rfl, b, us, rfl, .inr hb4, fun z nz => ?_⟩
        have s5 := same_upd (o := .lst us) nz
        have hz : upd H4 z (.lst us) z = some (.lst us) := upd_same
        generalize upd H4 z (.lst us) = H5 at s5 hz
        have za : z ≠ a := (sr4.ne nz).symm
        refine ⟨_, rfl, l, bk, rfl, ⟨vs, s5 _ _ hl4, tv4.nl (NL.of s5)⟩, h60, fun g k H6 s6 hg k1 k99 nk => ?_⟩
        have s56 := s5.trans s6
        refine ⟨_, rfl, a, 2, rfl, srcS s56 sr4, by decide, by decide, fun i H7 s7 b7 i0 i1 => ?_⟩
        have tg := (tpL (L := [k]) hg).nl ((srcS s56 sr4).nl b7)
        obtain ⟨g', eg, hg7⟩ := tpL_inv tg
        cases eg
        refine ⟨(by show 2 ≤ sizeLine; decide), fun t nt => ?_⟩
        have s8 := same_upd (o := .tup [.ref g, .int i]) nt
        have ht : Tp (upd H7 t (.tup [.ref g, .int i])) (.ref t) (dP ([k], i)) := tpP upd_same (s8 _ _ hg7)
        generalize upd H7 t (.tup [.ref g, .int i]) = H8 at s8 ht
        refine ⟨(by show 1 ≤ sizeLine; decide), fun w nw => ?_⟩
        have s9 := same_upd (o := .lst [.ref t]) nw
        have hw : upd H8 w (.lst [.ref t]) w = some (.lst [.ref t]) := upd_same
        generalize upd H8 w (.lst [.ref t]) = H9 at s9 hw
        refine ⟨z, w, _, _, rfl, rfl, (s8.trans s9) _ _ (b7 _ _ za (s6 _ _ hz)), hw, Nat.le_of_lt (small1000 (by show us.length + 1 ≤ 1000; omega)), fun y ny => ?_⟩
        have s10 := same_upd (o := .lst (us ++ [.ref t])) ny
        have s810 := (s8.trans s9).trans s10
        exact fin (srcS s810 s7) (((But.of s56).trans b7).trans (But.of s810)) upd_same (ht.nl (NL.of (s9.trans s10))) ⟨⟨by show 1 ≤ 3; decide, by show k ≠ 0; omega, fun j hj => by rw [List.mem_singleton.mp hj]; omega⟩, by show i = 0 ∨ i = 1; omega⟩ (strange_out nk)
      | true =>
        have hne : 1 ≤ us.length := by
          cases us with
          | nil => cases e
          | cons _ _ => exact Nat.le_add_left _ _
        refine iteT ?_
        obtain ⟨t0, l0, p0, ex0, ep0, ht0, hl0, tx0⟩ := pg (i := n) (by omega)
        refine ⟨_, rfl, _, rfl, _, rfl, sl_to (n := n) (dpb (NL.refl _)) fun v1 H5 s5 d1 => ?_⟩
        refine ⟨_, rfl, _, rfl, b, us, _, .ref t0, rfl, rfl, same_seqT s5 hb4, at_of' (j := n) rfl ex0, t0, _, 0, _, rfl, rfl, .inl (.inl (s5 _ _ ht0)), rfl, _, rfl, _, rfl, b, us, _, .ref t0, rfl, rfl, same_seqT s5 hb4, at_of' (j := n) rfl ex0, t0, _, 1, _, rfl, rfl, .inl (.inl (s5 _ _ ht0)), rfl, rfl, (by show 2 ≤ sizeLine; decide), fun u nu => ?_⟩
        have s6 := same_upd (o := .tup [.ref l0, .bl (decide (V.int p0.2 = V.int 1))]) nu
        have du : Dp K (upd H5 u (.tup [.ref l0, .bl (decide (V.int p0.2 = V.int 1))])) (.ref u) (.tuple [dL p0.1, .bool (decide (V.int p0.2 = V.int 1))]) := .tup (.inl (.inl upd_same)) (.cons (tpL ((s5.trans s6) _ _ hl0)).dp (.cons (.bl _) .nil))
        generalize upd H5 u (.tup [.ref l0, .bl (decide (V.int p0.2 = V.int 1))]) = H6 at s6 du
        refine ⟨(by show 1 ≤ sizeLine; decide), fun w nw => ?_⟩
        have s7 := same_upd (o := .tup [.ref u]) nw
        have dw : Dp K (upd H6 w (.tup [.ref u])) (.ref w) (.tuple [.tuple [dL p0.1, .bool (decide (V.int p0.2 = V.int 1))]]) := .tup (.inl (.inl upd_same)) (.cons (dp_same s7 du) .nil)
        generalize upd H6 w (.tup [.ref u]) = H7 at s7 dw
        refine cat_dp (dp_same (s6.trans s7) d1) dw (by rw [List.length_take, List.length_map]; show _ + 1 ≤ 1000; omega) fun v2 H8 s8 d2 => ?_
        have s58 := ((s5.trans s6).trans s7).trans s8
        refine ⟨_, rfl, _, rfl, _, _, rfl, rfl, _, rfl, noPart (sl_from (n := n + 1) (dpb (NL.of s58)) fun v3 H9 s9 d3 => ?_)⟩
        refine cat_dp (dp_same s9 d2) d3 (by rw [List.length_append, List.length_take, List.length_drop, List.length_map]; show _ + 1 + _ ≤ 1000; omega) fun v4 H10 s10 d4 => ?_
        have s49 := (s58.trans s9).trans s10
        refine out (srcS s49 sr4) (But.of s49) d4 (bad_none rfl (e := .tuple [dL p0.1, .bool (decide (V.int p0.2 = V.int 1))]) (by simp) kept_side) (lds ?_)
        rw [List.length_append, List.length_append, List.length_take, List.length_drop, List.length_map]
        show _ + 1 + _ ≤ 200
        omega
    · show _
      refine ⟨_, rfl, rfl, false, congrArg V.bl (ne_way (by decide)), iteF (iteF ?_)⟩
      refine ⟨_, rfl, rfl, false, congrArg V.bl (ne_way (by decide)), iteF (iteF ?_)⟩
      refine ⟨_, rfl, rfl, false, congrArg V.bl (ne_way (by decide)), iteF (iteF ?_)⟩
      refine ⟨_, rfl, rfl, false, congrArg V.bl (ne_way (by decide)), iteF (iteF ?_)⟩
      refine ⟨_, rfl, rfl, true, congrArg V.bl (decide_eq_true rfl), iteT ?_⟩
      refine ⟨_, rfl, _, tru_lst (.inl (.inl eD2)), ?_⟩
      cases e : (!(ks.map fun (k : Nat) => V.int (k : Int)).isEmpty) with
      | false =>
        refine iteF ?_
        refine ⟨_, rfl, rfl, false, congrArg V.bl (ne_way (by decide)), iteF ?_⟩
        refine ⟨_, rfl, rfl, false, congrArg V.bl (ne_way (by decide)), iteF ?_⟩
        refine ⟨_, rfl, b, us, rfl, .inr hb4, fun z nz => ?_⟩
        have s5 := same_upd (o := .lst us) nz
        have hz : upd H4 z (.lst us) z = some (.lst us) := upd_same
        generalize upd H4 z (.lst us) = H5 at s5 hz
        have za : z ≠ a := (sr4.ne nz).symm
        refine ⟨_, rfl, l, bk, rfl, ⟨vs, s5 _ _ hl4, tv4.nl (NL.of s5)⟩, h60, fun g k H6 s6 hg k1 k99 nk => ?_⟩
        have s56 := s5.trans s6
        refine ⟨_, rfl, a, 2, rfl, srcS s56 sr4, by decide, by decide, fun i H7 s7 b7 i0 i1 => ?_⟩
        have tg := (tpL (L := [k]) hg).nl ((srcS s56 sr4).nl b7)
        obtain ⟨g', eg, hg7⟩ := tpL_inv tg
        cases eg
        refine ⟨(by show 2 ≤ sizeLine; decide), fun t nt => ?_⟩
        have s8 := same_upd (o := .tup [.ref g, .int i]) nt
        have ht : Tp (upd H7 t (.tup [.ref g, .int i])) (.ref t) (dP ([k], i)) := tpP upd_same (s8 _ _ hg7)
        generalize upd H7 t (.tup [.ref g, .int i]) = H8 at s8 ht
        refine ⟨(by show 1 ≤ sizeLine; decide), fun w nw => ?_⟩
        have s9 := same_upd (o := .lst [.ref t]) nw
        have hw : upd H8 w (.lst [.ref t]) w = some (.lst [.ref t]) := upd_same
        generalize upd H8 w (.lst [.ref t]) = H9 at s9 hw
        refine ⟨z, w, _, _, rfl, rfl, (s8.trans s9) _ _ (b7 _ _ za (s6 _ _ hz)), hw, Nat.le_of_lt (small1000 (by show us.length + 1 ≤ 1000; omega)), fun y ny => ?_⟩
        have s10 := same_upd (o := .lst (us ++ [.ref t])) ny
        have s810 := (s8.trans s9).trans s10
        exact fin (srcS s810 s7) (((But.of s56).trans b7).trans (But.of s810)) upd_same (ht.nl (NL.of (s9.trans s10))) ⟨⟨by show 1 ≤ 3; decide, by show k ≠ 0; omega, fun j hj => by rw [List.mem_singleton.mp hj]; omega⟩, by show i = 0 ∨ i = 1; omega⟩ (strange_out nk)
      | true =>
        have hne : 1 ≤ ks.length := by
          cases ks with
          | nil => cases e
          | cons _ _ => exact Nat.le_add_left _ _
        have lkm : (ks.map fun (k : Nat) => V.int (k : Int)).length = ks.length := List.length_map ..
        refine iteT ⟨_, rfl, _, rfl, _, rfl, D2, _, rfl, .inl (.inl (.inl eD2)), a, _, rfl, sr4, by omega, by omega, fun i H5 sr5 b5 i0 i1 => ?_⟩
        obtain ⟨k, ek⟩ : ∃ k, ks[i.toNat]? = some k := ⟨_, List.getElem?_eq_getElem (by omega)⟩
        obtain ⟨p0, ep0, j, hj, lj⟩ := hks k (List.mem_of_getElem? ek)
        have kl : k < us.length := by have := (List.getElem?_eq_some_iff.mp ep0).1; omega
        obtain ⟨t0, l0, p0', ex0, ep0', ht0, hl0, tx0⟩ := pg (i := k) kl
        rw [ep0] at ep0'
        cases ep0'
        have n5 := sr4.nl b5
        have m0 := okp _ (List.mem_of_getElem? ep0)
        refine ⟨D2, _, i, .int (k : Int), rfl, rfl, .inl (.inl (b5 _ _ nD23 eD2)), at_of' (Int.toNat_of_nonneg i0).symm (by rw [List.getElem?_map, ek]; rfl), ?_⟩
        have ht5 := n5 _ _ ht0 (fun _ z => nomatch z)
        have hl5 := n5 _ _ hl0 (fun _ z => nomatch z)
        have hb5 := n5.seqT hb4
        refine ⟨_, rfl, _, rfl, _, rfl, sl_to (n := k) (dpb n5) fun v1 H6 s6 d1 => ?_⟩
        refine ⟨_, rfl, _, rfl, b, us, _, .ref t0, rfl, rfl, same_seqT s6 hb5, at_of' (j := k) rfl ex0, t0, _, 0, _, rfl, rfl, .inl (.inl (s6 _ _ ht5)), rfl, l0, p0.1, rfl, .inl (.inl (s6 _ _ hl5)), m0.1, fun g H7 s7 dg => ?_⟩
        have s67 := s6.trans s7
        refine ⟨_, rfl, _, rfl, b, us, _, .ref t0, rfl, rfl, same_seqT s67 hb5, at_of' (j := k) rfl ex0, t0, _, 1, _, rfl, rfl, .inl (.inl (s67 _ _ ht5)), rfl, (by show 2 ≤ sizeLine; decide), fun u nu => ?_⟩
        have s8 := same_upd (o := .tup [.ref g, .int p0.2]) nu
        have du : Dp K (upd H7 u (.tup [.ref g, .int p0.2])) (.ref u) (.tuple [.tuple (p0.1.map trD), .int p0.2]) := .tup (.inl (.inl upd_same)) (.cons (dp_same s8 dg) (.cons (.int _) .nil))
        generalize upd H7 u (.tup [.ref g, .int p0.2]) = H8 at s8 du
        refine ⟨(by show 1 ≤ sizeLine; decide), fun w nw => ?_⟩
        have s9 := same_upd (o := .tup [.ref u]) nw
        have dw : Dp K (upd H8 w (.tup [.ref u])) (.ref w) (.tuple [.tuple [.tuple (p0.1.map trD), .int p0.2]]) := .tup (.inl (.inl upd_same)) (.cons (dp_same s9 du) .nil)
        generalize upd H8 w (.tup [.ref u]) = H9 at s9 dw
        have s79 := (s7.trans s8).trans s9
        refine cat_dp (dp_same s79 d1) dw (by rw [List.length_take, List.length_map]; show _ + 1 ≤ 1000; omega) fun v2 H10 s10 d2 => ?_
        have s610 := (s6.trans s79).trans s10
        refine ⟨_, rfl, _, rfl, _, _, rfl, rfl, _, rfl, noPart (sl_from (n := k + 1) (dpb (n5.trans (NL.of s610))) fun v3 H11 s11 d3 => ?_)⟩
        refine cat_dp (dp_same s11 d2) d3 (by rw [List.length_append, List.length_take, List.length_drop, List.length_map]; show _ + 1 + _ ≤ 1000; omega) fun v4 H12 s12 d4 => ?_
        have s49 := (s610.trans s11).trans s12
        refine out (srcS s49 sr5) (b5.trans (But.of s49)) d4 (bad_none rfl (e := .tuple [.tuple (p0.1.map trD), .int p0.2]) (by simp) (kept_tr (keptD_tr m0.1 hj lj))) (lds ?_)
        rw [List.length_append, List.length_append, List.length_take, List.length_drop, List.length_map]
        show _ + 1 + _ ≤ 200
        omega
    · show _
      refine ⟨_, rfl, rfl, false, congrArg V.bl (ne_way (by decide)), iteF (iteF ?_)⟩
      refine ⟨_, rfl, rfl, false, congrArg V.bl (ne_way (by decide)), iteF (iteF ?_)⟩
      refine ⟨_, rfl, rfl, false, congrArg V.bl (ne_way (by decide)), iteF (iteF ?_)⟩
      refine ⟨_, rfl, rfl, false, congrArg V.bl (ne_way (by decide)), iteF (iteF ?_)⟩
      refine ⟨_, rfl, rfl, false, congrArg V.bl (ne_way (by decide)), iteF (iteF ?_)⟩
      refine ⟨_, rfl, rfl, true, congrArg V.bl (decide_eq_true rfl), iteT ⟨(by show 6 ≤ sizeLine; decide), fun w nw => ?_⟩⟩
      have s5 := same_upd (o := .lst [.non, .int 7, .str "7a", .str "", .bl true, .int 0]) nw
      have hw : upd H4 w (.lst [.non, .int 7, .str "7a", .str "", .bl true, .int 0]) w = some (.lst [.non, .int 7, .str "7a", .str "", .bl true, .int 0]) := upd_same
      generalize upd H4 w (.lst [.non, .int 7, .str "7a", .str "", .bl true, .int 0]) = H5 at s5 hw
      have wa : w ≠ a := (sr4.ne nw).symm
      refine ⟨_, rfl, a, 6, rfl, srcS s5 sr4, by decide, by decide, fun i H6 s6 b6 i0 i1 => ?_⟩
      obtain ⟨x, ex⟩ : ∃ x, ([.non, .int 7, .str "7a", .str "", .bl true, .int 0] : List V)[i.toNat]? = some x := ⟨_, List.getElem?_eq_getElem (by show _ < 6; omega)⟩
      have ta : TpAll H6 [.non, .int 7, .str "7a", .str "", .bl true, .int 0] [.none, .int 7, .str "7a", .str "", .bool true, .int 0] := .cons .non (.cons (.int _) (.cons (.str _) (.cons (.str _) (.cons (.bl _) (.cons (.int _) .nil)))))
      obtain ⟨d, ed, tx⟩ := ta.get ex
      have hd : items d = none := by
        have md := List.mem_of_getElem? ed
        simp only [List.mem_cons, List.not_mem_nil, or_false] at md
        rcases md with rfl | rfl | rfl | rfl | rfl | rfl <;> rfl
      exact ⟨w, _, i, x, rfl, rfl, .inl (.inl (b6 _ _ wa hw)), at_of' (Int.toNat_of_nonneg i0).symm ex, out s6 ((But.of s5).trans b6) tx.dp (bad_items hd) (fun ds e => by rw [hd] at e; cases e)⟩
    · show _
      refine ⟨_, rfl, rfl, false, congrArg V.bl (ne_way (by decide)), iteF (iteF ?_)⟩
      refine ⟨_, rfl, rfl, false, congrArg V.bl (ne_way (by decide)), iteF (iteF ?_)⟩
      refine ⟨_, rfl, rfl, false, congrArg V.bl (ne_way (by decide)), iteF (iteF ?_)⟩
      refine ⟨_, rfl, rfl, false, congrArg V.bl (ne_way (by decide)), iteF (iteF ?_)⟩
      refine ⟨_, rfl, rfl, false, congrArg V.bl (ne_way (by decide)), iteF (iteF ?_)⟩
      refine ⟨_, rfl, rfl, false, congrArg V.bl (ne_way (by decide)), iteF ?_⟩
      refine ⟨_, rfl, rfl, true, congrArg V.bl (decide_eq_true rfl), iteT ?_⟩
      refine ⟨(by show 0 ≤ sizeLine; decide), fun c1 nc1 => ?_⟩
      have e1 := same_upd (o := .tup []) nc1
      have f1 : Tp (upd H4 c1 (.tup [])) (.ref c1) (.tuple []) := .tup upd_same (TpAll.nil)
      generalize upd H4 c1 (.tup []) = G1 at e1 f1
      refine ⟨(by show 1 ≤ sizeLine; decide), fun c2 nc2 => ?_⟩
      have e2 := same_upd (o := .tup [.int 7]) nc2
      have f2 : Tp (upd G1 c2 (.tup [.int 7])) (.ref c2) (.tuple [.int 7]) := .tup upd_same (TpAll.cons (.int 7) (TpAll.nil))
      generalize upd G1 c2 (.tup [.int 7]) = G2 at e2 f2
      refine ⟨(by show 1 ≤ sizeLine; decide), fun c3 nc3 => ?_⟩
      have e3 := same_upd (o := .tup [.ref c2]) nc3
      have f3 : Tp (upd G2 c3 (.tup [.ref c2])) (.ref c3) (.tuple [.tuple [.int 7]]) := .tup upd_same (TpAll.cons (f2.nl (NL.of e3)) (TpAll.nil))
      generalize upd G2 c3 (.tup [.ref c2]) = G3 at e3 f3
      refine ⟨(by show 1 ≤ sizeLine; decide), fun c4 nc4 => ?_⟩
      have e4 := same_upd (o := .tup [.int 7]) nc4
      have f4 : Tp (upd G3 c4 (.tup [.int 7])) (.ref c4) (.tuple [.int 7]) := .tup upd_same (TpAll.cons (.int 7) (TpAll.nil))
      generalize upd G3 c4 (.tup [.int 7]) = G4 at e4 f4
      refine ⟨(by show 2 ≤ sizeLine; decide), fun c5 nc5 => ?_⟩
      have e5 := same_upd (o := .tup [.ref c4, .int 2]) nc5
      have f5 : Tp (upd G4 c5 (.tup [.ref c4, .int 2])) (.ref c5) (.tuple [.tuple [.int 7], .int 2]) := .tup upd_same (TpAll.cons (f4.nl (NL.of e5)) (TpAll.cons (.int 2) (TpAll.nil)))
      generalize upd G4 c5 (.tup [.ref c4, .int 2]) = G5 at e5 f5
      refine ⟨(by show 1 ≤ sizeLine; decide), fun c6 nc6 => ?_⟩
      have e6 := same_upd (o := .tup [.int 7]) nc6
      have f6 : Tp (upd G5 c6 (.tup [.int 7])) (.ref c6) (.tuple [.int 7]) := .tup upd_same (TpAll.cons (.int 7) (TpAll.nil))
      generalize upd G5 c6 (.tup [.int 7]) = G6 at e6 f6
      refine ⟨(by show 2 ≤ sizeLine; decide), fun c7 nc7 => ?_⟩
      have e7 := same_upd (o := .tup [.ref c6, .str "a"]) nc7
      have f7 : Tp (upd G6 c7 (.tup [.ref c6, .str "a"])) (.ref c7) (.tuple [.tuple [.int 7], .str "a"]) := .tup upd_same (TpAll.cons (f6.nl (NL.of e7)) (TpAll.cons (.str "a") (TpAll.nil)))
      generalize upd G6 c7 (.tup [.ref c6, .str "a"]) = G7 at e7 f7
      refine ⟨(by show 2 ≤ sizeLine; decide), fun c8 nc8 => ?_⟩
      have e8 := same_upd (o := .tup [.int 7, .int 0]) nc8
      have f8 : Tp (upd G7 c8 (.tup [.int 7, .int 0])) (.ref c8) (.tuple [.int 7, .int 0]) := .tup upd_same (TpAll.cons (.int 7) (TpAll.cons (.int 0) (TpAll.nil)))
      generalize upd G7 c8 (.tup [.int 7, .int 0]) = G8 at e8 f8
      refine ⟨(by show 1 ≤ sizeLine; decide), fun c9 nc9 => ?_⟩
      have e9 := same_upd (o := .tup [.int 7]) nc9
      have f9 : Tp (upd G8 c9 (.tup [.int 7])) (.ref c9) (.tuple [.int 7]) := .tup upd_same (TpAll.cons (.int 7) (TpAll.nil))
      generalize upd G8 c9 (.tup [.int 7]) = G9 at e9 f9
      refine ⟨(by show 3 ≤ sizeLine; decide), fun c10 nc10 => ?_⟩
      have e10 := same_upd (o := .tup [.ref c9, .int 0, .int 0]) nc10
      have f10 : Tp (upd G9 c10 (.tup [.ref c9, .int 0, .int 0])) (.ref c10) (.tuple [.tuple [.int 7], .int 0, .int 0]) := .tup upd_same (TpAll.cons (f9.nl (NL.of e10)) (TpAll.cons (.int 0) (TpAll.cons (.int 0) (TpAll.nil))))
      generalize upd G9 c10 (.tup [.ref c9, .int 0, .int 0]) = G10 at e10 f10
      refine ⟨(by show 1 ≤ sizeLine; decide), fun c11 nc11 => ?_⟩
      have e11 := same_upd (o := .tup [.int 7]) nc11
      have f11 : Tp (upd G10 c11 (.tup [.int 7])) (.ref c11) (.tuple [.int 7]) := .tup upd_same (TpAll.cons (.int 7) (TpAll.nil))
      generalize upd G10 c11 (.tup [.int 7]) = G11 at e11 f11
      refine ⟨(by show 2 ≤ sizeLine; decide), fun c12 nc12 => ?_⟩
      have e12 := same_upd (o := .tup [.ref c11, .non]) nc12
      have f12 : Tp (upd G11 c12 (.tup [.ref c11, .non])) (.ref c12) (.tuple [.tuple [.int 7], .none]) := .tup upd_same (TpAll.cons (f11.nl (NL.of e12)) (TpAll.cons (.non) (TpAll.nil)))
      generalize upd G11 c12 (.tup [.ref c11, .non]) = G12 at e12 f12
      have g12 : Same G12 G12 := Same.refl _
      have g11 : Same G11 G12 := e12.trans g12
      have g10 : Same G10 G12 := e11.trans g11
      have g9 : Same G9 G12 := e10.trans g10
      have g8 : Same G8 G12 := e9.trans g9
      have g7 : Same G7 G12 := e8.trans g8
      have g6 : Same G6 G12 := e7.trans g7
      have g5 : Same G5 G12 := e6.trans g6
      have g4 : Same G4 G12 := e5.trans g5
      have g3 : Same G3 G12 := e4.trans g4
      have g2 : Same G2 G12 := e3.trans g3
      have g1 : Same G1 G12 := e2.trans g2
      have g0 : Same H4 G12 := e1.trans g1
      have ta : TpAll G12 [.non, .int 7, .str "7a", .ref c1, .ref c3, .ref c5, .ref c7, .ref c8, .ref c10, .ref c12] [.none, .int 7, .str "7a", .tuple [], .tuple [.tuple [.int 7]], .tuple [.tuple [.int 7], .int 2], .tuple [.tuple [.int 7], .str "a"], .tuple [.int 7, .int 0], .tuple [.tuple [.int 7], .int 0, .int 0], .tuple [.tuple [.int 7], .none]] := .cons (.non) (.cons (.int 7) (.cons (.str "7a") (.cons (f1.nl (NL.of g1)) (.cons (f3.nl (NL.of g3)) (.cons (f5.nl (NL.of g5)) (.cons (f7.nl (NL.of g7)) (.cons (f8.nl (NL.of g8)) (.cons (f10.nl (NL.of g10)) (.cons (f12.nl (NL.of g12)) (.nil))))))))))
      generalize eO : ([.non, .int 7, .str "7a", .ref c1, .ref c3, .ref c5, .ref c7, .ref c8, .ref c10, .ref c12] : List V) = os at ta
      have lo : os.length = 10 := by rw [← eO]; rfl
      refine ⟨(by show 10 ≤ sizeLine; decide), fun w nw => ?_⟩
      have s5 := same_upd (o := .lst [.non, .int 7, .str "7a", .ref c1, .ref c3, .ref c5, .ref c7, .ref c8, .ref c10, .ref c12]) nw
      have hw : upd G12 w (.lst [.non, .int 7, .str "7a", .ref c1, .ref c3, .ref c5, .ref c7, .ref c8, .ref c10, .ref c12]) w = some (.lst os) := by rw [upd_same, eO]
      generalize upd G12 w (.lst [.non, .int 7, .str "7a", .ref c1, .ref c3, .ref c5, .ref c7, .ref c8, .ref c10, .ref c12]) = H5 at s5 hw
      have s45 := g0.trans s5
      have wa : w ≠ a := ((srcS g0 sr4).ne nw).symm
      refine ⟨_, rfl, _, rfl, _, rfl, sl_to (n := n) (dpb (NL.of s45)) fun v1 H6 s6 d1 => ?_⟩
      have s46 := s45.trans s6
      refine ⟨_, rfl, _, rfl, a, 10, rfl, srcS s46 sr4, by decide, by decide, fun i H7 sr7 b7 i0 i1 => ?_⟩
      have n7 : NL H6 H7 := (srcS s46 sr4).nl b7
      have d7 : Dp K H7 v1 (.tuple (List.take n (ps.map dP))) := by
        obtain ⟨g, y, c, e⟩ := srcS s46 sr4
        refine dp_butN e b7 d1 ⟨3, fun d hd => ?_⟩
        obtain ⟨p, _, rfl⟩ := List.mem_map.mp (List.mem_of_mem_take hd)
        exact nl2_P p
      obtain ⟨x, ex⟩ : ∃ x, os[i.toNat]? = some x := ⟨_, List.getElem?_eq_getElem (by omega)⟩
      obtain ⟨d, ed, tx⟩ := ((ta.nl (NL.of (s5.trans s6))).nl n7).get ex
      have hd : keptPD d = none := by
        have md := List.mem_of_getElem? ed
        simp only [List.mem_cons, List.not_mem_nil, or_false] at md
        rcases md with rfl | rfl | rfl | rfl | rfl | rfl | rfl | rfl | rfl | rfl <;> rfl
      refine ⟨w, os, i, x, rfl, rfl, .inl (.inl (b7 _ _ wa (s6 _ _ hw))), at_of' (Int.toNat_of_nonneg i0).symm ex, (by show 1 ≤ sizeLine; decide), fun u nu => ?_⟩
      have s8 := same_upd (o := .tup [x]) nu
      have du : Dp K (upd H7 u (.tup [x])) (.ref u) (.tuple [d]) := .tup (.inl (.inl upd_same)) (.cons (tx.nl (NL.of s8)).dp .nil)
      generalize upd H7 u (.tup [x]) = H8 at s8 du
      refine cat_dp (dp_same s8 d7) du (by rw [List.length_take, List.length_map]; show _ + 1 ≤ 1000; omega) fun v2 H9 s9 d2 => ?_
      have n9 : NL H4 H9 := ((NL.of s46).trans n7).trans (NL.of (s8.trans s9))
      refine ⟨_, rfl, _, rfl, _, rfl, noPart (sl_from (n := n) (dpb n9) fun v3 H10 s10 d3 => ?_)⟩
      refine cat_dp (dp_same s10 d2) d3 (by rw [List.length_append, List.length_take, List.length_drop, List.length_map]; show _ + 1 + _ ≤ 1000; omega) fun v4 H11 s11 d4 => ?_
      have s711 := ((s8.trans s9).trans s10).trans s11
      refine out (srcS s711 sr7) (((But.of s46).trans b7).trans (But.of s711)) d4 (bad_none rfl (e := d) (by simp) hd) (lds ?_)
      rw [List.length_append, List.length_append, List.length_take, List.length_drop, List.length_map]
      show _ + 1 + _ ≤ 200
      omega
    · show _
      refine ⟨_, rfl, rfl, false, congrArg V.bl (ne_way (by decide)), iteF (iteF ?_)⟩
      refine ⟨_, rfl, rfl, false, congrArg V.bl (ne_way (by decide)), iteF (iteF ?_)⟩
      refine ⟨_, rfl, rfl, false, congrArg V.bl (ne_way (by decide)), iteF (iteF ?_)⟩
      refine ⟨_, rfl, rfl, false, congrArg V.bl (ne_way (by decide)), iteF (iteF ?_)⟩
      refine ⟨_, rfl, rfl, false, congrArg V.bl (ne_way (by decide)), iteF (iteF ?_)⟩
      refine ⟨_, rfl, rfl, false, congrArg V.bl (ne_way (by decide)), iteF ?_⟩
      refine ⟨_, rfl, rfl, false, congrArg V.bl (ne_way (by decide)), iteF ?_⟩
      refine ⟨_, rfl, b, us, rfl, .inr hb4, fun z nz => ?_⟩
      have s5 := same_upd (o := .lst us) nz
      have hz : upd H4 z (.lst us) z = some (.lst us) := upd_same
      generalize upd H4 z (.lst us) = H5 at s5 hz
      have za : z ≠ a := (sr4.ne nz).symm
      refine ⟨_, rfl, l, bk, rfl, ⟨vs, s5 _ _ hl4, tv4.nl (NL.of s5)⟩, h60, fun g k H6 s6 hg k1 k99 nk => ?_⟩
      have s56 := s5.trans s6
      refine ⟨_, rfl, a, 2, rfl, srcS s56 sr4, by decide, by decide, fun i H7 s7 b7 i0 i1 => ?_⟩
      have tg := (tpL (L := [k]) hg).nl ((srcS s56 sr4).nl b7)
      obtain ⟨g', eg, hg7⟩ := tpL_inv tg
      cases eg
      refine ⟨(by show 2 ≤ sizeLine; decide), fun t nt => ?_⟩
      have s8 := same_upd (o := .tup [.ref g, .int i]) nt
      have ht : Tp (upd H7 t (.tup [.ref g, .int i])) (.ref t) (dP ([k], i)) := tpP upd_same (s8 _ _ hg7)
      generalize upd H7 t (.tup [.ref g, .int i]) = H8 at s8 ht
      refine ⟨(by show 1 ≤ sizeLine; decide), fun w nw => ?_⟩
      have s9 := same_upd (o := .lst [.ref t]) nw
      have hw : upd H8 w (.lst [.ref t]) w = some (.lst [.ref t]) := upd_same
      generalize upd H8 w (.lst [.ref t]) = H9 at s9 hw
      refine ⟨z, w, _, _, rfl, rfl, (s8.trans s9) _ _ (b7 _ _ za (s6 _ _ hz)), hw, Nat.le_of_lt (small1000 (by show us.length + 1 ≤ 1000; omega)), fun y ny => ?_⟩
      have s10 := same_upd (o := .lst (us ++ [.ref t])) ny
      have s810 := (s8.trans s9).trans s10
      exact fin (srcS s810 s7) (((But.of s56).trans b7).trans (But.of s810)) upd_same (ht.nl (NL.of (s9.trans s10))) ⟨⟨by show 1 ≤ 3; decide, by show k ≠ 0; omega, fun j hj => by rw [List.mem_singleton.mp hj]; omega⟩, by show i = 0 ∨ i = 1; omega⟩ (strange_out nk)
theorem ok_is_page (T : Tab K mg) : FnOk P w K mg base CX0 2 T.f_is_page T.d_is_page ["_law_thing"] (sp_is_page K) := by
  refine T.F_is_page.ok sc_is_page (fun vs H Q E h => ?_) (fun cdv A outer s H vs Q E hr h => ?_)
  · obtain ⟨v, p, rfl, _⟩ := h
    rfl
  · obtain ⟨v, p, rfl, hv, h3, q⟩ := h
    refine ⟨_, (pss_cons (ps_if (PW.pt (pw_or (pt_not (pt_val (pe_callB call_isi (by rfl) T.m_isinstance (by decide +kernel) (pa_cons (pv 0) (pa_cons (pe_bltn (v := .ty "tuple") (u := .type "tuple") (by rfl) T.m_tuple (by decide +kernel) rfl) pa_nil))))) (pw_or (pt_cmpR op_ne (pe_callB call_len_seq (by rfl) T.m_len PySem.boot_len (pa_cons (pv 0) pa_nil)) pe_int (nomark _)) (pw_or1 (pt_not (pt_val (pe_callB call_isi (by rfl) T.m_isinstance (by decide +kernel) (pa_cons (pe_ix ix_tup (pv 0) pe_int (fun _ _ => rfl)) (pa_cons (pe_bltn (v := .ty "tuple") (u := .type "tuple") (by rfl) T.m_tuple (by decide +kernel) rfl) pa_nil)))))))))
      (pss_one (ps_ret pe_bl))
      pss_nil)
      (pss_one (ps_ret (pe_notT (pe_lc (own := [("_law_part", 1)]) (g := gName 1) (by rfl) sc_is_page.nd (pi_tup (pe_op op_catA (pe_ix ix_tup (pv 0) pe_int (fun _ _ => rfl)) (pe_tup (pa_cons (pe_ix ix_tup (pv 0) pe_int (fun _ _ => rfl)) pa_nil)))) (blkOk_by (own := [("_law_part", 1)]) (N := N_is_page) (sc := defScope s_is_page) (by decide +kernel)) (fun _ _ _ _ _ => pg_name (i := 1) sc_is_page.nd rfl (.inl rfl)) (fun _ _ _ _ _ => (pts_one (pt_not (pt_val (pe_call (ok_law_is_integer T) (hr.mono (by decide)) (by rfl) T.g_law_is_integer T.F_law_is_integer.kp T.b_law_is_integer .nil pass0 (pa_cons (pv 1) pa_nil)))))) (fun _ _ _ _ _ => (pv 1))))))), ?_⟩
    obtain ⟨a, l, rfl, ha, hl⟩ := dP_inv hv
    refine ⟨_, rfl, _, _, _, _, _, rfl, .ty "tuple", ty_T ha, kit_ty (r := true) (by decide +kernel), _, rfl, iteF ?_⟩
    refine ⟨_, rfl, a, _, rfl, .inr ha, rfl, _, rfl, iteF ?_⟩
    refine ⟨_, rfl, a, _, 0, _, rfl, rfl, ha, rfl, _, _, _, _, _, rfl, .ty "tuple", ty_T hl, kit_ty (r := true) (by decide +kernel), _, rfl, iteF ?_⟩
    refine ⟨_, rfl, a, _, 0, _, rfl, rfl, ha, rfl, _, rfl, a, _, 1, _, rfl, rfl, ha, rfl, (by show 1 ≤ sizeLine; decide), fun t nt => ?_⟩
    have st := same_upd (o := .tup [.int p.2]) nt
    have ht : upd H t (.tup [.int p.2]) t = some (.tup [.int p.2]) := upd_same
    refine ⟨l, t, p.1.map V.int, [.int p.2], rfl, rfl, same_seqT st hl, .inl (.inl ht), by rw [List.length_map]; exact Nat.le_trans (by show p.1.length + 1 ≤ 4; omega) (by show 4 ≤ sizeLine; decide), fun e0 => ?_, (fun _ q => by cases q), fun _ _ u nu => ?_⟩
    · have e1 : p.1 = [] := List.map_eq_nil_iff.mp e0
      obtain ⟨u, rfl⟩ : ∃ u, u = t := ⟨_, rfl⟩
      have hu : upd H u (.tup [.int p.2]) u = some (.tup ((p.1 ++ [p.2]).map V.int)) := by rw [e1]; exact ht
      have sn := st
      refine ⟨u, rfl, ⟨_, .inl (.inl hu)⟩, fun D nD => ?_⟩
      refine lc_fm (p.1 ++ [p.2]) (fun _ => none) (walkT (xs := (p.1 ++ [p.2]).map V.int) (List.length_map ..)) nD (fun H h => .inl (.inl (h _ _ hu))) (by rw [List.length_append]; show p.1.length + 1 ≤ 100000; omega) ?_ ?_
      · rintro i z y H4x H4 er sm ⟨rfl, hy⟩ R N hR hN
        rw [List.getElem?_map, er] at hy
        cases hy
        exact ⟨rfl, _, rfl, z, rfl, _, rfl, iteF (hN rfl _ (Same.refl _))⟩
      · rintro H5 s5 eD
        have eD : H5 D = some (.lst []) := by rw [eD]; congr 2; exact List.filterMap_eq_nil_iff.mpr fun _ _ => rfl
        exact ⟨_, tru_lst (.inl (.inl eD)), q _ (sn.trans s5)⟩
    · have su := same_upd (o := .tup (p.1.map V.int ++ [.int p.2])) nu
      have hu : upd (upd H t (.tup [.int p.2])) u (.tup (p.1.map V.int ++ [.int p.2])) u = some (.tup ((p.1 ++ [p.2]).map V.int)) := by rw [upd_same, List.map_append]; rfl
      have sn := st.trans su
      refine ⟨u, rfl, ⟨_, .inl (.inl hu)⟩, fun D nD => ?_⟩
      refine lc_fm (p.1 ++ [p.2]) (fun _ => none) (walkT (xs := (p.1 ++ [p.2]).map V.int) (List.length_map ..)) nD (fun H h => .inl (.inl (h _ _ hu))) (by rw [List.length_append]; show p.1.length + 1 ≤ 100000; omega) ?_ ?_
      · rintro i z y H4x H4 er sm ⟨rfl, hy⟩ R N hR hN
        rw [List.getElem?_map, er] at hy
        cases hy
        exact ⟨rfl, _, rfl, z, rfl, _, rfl, iteF (hN rfl _ (Same.refl _))⟩
      · rintro H5 s5 eD
        have eD : H5 D = some (.lst []) := by rw [eD]; congr 2; exact List.filterMap_eq_nil_iff.mpr fun _ _ => rfl
        exact ⟨_, tru_lst (.inl (.inl eD)), q _ (sn.trans s5)⟩
theorem ok_masks (T : Tab K mg) : FnOk P w K mg base CX0 2 T.f_masks T.d_masks ["_law_leaves_here", "_law_pages"] (sp_masks K) := by
  refine T.F_masks.ok sc_masks (fun vs H Q E h => ?_) (fun cdv A outer s H vs Q E hr h => ?_)
  · obtain ⟨a, pa, po, pus, bk, ps, rfl, _⟩ := h
    rfl
  · obtain ⟨a, pa, po, pus, bk, ps, rfl, hlv, ok, l4, hpf, pnd, dpa, hs, up, q⟩ := h
    refine ⟨_, (pss_cons (ps_set (i := 2) sc_masks.nd rfl (.inl rfl) (pe_call (ok_all_pages T) (hr.mono (by decide)) (by rfl) T.g_all_pages T.F_all_pages.kp T.b_all_pages .nil pass0 (pa_cons (pv 0) pa_nil)))
      (pss_cons (ps_set (i := 3) sc_masks.nd rfl (.inl rfl) (pe_call (ok_with_rows T) (hr.mono (by decide)) (by rfl) T.g_with_rows T.F_with_rows.kp T.b_with_rows .nil pass0 (pa_cons (pv 0) pa_nil)))
      (pss_cons (ps_set (i := 4) sc_masks.nd rfl (.inl rfl) (pe_lst pa_nil))
      (pss_cons (ps_for PassesOwn.never rfl (pi_range1 (by rfl) T.m_range (pa_cons (pe_callB call_len_seq (by rfl) T.m_len PySem.boot_len (pa_cons (pv 2) pa_nil)) pa_nil)) (pg_name (i := 5) sc_masks.nd rfl (.inl rfl))
      (pss_cons (ps_set (i := 6) sc_masks.nd rfl (.inl rfl) pe_int)
        (pss_one (ps_for PassesOwn.never rfl (pi_range2 (by rfl) T.m_range (pa_cons (pv 5) (pa_cons (pe_callB call_len_seq (by rfl) T.m_len PySem.boot_len (pa_cons (pv 2) pa_nil)) pa_nil))) (pg_name (i := 7) sc_masks.nd rfl (.inl rfl))
        (C8.pss_cut (ps_if (pt_cmpR (op_inDD (un2 hr)) (pe_ix ix_list (pv 2) (pv 7) (fun _ _ => rfl)) (pv 1) (by rfl))
          (pss_one (ps_set (i := 6) sc_masks.nd rfl (.inl rfl) (pe_op op_or (pv 6) (pe_op op_shl pe_int (pe_bmT PySem.F.slot_tuple_index PySem.F.type_tuple_index (mt_indexT (un2 hr)) (pv 1) (pa_cons (pe_ix ix_list (pv 2) (pv 7) (fun _ _ => rfl)) pa_nil))))))
          (pss_one (ps_if (pt_cmpR (op_inDD (un2 hr)) (pe_ix ix_list (pv 2) (pv 7) (fun _ _ => rfl)) (pv 3) (by rfl))
            (pss_one ps_break)
            pss_nil)))
          (pss_one (ps_expr (pe_bm PySem.F.plainAttrs_list PySem.F.slot_list_append PySem.F.type_list_append mt_append (pv 4) (pa_cons (pv 6) pa_nil)))))))))
      (pss_one (ps_ret (pv 4))))))), ?_⟩
    obtain ⟨vs, ha, tp⟩ := hlv
    have hpa : SqT K H pa pus := .inl (.inr ⟨po, hpf⟩)
    have uK := all_up ok.2.2
    have SK : ∀ s ∈ shownP bk, s ∈ allP bk := fun s h => (shown_sub bk).subset h
    have lK := allP_len bk
    have lS := shownP_len bk
    have lps : ps.length ≤ 8 := by
      have := nodup_sub (m := shownP bk) (up.imp fun {x y} h e => by rw [e, ltP_irr] at h; cases h) hs
      omega
    refine ⟨_, rfl, a, bk, rfl, ⟨vs, ha, tp⟩, ok.1, fun kl kvs H1 s1 hkl tkl => ?_⟩
    refine ⟨_, rfl, a, bk, rfl, ⟨vs, s1 _ _ ha, tp.nl (NL.of s1)⟩, ok, fun il ivs H2 s2 nil hil til => ?_⟩
    have lk := tkl.len
    rw [List.length_map, lK] at lk
    have s12 := s1.trans s2
    have hkl2 := s2 _ _ hkl
    have tkl2 := tkl.nl (NL.of s2)
    refine ⟨Nat.zero_le _, fun D nD => ?_⟩
    have fD : H D = none := none_of s12 nD
    have sD := same_upd (o := .lst []) nD
    refine ⟨_, rfl, kl, kvs, rfl, .inl (.inl (.inl (sD _ _ hkl2))), _, rfl, by omega, by omega, for_range (lo := 0) (n := (kvs.length : Int).toNat) (fun j σ' H' => ∃ (ms : List Nat) (y5 y6 y7 : Option V), σ' = [some (.ref a), some (.ref pa), some (.ref kl), some (.ref il), some (.ref D), y5, y6, y7] ∧ Same H2 H' ∧ H' D = some (.lst (ms.map fun m => V.int (m : Nat))) ∧ (∀ m ∈ ms, MaskOk (shownP bk) ps m) ∧ ms.length ≤ 8 * j) ⟨[], none, none, none, rfl, sD, upd_same, (fun _ h => nomatch h), Nat.zero_le _⟩ ?_ ?_⟩
    · rintro j σ' H3 hj ⟨ms, y5, y6, y7, rfl, s3, eD, hms, lms⟩
      have j8 : j < 8 := by omega
      refine ⟨_, rfl, _, rfl, kl, kvs, rfl, .inl (.inl (.inl (s3 _ _ hkl2))), _, _, rfl, ⟨by omega, by omega, by omega, by omega⟩, for_range (lo := 0 + (j : Int)) (n := ((kvs.length : Int) - (0 + (j : Int))).toNat) (fun i σ' H' => ∃ (ms : List Nat) (m : Nat) (y7 : Option V), σ' = [some (.ref a), some (.ref pa), some (.ref kl), some (.ref il), some (.ref D), some (.int (0 + (j : Int))), some (.int (m : Nat)), y7] ∧ Same H2 H' ∧ H' D = some (.lst (ms.map fun m => V.int (m : Nat))) ∧ (∀ m ∈ ms, MaskOk (shownP bk) ps m) ∧ ms.length ≤ 8 * j + i ∧ MInv (allP bk) (shownP bk) ps j (j + i) m) ⟨ms, 0, y7, rfl, s3, eD, hms, lms, minv_zero _ _ _ _⟩ ?_ ?_⟩
      · rintro i σ' H4 hi ⟨ms, m, y7, rfl, s4, eD, hms, lms, minv⟩
        have il2 : j + i < kvs.length := by omega
        obtain ⟨x, ex⟩ : ∃ x, kvs[j + i]? = some x := ⟨_, List.getElem?_eq_getElem il2⟩
        obtain ⟨d, ed, tx0⟩ := tkl2.get ex
        obtain ⟨p, ep, rfl⟩ : ∃ p, (allP bk)[j + i]? = some p ∧ d = dP p := by
          rw [List.getElem?_map] at ed
          cases e : (allP bk)[j + i]? with
          | none => rw [e] at ed; cases ed
          | some l => rw [e] at ed; exact ⟨l, rfl, (Option.some.inj ed).symm⟩
        have tx := tx0.nl (NL.of s4)
        have hk4 := s4 _ _ hkl2
        have ax : atI kvs (0 + (j : Int) + (i : Int)) = some x := at_of' (j := j + i) (by omega) ex
        have s04 := s12.trans s4
        have dp4 : Dp K H4 (.ref pa) (.tuple (ps.map dP)) := .tup (same_seqT s04 hpa) (dpAll_same s04 dpa)
        refine ⟨fun σ' H' => ∃ m' : Nat, σ' = [some (.ref a), some (.ref pa), some (.ref kl), some (.ref il), some (.ref D), some (.int (0 + (j : Int))), some (.int (m' : Nat)), some (.int (0 + (j : Int) + (i : Int)))] ∧ H4 = H' ∧ MInv (allP bk) (shownP bk) ps j (j + i + 1) m', ?_, ?_⟩
        · refine ⟨_, rfl, _, rfl, kl, kvs, _, x, rfl, rfl, .inl (.inl hk4), ax, _, rfl, dP p, ps.map dP, tx.dp, .inr dp4, shaped_P _, shaped_Ps _, decide (p ∈ ps), congrArg V.bl (by rw [in_P, Bool.false_bne]), ite2 (fun e => ?_) (fun e => ?_)⟩
          · have hp : p ∈ ps := of_decide_eq_true e
            obtain ⟨c, c1, c2, c3⟩ := first_at hp
            refine ⟨_, rfl, _, rfl, ⟨pa, po, pus, rfl, s04 _ _ hpf, pnd⟩, _, rfl, _, rfl, kl, kvs, _, x, rfl, rfl, .inl (.inl hk4), ax, pa, x, dP p, ps.map dP, c, dP p, rfl, rfl, dp4, tx.dp, shaped_Pt ps, shaped_P _, first_d c2, eqv_Pself p, first_no c3, _, _, rfl, rfl, ⟨by omega, by omega, by decide⟩, _, _, rfl, rfl, m ||| 2 ^ c, ?_, rfl, minv_in minv (by omega) ep c2 up⟩
            have : Builtin.bitOr (m : Int) (1 * 2 ^ ((c : Int)).toNat) = ((m ||| 2 ^ c : Nat) : Int) := by
              rw [Int.toNat_natCast, Int.one_mul, Bits.bitOr_pp (by omega) (by exact Int.le_of_lt (Int.pow_pos (by decide)))]
              rfl
            show [some (V.ref a), some (V.ref pa), some (V.ref kl), some (V.ref il), some (V.ref D), some (V.int (0 + (j : Int))), some (V.int (Builtin.bitOr (m : Int) (1 * 2 ^ ((c : Int)).toNat))), some (V.int (0 + (j : Int) + (i : Int)))] = _
            rw [this]
          · skip
            have hp : p ∉ ps := fun h => e (decide_eq_true h)
            refine ⟨_, rfl, _, rfl, kl, kvs, _, x, rfl, rfl, .inl (.inl hk4), ax, _, rfl, dP p, (shownP bk).map dP, tx.dp, .inl (.lst (.inl (.inl (s4 _ _ hil))) (til.nl (NL.of s4)).dp), shaped_P _, shaped_Ps _, decide (p ∈ shownP bk), congrArg V.bl (by rw [in_P, Bool.false_bne]), ite2 (fun e => ?_) (fun e => ?_)⟩
            · exact ⟨ms, _, _, _, rfl, s4, eD, hms, by omega⟩
            · exact ⟨m, rfl, rfl, minv_out minv ep fun h => e (decide_eq_true h)⟩
        · rintro σ' H5 ⟨m', rfl, rfl, minv'⟩
          refine ⟨_, rfl, .inl ⟨rfl, _, .inl (.inl eD)⟩, _, rfl, D, _, _, rfl, rfl, eD, small1000 (by rw [List.length_map]; omega), ms ++ [m'], m', _, rfl, same_put s4 nD _, by rw [upd_same, List.map_append]; rfl, fun k hk => ?_, by rw [List.length_append]; show ms.length + 1 ≤ _; omega, minv'⟩
          rcases List.mem_append.mp hk with h | h
          · exact hms k h
          · rw [List.mem_singleton.mp h]; exact minv_ok uK SK minv'
      · rintro σ' H4 ⟨ms, m, y7, rfl, s4, eD, hms, lms, minv⟩
        exact ⟨ms, _, _, _, rfl, s4, eD, hms, by omega⟩
    · rintro σ' H3 ⟨ms, y5, y6, y7, rfl, s3, eD, hms, lms⟩
      exact ⟨_, rfl, q D ms H3 (s12.trans s3) fD eD hms (by omega)⟩
theorem ok_kept_label (T : Tab K mg) : FnOk P w K mg base CX0 3 T.f_kept_label T.d_kept_label ["thing"] (sp_kept_label K) := by
  refine T.F_kept_label.ok sc_kept_label (fun vs H Q E h => ?_) (fun cdv A outer s H vs Q E hr h => ?_)
  · obtain ⟨v, d, rfl, _⟩ := h
    rfl
  · obtain ⟨v, d, rfl, hd, q⟩ := h
    refine ⟨_, (pss_cons (ps_if (pt_not (pt_val (pe_call (ok_is_sized T) (hr.mono (by decide)) (by rfl) T.g_is_sized T.F_is_sized.kp T.b_is_sized .nil pass0 (pa_cons (pv 0) (pa_cons pe_int (pa_cons (pe_glob (v := .int 3) (by rfl) T.c_MOST_PARTS ⟨_, rfl⟩) pa_nil))))))
      (pss_one (ps_ret pe_non))
      pss_nil)
      (pss_cons (ps_if (PW.pt (pw_or (pt_not (pt_val (pe_callB (cr_all rfl) (by rfl) T.m_all (by decide +kernel) (pa_cons (pe_lc (own := [("part", 1)]) (g := gName 1) (by rfl) sc_kept_label.nd (pi_or (pi_list (pv 0)) (pi_tup (pv 0))) (blkOk_by (own := [("part", 1)]) (N := N_kept_label) (sc := defScope s_kept_label) (by decide +kernel)) (fun _ _ _ _ _ => pg_name (i := 1) sc_kept_label.nd rfl (.inl rfl)) (fun _ _ _ _ _ => pts_nil) (fun _ _ _ _ _ => (pe_call (ok_is_within T) (hr.mono (by decide)) (by rfl) T.g_is_within T.F_is_within.kp T.b_is_within .nil pass0 (pa_cons (pv 1) (pa_cons pe_int (pa_cons pe_int pa_nil)))))) pa_nil)))) (pw_or1 (pt_cmpR op_eq (pe_ix (IxR.or ix_list ix_tup) (pv 0) (pe_un un_neg pe_int) (fun _ _ => rfl)) pe_int (nomark _)))))
      (pss_one (ps_ret pe_non))
      pss_nil)
      (pss_one (ps_ret (pe_callTy call_tuple_of (by rfl) T.m_tuple (by decide +kernel) (pa_cons (pv 0) pa_nil)))))), ?_⟩
    refine ⟨_, rfl, _, d, 1, 3, rfl, hd, fun H1 s1 => ⟨_, rfl, ?_⟩⟩
    have no : keptD d = none → Q .non H1 := fun e => q .non H1 s1 (by rw [e]; rfl)
    -- of a row: all of it is looked at
    have row : ∀ (ds : List PyData), items d = some ds → sz 1 3 d = decide ((1 : Int) ≤ (ds.length : Int) ∧ (ds.length : Int) ≤ 3) := fun ds hi => by unfold sz; rw [hi]
    have kd : ∀ (ds : List PyData), items d = some ds → keptD d = keep (ds.map toO) := fun ds hi => by unfold keptD; rw [hi]
    have kb : ∀ (ds : List PyData), items d = some ds → ¬ ((1 : Int) ≤ (ds.length : Int) ∧ (ds.length : Int) ≤ 3) → keptD d = none := fun ds hi h => by
      rw [kd ds hi]
      unfold keep
      cases e : allSome (ds.map toO) with
      | none => rfl
      | some L =>
        have eo := allSome_all e
        have el : ds.length = L.length := by have := congrArg List.length eo; rw [List.length_map, List.length_map] at this; exact this
        simp only
        rw [if_neg ?_]
        rintro ⟨h1, h2⟩
        apply h
        rw [el]
        refine ⟨?_, by omega⟩
        cases L with
        | nil => exact absurd rfl h2
        | cons x r => simp only [List.length_cons]; omega
    cases hd with
    | non => exact no rfl
    | bl b => exact no rfl
    | int i => exact no rfl
    | str z => exact no rfl
    | lst h k => 
      rename_i a xs ds
      have hl := dpAll_len k
      by_cases hsz : (1 : Int) ≤ (ds.length : Int) ∧ (ds.length : Int) ≤ 3
      · rw [row ds rfl, decide_eq_true hsz]
        have hS := s1.seq h
        have k1 := dpAll_same s1 k
        refine .inl ⟨_, rfl, a, rfl, ⟨_, hS⟩, fun D nD => ?_⟩
        refine lc_list (xs := xs) (fun i H' => Same H1 H' ∧ H' D = some (.lst ((ds.take i).map fun d => V.bl (wI 0 99 d)))) ⟨same_upd nD, upd_same⟩ (fun i H' _ hh => Same.seq hh.1 hS) ?_ ?_
        · rintro i x H' hx ⟨sm, eD⟩
          obtain ⟨e, he, hde⟩ := dpAll_get k1 hx
          refine ⟨rfl, ?_⟩
          refine ⟨_, rfl, _, e, 0, 99, rfl, dp_same sm hde, _, eD, ?_, same_put sm nD _, ?_⟩
          · rw [List.length_map, List.length_take]; exact small1000 (by omega)
          · rw [upd_same, List.take_add_one, he, List.map_append]; rfl
        · rintro H' ⟨sm, eD⟩
          rw [hl, List.take_length, map_bl] at eD
          have s2 := s1.trans sm
          refine ⟨D, _, rfl, .inl (.inl eD), _, rfl, ?_⟩
          rw [all_bl]
          by_cases hA : ds.all (wI 0 99) = true
          · obtain ⟨L, rfl, hL9⟩ := all_ints hA
            obtain ⟨R, z, rfl⟩ : ∃ R z, L = R ++ [z] := by
              have hne : L ≠ [] := fun e => by rw [e] at hsz; simp at hsz
              exact ⟨_, _, (List.dropLast_concat_getLast hne).symm⟩
            rw [hA]
            have ex : xs = (R ++ [z]).map V.int := dp_ints_inv k
            rw [ex] at h hS
            have ekd := kd _ rfl
            rw [toO_ints hL9, keep_map] at ekd
            have egl : (R ++ [z]).getLastD 0 = z := by rw [List.getLastD_eq_getLast?, List.getLast?_append]; rfl
            rw [egl] at ekd
            have l3 : (R ++ [z]).length ≤ 3 := by rw [List.length_map] at hsz; omega
            refine ⟨_, rfl, 1, rfl, .inl ⟨_, _, _, _, rfl, rfl, Same.seq sm hS, at_end R z, rfl, _, rfl, ?_⟩⟩
            by_cases h0 : z = 0
            · rw [decide_eq_true (congrArg V.int h0)]
              exact q .non H' s2 (by rw [ekd, if_neg (fun h => h.2 h0)]; rfl)
            · rw [decide_eq_false (fun h => h0 (V.int.inj h))]
              refine ⟨_, rfl, _, _, rfl, .inl ⟨Same.seq sm hS, fun l nl => ?_⟩⟩
              exact q (.ref l) _ (s2.trans (same_upd nl)) (by rw [ekd, if_pos ⟨l3, h0⟩]; exact .inr ⟨l, rfl, upd_same⟩)
          · rw [Bool.not_eq_true] at hA
            rw [hA]
            exact q .non H' s2 (by rw [kd ds rfl, keep_none (not_all hA)]; rfl)
      · rw [row ds rfl, decide_eq_false hsz]
        exact no (kb ds rfl hsz)
    | tup h k =>
      rename_i a xs ds
      have hl := dpAll_len k
      by_cases hsz : (1 : Int) ≤ (ds.length : Int) ∧ (ds.length : Int) ≤ 3
      · rw [row ds rfl, decide_eq_true hsz]
        have hS := same_seqT s1 h
        have k1 := dpAll_same s1 k
        refine .inr ⟨_, rfl, a, rfl, ⟨_, hS⟩, fun D nD => ?_⟩
        refine lc_tup (xs := xs) (fun i H' => Same H1 H' ∧ H' D = some (.lst ((ds.take i).map fun d => V.bl (wI 0 99 d)))) ⟨same_upd nD, upd_same⟩ (fun i H' _ hh => same_seqT hh.1 hS) ?_ ?_
        · rintro i x H' hx ⟨sm, eD⟩
          obtain ⟨e, he, hde⟩ := dpAll_get k1 hx
          refine ⟨rfl, ?_⟩
          refine ⟨_, rfl, _, e, 0, 99, rfl, dp_same sm hde, _, eD, ?_, same_put sm nD _, ?_⟩
          · rw [List.length_map, List.length_take]; exact small1000 (by omega)
          · rw [upd_same, List.take_add_one, he, List.map_append]; rfl
        · rintro H' ⟨sm, eD⟩
          rw [hl, List.take_length, map_bl] at eD
          have s2 := s1.trans sm
          refine ⟨D, _, rfl, .inl (.inl eD), _, rfl, ?_⟩
          rw [all_bl]
          by_cases hA : ds.all (wI 0 99) = true
          · obtain ⟨L, rfl, hL9⟩ := all_ints hA
            obtain ⟨R, z, rfl⟩ : ∃ R z, L = R ++ [z] := by
              have hne : L ≠ [] := fun e => by rw [e] at hsz; simp at hsz
              exact ⟨_, _, (List.dropLast_concat_getLast hne).symm⟩
            rw [hA]
            have ex : xs = (R ++ [z]).map V.int := dp_ints_inv k
            rw [ex] at h hS
            have ekd := kd _ rfl
            rw [toO_ints hL9, keep_map] at ekd
            have egl : (R ++ [z]).getLastD 0 = z := by rw [List.getLastD_eq_getLast?, List.getLast?_append]; rfl
            rw [egl] at ekd
            have l3 : (R ++ [z]).length ≤ 3 := by rw [List.length_map] at hsz; omega
            refine ⟨_, rfl, 1, rfl, .inr ⟨_, _, _, _, rfl, rfl, same_seqT sm hS, at_end R z, rfl, _, rfl, ?_⟩⟩
            by_cases h0 : z = 0
            · rw [decide_eq_true (congrArg V.int h0)]
              exact q .non H' s2 (by rw [ekd, if_neg (fun h => h.2 h0)]; rfl)
            · rw [decide_eq_false (fun h => h0 (V.int.inj h))]
              refine ⟨_, rfl, _, _, rfl, .inr ⟨same_seqT sm hS, ?_⟩⟩
              exact q (.ref a) _ s2 (by rw [ekd, if_pos ⟨l3, h0⟩]; exact .inl ⟨rfl, a, rfl, same_seqT sm hS⟩)
          · rw [Bool.not_eq_true] at hA
            rw [hA]
            exact q .non H' s2 (by rw [kd ds rfl, keep_none (not_all hA)]; rfl)
      · rw [row ds rfl, decide_eq_false hsz]
        exact no (kb ds rfl hsz)
theorem ok_judged_rows (T : Tab K mg) : FnOk P w K mg base CX0 3 T.f_judged_rows T.d_judged_rows ["rows", "least", "side"] (sp_judged_rows K) := by
  refine T.F_judged_rows.ok sc_judged_rows (fun vs H Q E h => ?_) (fun cdv A outer s H vs Q E hr h => ?_)
  · obtain ⟨a, zs, l, u, rfl, _⟩ := h
    rfl
  · obtain ⟨a, zs, l, u, rfl, ha, hk, q⟩ := h
    refine ⟨_, (pss_cons (ps_if (PW.pt (pw_or (pt_not (pt_val (pe_call (ok_is_sized T) (hr.mono (by decide)) (by rfl) T.g_is_sized T.F_is_sized.kp T.b_is_sized .nil pass0 (pa_cons (pv 0) (pa_cons (pv 1) (pa_cons (pe_glob (v := .int 12) (by rfl) T.c_MOST_ROWS ⟨_, rfl⟩) pa_nil)))))) (pw_or1 (pt_not (pt_val (pe_callB (cr_all rfl) (by rfl) T.m_all (by decide +kernel) (pa_cons (pe_lc (own := [("row", 3)]) (g := gName 3) (by rfl) sc_judged_rows.nd (pi_or (pi_list (pv 0)) (pi_tup (pv 0))) (blkOk_by (own := [("row", 3)]) (N := N_judged_rows) (sc := defScope s_judged_rows) (by decide +kernel)) (fun _ _ _ _ _ => pg_name (i := 3) sc_judged_rows.nd rfl (.inl rfl)) (fun _ _ _ _ _ => pts_nil) (fun _ _ _ _ _ => (pe_call (ok_is_row T) (hr.mono (by decide)) (by rfl) T.g_is_row T.F_is_row.kp T.b_is_row .nil pass0 (pa_cons (pv 3) pa_nil)))) pa_nil)))))))
      (pss_one ps_never)
      pss_nil)
      (pss_one (ps_ret (pe_callTy call_tuple_of (by rfl) T.m_tuple (by decide +kernel) (pa_cons (pv 0) pa_nil))))), ?_⟩
    unfold rowsB at hk
    simp only [Bool.and_eq_true, decide_eq_true_eq, List.all_eq_true] at hk
    obtain ⟨⟨h1, h2⟩, h3⟩ := hk
    have hs : SqT K H a (zs.map V.str) := .inl (.inl ha)
    have dp : Dp K H (.ref a) (dS zs) := (tpS ha).dp
    refine ⟨_, rfl, _, rfl, .ref a, dS zs, l, 12, rfl, dp, fun H1 s1 => ⟨_, rfl, ?_⟩⟩
    have e1 : sz l 12 (dS zs) = true := decide_eq_true (by rw [List.length_map]; omega)
    rw [e1]
    refine iteF ?_
    refine .inr ⟨_, rfl, a, rfl, ⟨_, same_seqT s1 hs⟩, fun D nD => ?_⟩
    refine lc_fm zs (fun z => some (V.bl (rowB z))) (walkT (xs := zs.map V.str) (List.length_map ..)) nD (fun H h => same_seqT h (same_seqT s1 hs)) (by omega) ?_ ?_
    · rintro i d x H2 H3 ed sm ⟨rfl, hx⟩ R N hR hN
      rw [List.getElem?_map, ed] at hx
      cases hx
      have hr := h3 d (List.mem_of_getElem? ed)
      have hz : d.length ≤ 120 := by
        unfold rowB at hr
        simp only [Bool.and_eq_true, decide_eq_true_eq] at hr
        exact hr.1.1
      exact ⟨rfl, _, rfl, d, rfl, by omega, fun H' s => hR _ rfl _ s⟩
    · rintro H2 sm eD
      rw [map_fm, show (fun d => V.bl (rowB d)) = V.bl ∘ rowB from rfl, ← List.map_map] at eD
      refine ⟨D, _, rfl, .inl (.inl eD), _, rfl, ?_⟩
      rw [all_map, List.all_eq_true.mpr h3]
      refine iteF ?_
      exact ⟨_, rfl, a, _, rfl, .inr ⟨same_seqT (s1.trans sm) hs, q _ (s1.trans sm)⟩⟩
theorem ok_is_stroke (T : Tab K mg) : FnOk P w K mg base CX0 3 T.f_is_stroke T.d_is_stroke ["thing"] (sp_is_stroke K) := by
  refine T.F_is_stroke.ok sc_is_stroke (fun vs H Q E h => ?_) (fun cdv A outer s H vs Q E hr h => ?_)
  · obtain ⟨rfl, _⟩ := h
    rfl
  · exact h.2.elim
theorem ok_Book_init (T : Tab K mg) : FnOk P w K mg base CX0 3 T.f_Book_init T.d_Book_init ["self", "leaves"] (sp_Book_init K T.C_Leaf T.C_Book) := by
  refine T.F_Book_init.ok sc_Book_init (fun vs H Q E h => ?_) (fun cdv A outer s H vs Q E hr h => ?_)
  · obtain ⟨x, dx, a, xs, bk, rfl, _⟩ := h
    rfl
  · obtain ⟨x, dx, a, xs, bk, rfl, hx, ha, hl, ho, q⟩ := h
    refine ⟨_, (pss_cons (ps_fld (pv 0) (pe_call (ok_judged_leaves T) (hr.mono (by decide)) (by rfl) T.g_judged_leaves T.F_judged_leaves.kp T.b_judged_leaves .nil pass0 (pa_cons (pv 1) pa_nil)) rfl)
      (pss_one (ps_fld (pv 0) (pe_dcT (own := [("k", 2), ("leaf", 3)]) (g := gTup K 2 _) (by have z := un2 hr; exact Nat.lt_of_le_of_lt (Nat.add_le_add_left (by decide) _) z) (by rfl) sc_Book_init.nd (pi_enumT (by rfl) T.m_enumerate (pa_cons (pe_fld (pv 0) rfl) pa_nil)) (blkOk_by (own := [("k", 2), ("leaf", 3)]) (N := N_Book_init) (sc := defScope s_Book_init) (by decide +kernel)) (fun _ _ _ _ _ => pg_tup (by rfl) (pgs_cons (pg_name (i := 2) sc_Book_init.nd rfl (.inl rfl)) (pgs_cons (pg_name (i := 3) sc_Book_init.nd rfl (.inl rfl)) pgs_nil))) (fun _ _ _ _ _ => (pe_fldK (K := K) rfl (pv 3) rfl)) (fun _ _ _ _ _ => (pv 2))) rfl))), ?_⟩
    have len := hl.len
    refine ⟨_, rfl, a, xs, bk, rfl, ha, hl, ho, fun t H1 s1 ht => ?_⟩
    have tx : t ≠ x := fun z => by rw [z, s1 _ _ hx] at ht; cases ht
    refine ⟨_, rfl, x, _, dx, _, rfl, s1 _ _ hx, T.cl_Book, T.na_Book_leaves, (show 0 < 1000 by decide), ?_⟩
    refine ⟨_, rfl, x, _, dx, _, _, rfl, upd_same, T.cl_Book, T.na_Book_leaves, rfl, ?_⟩
    have b1 : But x H (upd H1 x (.ins T.C_Book dx (putF "leaves" (.ref t) []))) := (But.of s1).trans (But.upd _)
    have ht2 : upd H1 x (.ins T.C_Book dx (putF "leaves" (.ref t) [])) t = some (.tup xs) := by rw [upd_ne tx]; exact ht
    have hx2 : upd H1 x (.ins T.C_Book dx (putF "leaves" (.ref t) [])) x = some (.ins T.C_Book dx (putF "leaves" (.ref t) [])) := upd_same
    generalize upd H1 x (.ins T.C_Book dx (putF "leaves" (.ref t) [])) = H2 at b1 ht2 hx2
    have nl2 : ∀ {v : V} {l : Lf}, LfAt T.C_Leaf H v l → LfAt T.C_Leaf H2 v l := fun h => NL.butI hx b1 h
    refine ⟨t, xs, rfl, .inl (.inl ht2), fun D nD => ?_⟩
    refine dc_it (walk_enumT (xs := xs)) (fun i H' => Same H2 H' ∧ H' D = some (.dT (spots bk i))) ⟨same_upd nD, upd_same⟩ (fun _ H' _ hh => .inl (.inl (hh.1 _ _ ht2))) ?_ ?_
    · rintro i y H3 H4 hi ⟨sm, eD⟩ ⟨p, u, v, rfl, np, rfl, eu, ev⟩
      cases eu
      obtain ⟨lf, el, hf⟩ := hl.get ev
      obtain ⟨z, dz, l, f, b, pn, s, rfl, hz, hL, _⟩ := LfAt.nl (NL.of sm) (nl2 hf)
      refine ⟨p, [.int (i : Nat), .ref z], rfl, .inl (.inl upd_same), rfl, _, _, rfl, _, _, rfl, rfl, rfl, ?_⟩
      have k : ∀ {q : Addr} {o : HO}, H3 q = some o → upd H3 p (.tup [.int (i : Nat), .ref z]) q = some o := fun e => by rw [upd_ne (ne_of_none e np)]; exact e
      refine ⟨_, rfl, z, _, dz, _, _, rfl, k hz, T.cl_Leaf, T.na_Leaf_label, fLf_label, _, rfl, l, spots bk i, lf.L.map Sum.inl, rfl, k eD, by rw [kL]; exact k hL, ?_, same_put (sm.trans (same_upd np)) nD _, ?_⟩
      · have := spots_len bk i
        have := ho.1
        exact small1000 (by omega)
      · rw [upd_same]
        show some (HO.dT (putK (spots bk i) (lf.L.map Sum.inl) (.int (i : Nat)))) = some (.dT (match bk[i]? with | some l => putK (spots bk i) (l.L.map Sum.inl) (.int (i : Nat)) | none => spots bk i))
        rw [el]
    · rintro H3 ⟨sm, eD⟩
      have Dx : D ≠ x := fun z => by rw [z, sm _ _ hx2] at eD; cases eD
      have tx3 := sm _ _ ht2
      refine ⟨_, rfl, x, _, dx, _, rfl, sm _ _ hx2, T.cl_Book, T.na_Book__spots, (show 1 < 1000 by decide), ?_⟩
      refine q _ ?_ ((b1.trans (But.of sm)).trans (But.upd _))
      refine ⟨x, dx, t, D, xs, rfl, upd_same, by rw [upd_ne tx]; exact tx3, ?_, ?_, ho.1⟩
      · exact LfAll.butI hx ((b1.trans (But.of sm)).trans (But.upd _)) hl
      · rw [upd_ne Dx, ← len]; exact eD
theorem ok_labels (T : Tab K mg) : FnOk P w K mg base CX0 3 T.f_labels T.d_labels ["_law_source_here"] (sp_labels K) := by
  refine T.F_labels.ok sc_labels (fun vs H Q E h => ?_) (fun cdv A outer s H vs Q E hr h => ?_)
  · obtain ⟨a, rfl, _⟩ := h
    rfl
  · obtain ⟨a, rfl, src, q⟩ := h
    refine ⟨_, (pss_cons (ps_set (i := 1) sc_labels.nd rfl (.inl rfl) (pe_call (ok_pick T) (hr.mono (by decide)) (by rfl) T.g_pick T.F_pick.kp T.b_pick .nil pass0 (pa_cons (pv 0) (pa_cons pe_int pa_nil))))
      (pss_cons (ps_set (i := 2) sc_labels.nd rfl (.inl rfl) pe_int)
      (C8.pss_cut (ps_if (pt_cmpR op_eq (pe_call (ok_pick T) (hr.mono (by decide)) (by rfl) T.g_pick T.F_pick.kp T.b_pick .nil pass0 (pa_cons (pv 0) (pa_cons pe_int pa_nil))) pe_int (nomark _))
      (pss_one (ps_set (i := 2) sc_labels.nd rfl (.inl rfl) pe_int))
      pss_nil)
      (pss_cons (ps_set (i := 3) sc_labels.nd rfl (.inl rfl) (pe_lst pa_nil))
      (pss_cons (ps_for PassesOwn.never rfl (pi_range1 (by rfl) T.m_range (pa_cons (pv 1) pa_nil)) (pg_name (i := 4) sc_labels.nd rfl (.inl rfl))
      (pss_cons (ps_set (i := 5) sc_labels.nd rfl (.inl rfl) (pe_call (ok_label T) (hr.mono (by decide)) (by rfl) T.g_label T.F_label.kp T.b_label .nil pass0 (pa_cons (pv 0) (pa_cons (pv 2) pa_nil))))
        (pss_one (ps_if (pt_cmpR (op_notInDD (un2 hr)) (pv 5) (pv 3) (by rfl))
        (pss_one (ps_expr (pe_bm PySem.F.plainAttrs_list PySem.F.slot_list_append PySem.F.type_list_append mt_append (pv 3) (pa_cons (pv 5) pa_nil))))
        pss_nil))))
      (C8.pss_cut (ps_if (pt_cmpR op_eq (pe_call (ok_pick T) (hr.mono (by decide)) (by rfl) T.g_pick T.F_pick.kp T.b_pick .nil pass0 (pa_cons (pv 0) (pa_cons pe_int pa_nil))) pe_int (nomark _))
      (pss_one (ps_setLc (i := 3) (own := [("_law_step", 6)]) (g := gName 6) (by rfl) sc_labels.nd rfl rfl (sw_true rfl rfl rfl (by decide +kernel)) (pi_range1 (by rfl) T.m_range (pa_cons (pe_op op_add pe_int (pe_call (ok_pick T) (hr.mono (by decide)) (by rfl) T.g_pick T.F_pick.kp T.b_pick .nil pass0 (pa_cons (pv 0) (pa_cons pe_int pa_nil)))) pa_nil)) (blkOk_by (own := [("_law_step", 6)]) (N := N_labels) (sc := defScope s_labels) (by decide +kernel)) (fun _ _ _ _ _ => pg_name (i := 6) sc_labels.nd rfl (.inl rfl)) (fun _ _ _ _ _ => pts_nil) (fun _ _ _ _ _ => (pe_tup (pa_cons (pe_op op_add pe_int (pv 6)) pa_nil)))))
      pss_nil)
      (pss_one (ps_ret (pe_callB cr_sortedT3 (by rfl) T.m_sorted (by decide +kernel) (pa_cons (pv 3) pa_nil)))))))))), ?_⟩
    refine ⟨_, rfl, _, _, rfl, src, by decide, by decide, fun n1 H1 s1 b1 p1 p2 => ?_⟩
    refine ⟨fun σ' H' => ∃ m : Int, σ' = [some (.ref a), some (.int n1), some (.int m), none, none, none, none] ∧ 1 ≤ m ∧ m ≤ 99 ∧ Src H' a ∧ But a H H', ?_, ?_⟩
    · refine ⟨_, rfl, _, _, rfl, s1, by decide, by decide, fun n2 H2 s2 b2 _ _ => ?_⟩
      refine ⟨rfl, _, rfl, ite2 (fun _ => ⟨_, rfl, by decide, by decide, s2, b1.trans b2⟩) (fun _ => ⟨_, rfl, by decide, by decide, s2, b1.trans b2⟩)⟩
    rintro σ' H2 ⟨m, rfl, m1, m9, s2, b2⟩
    refine ⟨Nat.zero_le _, fun D nD => ?_⟩
    have nDa : D ≠ a := (s2.ne nD).symm
    have fD : H D = none := b2.none nD nDa
    refine ⟨_, rfl, _, rfl, by omega, by omega, for_range (lo := 0) (n := n1.toNat) (fun j σ' H' => ∃ (Ls : List (List Int)) (us : List V) (y4 y5 : Option V), σ' = [some (.ref a), some (.int n1), some (.int m), some (.ref D), y4, y5, none] ∧ Src H' a ∧ But a H H' ∧ H' D = some (.lst us) ∧ TpAll H' us (Ls.map dL) ∧ (∀ L ∈ Ls, okL L) ∧ Ls.Nodup ∧ Ls.length ≤ j) ⟨[], [], none, none, rfl, s2.put nDa.symm _, b2.put fD _, upd_same, .nil, (fun _ h => nomatch h), List.nodup_nil, Nat.le_refl _⟩ ?_ ?_⟩
    · rintro j σ' H3 hj ⟨Ls, us, y4, y5, rfl, s3, b3, eD, tu, oL, nd, lL⟩
      refine ⟨_, rfl, _, rfl, a, m, rfl, s3, m1, m9, fun p L H4 s4 b4 np hp hL => ?_⟩
      have n34 := s3.nl b4
      have eD4 := b4 _ _ nDa eD
      have tu4 := tu.nl n34
      have tp := tpL hp
      refine ⟨_, rfl, _, rfl, dL L, Ls.map dL, tp.dp, .inl (.lst (.inl (.inl eD4)) tu4.dp), shaped_L _, pn_Ls, decide (L ∉ Ls), congrArg V.bl ?_, ?_⟩
      · rw [in_L, Bool.true_bne, ← decide_not]
      · refine ite2 (fun e => ?_) (fun e => ?_)
        · have hn : L ∉ Ls := of_decide_eq_true e
          have m5 := (NL.refl H4).put eD4 (.lst (us ++ [.ref p]))
          have ul : us.length ≤ 100 := by rw [tu.len, List.length_map]; omega
          refine ⟨_, rfl, .inl ⟨rfl, _, .inl (.inl eD4)⟩, _, rfl, D, us, _, rfl, rfl, eD4, small1000 (by omega), Ls ++ [L], us ++ [.ref p], _, _, rfl, s4.put nDa.symm _, (b3.trans b4).put fD _, upd_same, ?_, ?_, ?_, ?_⟩
          · rw [List.map_append]
            exact (tu4.nl m5).snoc (tp.nl m5)
          · intro M hM
            rcases List.mem_append.mp hM with h | h
            · exact oL _ h
            · rw [List.mem_singleton.mp h]; exact hL
          · rw [List.nodup_append]
            exact ⟨nd, by simp, fun x hx y hy e => by rw [List.mem_singleton.mp hy] at e; exact hn (e ▸ hx)⟩
          · rw [List.length_append]; show _ + 1 ≤ _; omega
        · exact ⟨Ls, us, _, _, rfl, s4, b3.trans b4, eD4, tu4, oL, nd, by omega⟩
    · rintro σ' H3 ⟨Ls, us, y4, y5, rfl, s3, b3, eD, tu, oL, nd, lL⟩
      refine ⟨fun σ' H' => ∃ (E : Addr) (Ls : List (List Int)) (us : List V), σ' = [some (.ref a), some (.int n1), some (.int m), some (.ref E), y4, y5, none] ∧ Src H' a ∧ But a H H' ∧ H' E = some (.lst us) ∧ TpAll H' us (Ls.map dL) ∧ (∀ L ∈ Ls, okL L) ∧ Ls.Nodup ∧ Ls.length ≤ 60, ?_, ?_⟩
      · refine ⟨_, rfl, _, _, rfl, s3, by decide, by decide, fun n4 H4 s4 b4 _ _ => ?_⟩
        have n34 := s3.nl b4
        have eD4 := b4 _ _ nDa eD
        have tu4 := tu.nl n34
        refine ⟨rfl, _, rfl, ite2 (fun _ => ?_) (fun _ => ⟨D, Ls, us, rfl, s4, b3.trans b4, eD4, tu4, oL, nd, by omega⟩)⟩
        refine ⟨_, rfl, _, _, rfl, s4, by decide, by decide, fun n5 H5 s5 b5 p5 p6 => ?_⟩
        refine ⟨_, _, rfl, rfl, _, rfl, by omega, by omega, fun E nE => ?_⟩
        have nEa : E ≠ a := (s5.ne nE).symm
        have b15 := (b3.trans b4).trans b5
        have fE : H E = none := b15.none nE nEa
        refine lc_range (lo := 0) (n := (20 + n5).toNat) (fun j H' => Src H' a ∧ But a H H' ∧ ∃ us, H' E = some (.lst us) ∧ us.length = j ∧ TpAll H' us (((List.range j).map fun (k : Nat) => [(1 : Int) + (k : Int)]).map dL)) ⟨s5.put nEa.symm _, b15.put fE _, [], upd_same, rfl, .nil⟩ ?_ ?_
        · rintro j H6 hj ⟨s6, b6, us6, eE, l6, t6⟩
          refine ⟨rfl, ?_⟩
          refine ⟨_, rfl, _, _, rfl, rfl, (by show 1 ≤ sizeLine; decide), fun p np => ?_⟩
          have sp := same_upd (o := .tup [.int (1 + (0 + (j : Int)))]) np
          have eE7 := sp _ _ eE
          have npa : p ≠ a := (s6.ne np).symm
          have m7 := (NL.of sp).put eE7 (.lst (us6 ++ [.ref p]))
          have pE : p ≠ E := fun z => by rw [z, eE] at np; cases np
          refine ⟨us6, eE7, small1000 (by omega), (s6.put npa.symm _).put nEa.symm _, (b6.trans (But.of sp)).put fE _, us6 ++ [.ref p], upd_same, by rw [List.length_append, l6]; rfl, ?_⟩
          rw [List.range_succ, List.map_append, List.map_append]
          refine (t6.nl m7).snoc (tpL (L := [1 + (j : Int)]) ?_)
          rw [upd_ne pE, upd_same, Int.zero_add]
          rfl
        · rintro H6 ⟨s6, b6, us6, eE, l6, t6⟩
          refine ⟨E, _, us6, rfl, s6, b6, eE, t6, ?_, ?_, ?_⟩
          · intro L hL
            obtain ⟨k, hk, rfl⟩ := List.mem_map.mp hL
            have := List.mem_range.mp hk
            refine ⟨by show 1 ≤ 3; decide, ?_, ?_⟩
            · show (1 : Int) + k ≠ 0
              omega
            · intro i hi
              rw [List.mem_singleton.mp hi]
              omega
          · exact List.Pairwise.map _ (fun x y h e => h (by injection e with e; omega)) List.nodup_range
          · rw [List.length_map, List.length_range]
            omega
      · rintro σ' H4 ⟨E, Ls, us, rfl, s4, b4, eE, tu, oL, nd, l60⟩
        obtain ⟨k1, k2⟩ := tpAll_labs tu
        refine ⟨_, rfl, E, us, labK H4, rfl, .inl (.inl eE), fun x hx => ?_, fun ys p so pm np => ?_⟩
        · obtain ⟨t, rfl, ht⟩ := k2 x hx
          refine ⟨t, rfl, .inl (.inl ht), ?_⟩
          have : labK H4 (.ref t) ∈ Ls := by rw [← k1]; exact List.mem_map_of_mem hx
          exact okL_ne (oL _ this)
        · have npa : p ≠ a := (s4.ne np).symm
          have pm2 : (ys.map (labK H4)).Perm Ls := by rw [← k1]; exact pm.map _
          refine q p ys (ys.map (labK H4)) _ (s4.put npa.symm _) (b4.trans (But.of (same_upd np))) (b4.none np npa) upd_same ((labs_tpAll fun u hu => k2 u (pm.mem_iff.mp hu)).nl ((NL.refl H4).new np _)) (fun L hL => oL L (pm2.mem_iff.mp hL)) ?_ (by rw [pm2.length_eq]; exact l60)
          have nd2 : (ys.map (labK H4)).Nodup := pm2.nodup_iff.mpr nd
          rw [List.pairwise_map]
          have nd3 := List.pairwise_map.mp nd2
          exact (so.and nd3).imp fun {x y} h => by
            cases hl : HT.lexLt (labK H4 x) (labK H4 y) with
            | true => rfl
            | false => exact absurd (lexLt_total _ _ hl h.1) h.2
theorem ok_walked (T : Tab K mg) : FnOk P w K mg base CX0 3 T.f_walked T.d_walked ["_law_leaves_here", "_law_pages", "_law_told"] (sp_walked K) := by
  refine T.F_walked.ok sc_walked (fun vs H Q E h => ?_) (fun cdv A outer s H vs Q E hr h => ?_)
  · obtain ⟨a, v, w, bk, ps, rs, rfl, _⟩ := h
    rfl
  · obtain ⟨a, v, w, bk, ps, rs, rfl, hlv, ok, hv, hw, hs, up, pinv, lrs, q⟩ := h
    refine ⟨_, (pss_cons (ps_if (pt_not (pt_val (pe_callB call_isi (by rfl) T.m_isinstance (by decide +kernel) (pa_cons (pv 2) (pa_cons (pe_bltn (v := .ty "tuple") (u := .type "tuple") (by rfl) T.m_tuple (by decide +kernel) rfl) pa_nil)))))
      (pss_one (ps_ret pe_bl))
      pss_nil)
      (pss_cons (ps_for PassesOwn.never rfl (pi_tup (pv 2)) (pg_name (i := 3) sc_walked.nd rfl (.inl rfl))
      (pss_cons (ps_if (PW.pt (pw_or (pt_not (pt_val (pe_callB call_isi (by rfl) T.m_isinstance (by decide +kernel) (pa_cons (pv 3) (pa_cons (pe_bltn (v := .ty "tuple") (u := .type "tuple") (by rfl) T.m_tuple (by decide +kernel) rfl) pa_nil))))) (pw_or (pt_cmpR op_ne (pe_callB call_len_seq (by rfl) T.m_len PySem.boot_len (pa_cons (pv 3) pa_nil)) pe_int (nomark _)) (pw_or (pt_not (pt_val (pe_call (ok_is_page T) (hr.mono (by decide)) (by rfl) T.g_is_page T.F_is_page.kp T.b_is_page .nil pass0 (pa_cons (pe_ix ix_tup (pv 3) pe_int (fun _ _ => rfl)) pa_nil)))) (pw_or1 (pt_not (pt_val (pe_call (ok_is_page T) (hr.mono (by decide)) (by rfl) T.g_is_page T.F_is_page.kp T.b_is_page .nil pass0 (pa_cons (pe_ix ix_tup (pv 3) pe_int (fun _ _ => rfl)) pa_nil)))))))))
        (pss_one (ps_ret pe_bl))
        pss_nil)
        (pss_one (ps_if (PW.pt (pw_or (pt_cmpR (op_notInDD (un2 hr)) (pe_ix ix_tup (pv 3) pe_int (fun _ _ => rfl)) (pv 1) (by rfl)) (pw_or (pt_cmpR (op_notInDD (un2 hr)) (pe_ix ix_tup (pv 3) pe_int (fun _ _ => rfl)) (pv 1) (by rfl)) (pw_or1 (pt_cmpR (op_ltD (un2 hr)) (pe_ix ix_tup (pv 3) pe_int (fun _ _ => rfl)) (pe_ix ix_tup (pv 3) pe_int (fun _ _ => rfl)) (nomark _))))))
        (pss_one (ps_ret pe_bl))
        pss_nil))))
      (pss_cons (ps_setLc (i := 4) (own := [("_law_page", 6)]) (g := gName 6) (by rfl) sc_walked.nd rfl rfl (sw_true rfl rfl rfl (by decide +kernel)) (pi_list (pe_call (ok_with_rows T) (hr.mono (by decide)) (by rfl) T.g_with_rows T.F_with_rows.kp T.b_with_rows .nil pass0 (pa_cons (pv 0) pa_nil))) (blkOk_by (own := [("_law_page", 6)]) (N := N_walked) (sc := defScope s_walked) (by decide +kernel)) (fun _ _ _ _ _ => pg_name (i := 6) sc_walked.nd rfl (.inl rfl)) (fun _ _ _ _ _ => (pts_one (pt_cmpR (op_notInDDK (K := K) rfl (un2 hr)) (pv 6) (pv 1) (by rfl)))) (fun _ _ _ _ _ => (pv 6)))
      (pss_cons (ps_for PassesOwn.never rfl (pi_range2 (by rfl) T.m_range (pa_cons pe_int (pa_cons (pe_callB call_len_seq (by rfl) T.m_len PySem.boot_len (pa_cons (pv 2) pa_nil)) pa_nil))) (pg_name (i := 5) sc_walked.nd rfl (.inr rfl))
      (pss_cons (ps_if (pt_not (pt_cmpR (op_ltD (un2 hr)) (pe_ix ix_tup (pe_ix ix_tup (pv 2) (pe_op op_sub (pv 5) pe_int) (fun _ _ => rfl)) pe_int (fun _ _ => rfl)) (pe_ix ix_tup (pe_ix ix_tup (pv 2) (pv 5) (fun _ _ => rfl)) pe_int (fun _ _ => rfl)) (nomark _)))
        (pss_one (ps_ret pe_bl))
        pss_nil)
        (pss_one (ps_if (pt_not (pt_truth (pe_lc (own := [("_law_page", 6)]) (g := gName 6) (by rfl) sc_walked.nd (pi_list (pv 4)) (blkOk_by (own := [("_law_page", 6)]) (N := N_walked) (sc := defScope s_walked) (by decide +kernel)) (fun _ _ _ _ _ => pg_name (i := 6) sc_walked.nd rfl (.inl rfl)) (fun _ _ _ _ _ => (pts_one (pt_chain (op_ltDK (K := K) rfl (un2 hr)) (op_ltDK (K := K) rfl (un2 hr)) (pe_ix (ix_tupK (K := K) rfl) (pe_ix (ix_tupK (K := K) rfl) (pv 2) (pe_op op_sub (pv 5) pe_int) (fun _ _ => rfl)) pe_int (fun _ _ => rfl)) (pv 6) (pe_ix (ix_tupK (K := K) rfl) (pe_ix (ix_tupK (K := K) rfl) (pv 2) (pv 5) (fun _ _ => rfl)) pe_int (fun _ _ => rfl))))) (fun _ _ _ _ _ => (pv 6))) (fun _ => rfl)))
        (pss_one (ps_ret pe_bl))
        pss_nil))))
      (pss_one (ps_ret (pe_cmpR (op_eqD hr.units) (pe_call (ok_told_pages T) (hr.mono (by decide)) (by rfl) T.g_told_pages T.F_told_pages.kp T.b_told_pages .nil pass0 (pa_cons (pv 0) (pa_cons (pv 2) pa_nil))) (pe_callTy call_list_of (by rfl) T.m_list (by decide +kernel) (pa_cons (pv 1) pa_nil)) (nomark _)))))))), ?_⟩
    have uS := shown_up ok
    have h60 := ok.1
    have l120 := shownP_len bk
    obtain ⟨pa, pus, rfl, hpa, dpa⟩ := dPs_inv hv
    obtain ⟨ra, rus, rfl, hra, dra⟩ := dRs_inv hw
    have lp := dpAll_len dpa
    rw [List.length_map] at lp
    have lr := dpAll_len dra
    rw [List.length_map] at lr
    have lps : ps.length ≤ 120 := by
      have := nodup_sub (m := shownP bk) (up.imp fun {x y} h e => by rw [e, ltP_irr] at h; cases h) hs
      omega
    have inPs : ∀ {H' : Hp}, Same H H' → ∀ (x : V) (p : Pg), Dp K H' x (dP p) → ∃ d ds, Dp K H' x d ∧ (Dp K H' (.ref pa) (.list ds) ∨ Dp K H' (.ref pa) (.tuple ds)) ∧ SeqAt.shaped d = true ∧ SeqAt.shaped (.list ds) = true ∧ ∀ b, (b != ds.any fun z => PyData.eqv z d) = (b != decide (p ∈ ps)) := fun {H'} s x p hx =>
      ⟨dP p, ps.map dP, hx, .inr (.tup (same_seqT s hpa) (dpAll_same s dpa)), shaped_P _, shaped_Ps _, fun b => by rw [in_P]⟩
    refine ⟨_, rfl, _, _, _, _, _, rfl, .ty "tuple", ty_T hra, kit_ty (r := true) (by decide +kernel), _, rfl, iteF ?_⟩
    refine ⟨_, rfl, ra, rfl, ⟨_, hra⟩, for_tup (xs := rus) (fun i σ' H' => ∃ y3 : Option V, σ' = [some (.ref a), some (.ref pa), some (.ref ra), y3, none, none, none] ∧ Same H H') ⟨none, rfl, Same.refl H⟩ (fun i σ' H' _ hh => by obtain ⟨_, _, s⟩ := hh; exact same_seqT s hra) ?_ ?_⟩
    · rintro i x σ' H1 hx ⟨y3, rfl, s1⟩
      obtain ⟨dd, ed, dx0⟩ := dpAll_get dra hx
      obtain ⟨r, er, rfl⟩ : ∃ r, rs[i]? = some r ∧ dd = dR r := by
        rw [List.getElem?_map] at ed
        cases e : rs[i]? with
        | none => rw [e] at ed; cases ed
        | some l => rw [e] at ed; exact ⟨l, rfl, (Option.some.inj ed).symm⟩
      have rm := List.mem_of_getElem? er
      obtain ⟨m1, m2, m3⟩ := pinv.mem r rm
      have o1 := shown_okP ok _ (hs _ m1)
      have o2 := shown_okP ok _ (hs _ m2)
      have dx := dp_same s1 dx0
      obtain ⟨xa, x1, x2, rfl, hxa, hx1, hx2⟩ := dR_inv dx
      refine ⟨_, rfl, _, _, _, _, _, rfl, .ty "tuple", ty_T hxa, kit_ty (r := true) (by decide +kernel), _, rfl, iteF ?_⟩
      refine ⟨_, rfl, xa, _, rfl, .inr hxa, rfl, _, rfl, iteF ?_⟩
      refine ⟨_, rfl, xa, _, 0, _, rfl, rfl, hxa, rfl, x1, r.1, rfl, hx1, o1.1.1, fun H2 s2 => ⟨_, rfl, iteF ?_⟩⟩
      refine ⟨_, rfl, xa, _, 1, _, rfl, rfl, same_seqT s2 hxa, rfl, x2, r.2, rfl, dp_same s2 hx2, o2.1.1, fun H3 s3 => ⟨_, rfl, iteF ?_⟩⟩
      have s13 := s2.trans s3
      have s03 := s1.trans s13
      have hxa3 := same_seqT s13 hxa
      have hx13 := dp_same s13 hx1
      have hx23 := dp_same s13 hx2
      have dp3 : Dp K H3 (.ref pa) (.tuple (ps.map dP)) := .tup (same_seqT s03 hpa) (dpAll_same s03 dpa)
      refine ⟨_, rfl, xa, _, 0, _, rfl, rfl, hxa3, rfl, _, rfl, dP r.1, ps.map dP, hx13, .inr dp3, shaped_P _, shaped_Ps _, _, rfl, ?_⟩
      rw [in_P, decide_eq_true m1]
      refine iteF ⟨_, rfl, xa, _, 1, _, rfl, rfl, hxa3, rfl, _, rfl, dP r.2, ps.map dP, hx23, .inr dp3, shaped_P _, shaped_Ps _, _, rfl, ?_⟩
      rw [in_P, decide_eq_true m2]
      refine iteF ⟨_, rfl, xa, _, 1, _, rfl, rfl, hxa3, rfl, _, rfl, xa, _, 0, _, rfl, rfl, hxa3, rfl, dP r.2, dP r.1, hx23, hx13, alike_P _ _, (fun z => nomatch z), Nat.le_trans (depthP _) (by decide), false, congrArg V.bl m3, iteF ?_⟩
      exact ⟨_, rfl, s03⟩
    · rintro σ' H1 ⟨y3, rfl, s1⟩
      obtain ⟨vs, ha, tp⟩ := hlv
      refine ⟨_, rfl, a, bk, rfl, ⟨vs, s1 _ _ ha, tp.nl (NL.of s1)⟩, ok, fun wl ws H2 s2 nw hwl tws => ?_⟩
      have lw := tws.len
      rw [List.length_map] at lw
      have s02 := s1.trans s2
      refine ⟨wl, rfl, ⟨_, .inl (.inl hwl)⟩, fun D nD => ?_⟩
      refine lc_tp (shownP bk) (fun p => if (!decide (p ∈ ps)) = true then some (dP p) else none) (walkL (xs := ws) lw) nD (fun H h => .inl (.inl (h _ _ hwl))) (by omega) ?_ ?_
      · rintro i p y H4x H4 er sm ⟨rfl, hy⟩ R N hR hN
        obtain ⟨d, ed, ty⟩ := tws.get hy
        rw [List.getElem?_map, er] at ed
        cases ed
        have ty4 := ty.nl (NL.of sm)
        have s04 := s02.trans sm
        refine ⟨rfl, _, rfl, _, rfl, dP p, ps.map dP, ty4.dp, .inr (.tup (same_seqT s04 hpa) (dpAll_same s04 dpa)), shaped_P _, shaped_Ps _, !decide (p ∈ ps), congrArg V.bl (by rw [in_P, Bool.true_bne]), ite2 (fun e => ?_) (fun e => ?_)⟩
        · exact ⟨_, rfl, hR _ _ (if_pos e) _ (Same.refl _) ty4⟩
        · exact hN (if_neg e) _ (Same.refl _)
      rintro H3 us s3 eD tus
      rw [fm_filter] at tus
      have s03 := s02.trans s3
      have lu := tus.len
      rw [List.length_map] at lu
      have lf := List.length_filter_le (fun p => !decide (p ∈ ps)) (shownP bk)
      have hra3 := same_seqT s03 hra
      refine ⟨_, rfl, ra, _, rfl, .inr hra3, 1, _, rfl, ⟨by decide, by decide, by omega, by omega⟩, for_range (lo := 1) (n := ((rus.length : Int) - 1).toNat) (fun j σ' H' => ∃ y5 : Option V, σ' = [some (.ref a), some (.ref pa), some (.ref ra), y3, some (.ref D), y5, none] ∧ Same H3 H') ⟨none, rfl, Same.refl H3⟩ ?_ ?_⟩
      · rintro j σ' H4 hj ⟨y5, rfl, s4⟩
        have s04 := s03.trans s4
        have jl : j + 1 < rs.length := by omega
        obtain ⟨r, er⟩ : ∃ r, rs[j]? = some r := ⟨_, List.getElem?_eq_getElem (by omega)⟩
        obtain ⟨t, et⟩ : ∃ t, rs[j + 1]? = some t := ⟨_, List.getElem?_eq_getElem jl⟩
        obtain ⟨u1, eu1⟩ : ∃ u, rus[j]? = some u := ⟨_, List.getElem?_eq_getElem (by omega)⟩
        obtain ⟨u2, eu2⟩ : ∃ u, rus[j + 1]? = some u := ⟨_, List.getElem?_eq_getElem (by omega)⟩
        obtain ⟨d1, ed1, t1⟩ := dpAll_get dra eu1
        obtain ⟨d2, ed2, t2⟩ := dpAll_get dra eu2
        rw [List.getElem?_map, er] at ed1
        rw [List.getElem?_map, et] at ed2
        cases ed1
        cases ed2
        obtain ⟨ua, x1, x2, rfl, hua, hx1, hx2⟩ := dR_inv (dp_same s04 t1)
        obtain ⟨ub, z1, z2, rfl, hub, hz1, hz2⟩ := dR_inv (dp_same s04 t2)
        obtain ⟨gs, gS, gn, g1, g2⟩ : Gap (shownP bk) ps r.2 t.1 := by
          obtain ⟨i1, e1⟩ := List.getElem?_eq_some_iff.mp er
          obtain ⟨i2, e2⟩ := List.getElem?_eq_some_iff.mp et
          have := List.pairwise_iff_getElem.mp pinv.gap j (j + 1) i1 i2 (Nat.lt_succ_self j)
          rw [e1, e2] at this
          exact this
        have rt := ltP_trans g1 g2
        have hra4 := same_seqT s04 hra
        have at1 : atI rus (1 + (j : Int) - 1) = some (.ref ua) := at_of' (j := j) (by omega) eu1
        have at2 : atI rus (1 + (j : Int)) = some (.ref ub) := at_of' (j := j + 1) (by omega) eu2
        refine ⟨_, rfl, _, rfl, _, _, rfl, rfl, ra, _, _, _, rfl, rfl, hra4, at1, ua, _, 1, _, rfl, rfl, hua, rfl, _, rfl, _, rfl, ra, _, _, _, rfl, rfl, hra4, at2, ub, _, 0, _, rfl, rfl, hub, rfl, dP r.2, dP t.1, hx2, hz1, alike_P _ _, (fun z => nomatch z), Nat.le_trans (depthP _) (by decide), true, congrArg V.bl rt, iteF ?_⟩
        have eD4 := s4 _ _ eD
        have tus4 := tus.nl (NL.of s4)
        refine ⟨_, rfl, D, rfl, ⟨_, .inl (.inl eD4)⟩, fun D2 nD2 => ?_⟩
        refine lc_tp ((shownP bk).filter fun p => !decide (p ∈ ps)) (fun p => if (ltP r.2 p && ltP p t.1) = true then some (dP p) else none) (walkL (xs := us) lu) nD2 (fun H h => .inl (.inl (h _ _ eD4))) (by omega) ?_ ?_
        · rintro i p y H5x H5 ei sm ⟨rfl, hy⟩ R N hR hN
          obtain ⟨d, ed, ty⟩ := tus4.get hy
          rw [List.getElem?_map, ei] at ed
          cases ed
          have ty5 := ty.nl (NL.of sm)
          have hra5 := same_seqT sm hra4
          refine ⟨rfl, _, rfl, _, rfl, _, _, rfl, rfl, ra, _, _, _, rfl, rfl, hra5, at1, ua, _, 1, _, rfl, rfl, same_seqT sm hua, rfl, _, rfl, dP r.2, dP p, dp_same sm hx2, ty5.dp, alike_P _ _, (fun z => nomatch z), Nat.le_trans (depthP _) (by decide), ltP r.2 p, rfl, ?_⟩
          cases e1 : ltP r.2 p with
          | false => exact iteF ⟨_, rfl, iteF (hN (if_neg (by rw [e1]; simp)) _ (Same.refl _))⟩
          | true =>
            refine iteT ⟨_, rfl, _, rfl, ra, _, _, _, rfl, rfl, hra5, at2, ub, _, 0, _, rfl, rfl, same_seqT sm hub, rfl, dP p, dP t.1, ty5.dp, dp_same sm hz1, alike_P _ _, (fun z => nomatch z), Nat.le_trans (depthP _) (by decide), ltP p t.1, rfl, ?_⟩
            cases e3 : ltP p t.1 with
            | false => exact iteF (hN (if_neg (by rw [e3]; simp)) _ (Same.refl _))
            | true => exact iteT ⟨_, rfl, hR _ _ (if_pos (by rw [e1, e3]; rfl)) _ (Same.refl _) ty5⟩
        · rintro H5 zs s5 eE tz
          rw [fm_filter] at tz
          have lz := tz.len
          rw [List.length_map] at lz
          have gm : gs ∈ ((shownP bk).filter fun p => !decide (p ∈ ps)).filter fun p => ltP r.2 p && ltP p t.1 := by
            rw [List.mem_filter, List.mem_filter]
            exact ⟨⟨gS, by rw [decide_eq_false gn]; rfl⟩, by rw [g1, g2]; rfl⟩
          have lp1 := List.length_pos_of_mem gm
          have ze : (!zs.isEmpty) = true := by
            cases zs with
            | nil => rw [← lz] at lp1; cases lp1
            | cons z zr => rfl
          refine ⟨_, tru_lst (.inl (.inl eE)), ?_⟩
          rw [ze]
          exact iteF ⟨_, rfl, s4.trans s5⟩
      · rintro σ' H4 ⟨y5, rfl, s4⟩
        have s04 := s03.trans s4
        refine ⟨_, rfl, _, rfl, a, .ref ra, bk, rs, rfl, ⟨vs, s04 _ _ ha, tp.nl (NL.of s04)⟩, h60, by omega, dp_same s04 hw, fun p us5 H5 s5 hp tp5 => ?_⟩
        rw [pinv_told uS up hs pinv] at tp5
        have s05 := s04.trans s5
        refine ⟨_, rfl, pa, _, rfl, .inr (same_seqT s05 hpa), fun l nl => ?_⟩
        have s6 := same_upd (o := .lst pus) nl
        refine ⟨.list (ps.map dP), .list (ps.map dP), .lst (.inl (.inl (s6 _ _ hp))) (tp5.nl (NL.of s6)).dp, .lst (.inl (.inl upd_same)) (dpAll_same (s05.trans s6) dpa), shaped_Ps _, shaped_Ps _, ?_⟩
        have ee : PyData.eqv (.list (ps.map dP)) (.list (ps.map dP)) = true := by
          show PyData.eqvAll (ps.map dP) (ps.map dP) = true
          rw [eqvAll_P]
          exact decide_eq_true rfl
        rw [ee]
        exact q _ (s05.trans s6)
theorem ok_fewer_tell (T : Tab K mg) : FnOk P w K mg base CX0 3 T.f_fewer_tell T.d_fewer_tell ["_law_leaves_here", "_law_pages", "_law_many"] (sp_fewer_tell K) := by
  refine T.F_fewer_tell.ok sc_fewer_tell (fun vs H Q E h => ?_) (fun cdv A outer s H vs Q E hr h => ?_)
  · obtain ⟨a, pa, po, pus, bk, ps, rs, rfl, _⟩ := h
    rfl
  · obtain ⟨a, pa, po, pus, bk, ps, rs, rfl, hlv, ok, l4, hpf, pnd, dpa, hs, up, pinv, lrs, q⟩ := h
    refine ⟨_, (pss_cons (ps_set (i := 3) sc_fewer_tell.nd rfl (.inl rfl) (pe_call (ok_masks T) (hr.mono (by decide)) (by rfl) T.g_masks T.F_masks.kp T.b_masks .nil pass0 (pa_cons (pv 0) (pa_cons (pv 1) pa_nil))))
      (pss_cons (ps_set (i := 4) sc_fewer_tell.nd rfl (.inl rfl) (pe_op op_sub (pe_op op_shl pe_int (pe_callB call_len_seq (by rfl) T.m_len PySem.boot_len (pa_cons (pv 1) pa_nil))) pe_int))
      (pss_cons (ps_set (i := 5) sc_fewer_tell.nd rfl (.inl rfl) (pe_disp (pps_cons pe_int pe_bl pps_nil) rfl rfl (by simp) (by decide)))
      (pss_cons (ps_for PassesOwn.never rfl (pi_range1 (by rfl) T.m_range (pa_cons (pv 2) pa_nil)) (pg_name (i := 6) sc_fewer_tell.nd rfl (.inl rfl))
      (pss_cons (ps_if (pt_cmp (pc_din (Nat.lt_of_le_of_lt (Nat.add_le_add_left (by decide) _) (un2 hr)) (pv 4) (pv 5)))
        (pss_one (ps_ret pe_bl))
        pss_nil)
        (pss_cons (ps_set (i := 7) sc_fewer_tell.nd rfl (.inl rfl) pe_dnewK)
        (pss_cons (ps_lock (ps_for PassesOwn.never rfl (pi_keys (pv 5)) (pg_name (i := 8) sc_fewer_tell.nd rfl (.inl rfl))
        (pss_one (ps_for PassesOwn.never rfl (pi_list (pv 3)) (pg_name (i := 9) sc_fewer_tell.nd rfl (.inl rfl))
          (pss_one (ps_dput (Nat.lt_of_le_of_lt (Nat.add_le_add_left (by decide) _) (un2 hr)) (pv 7) (pe_op op_or (pv 8) (pv 9)) pe_bl rfl))))))
        (pss_one (ps_lock (ps_for PassesOwn.never rfl (pi_keys (pv 7)) (pg_name (i := 8) sc_fewer_tell.nd rfl (.inl rfl))
        (pss_one (ps_dput (Nat.lt_of_le_of_lt (Nat.add_le_add_left (by decide) _) (un2 hr)) (pv 5) (pv 8) pe_bl rfl)))))))))
      (pss_one (ps_ret pe_bl)))))), ?_⟩
    have lS := shownP_len bk
    have lps : ps.length ≤ 8 := by
      have := nodup_sub (m := shownP bk) (up.imp fun {x y} h e => by rw [e, ltP_irr] at h; cases h) hs
      omega
    have lp := dpAll_len dpa
    rw [List.length_map] at lp
    refine ⟨_, rfl, _, rfl, a, pa, po, pus, bk, ps, rfl, hlv, ok, l4, hpf, pnd, dpa, hs, up, fun ml ms H1 s1 nml hml hms lms => ?_⟩
    have hpa1 : SqT K H1 pa pus := .inl (.inr ⟨po, s1 _ _ hpf⟩)
    refine ⟨_, rfl, pa, pus, rfl, .inr hpa1, _, _, rfl, rfl, ⟨by omega, by omega, by decide⟩, _, _, rfl, rfl, ?_⟩
    refine fun R nR => ⟨upd_same, [(.inl 0, .bl true)], rfl, by decide, ?_⟩
    have eg : (1 : Int) * 2 ^ ((pus.length : Int)).toNat - 1 = ((2 ^ ps.length - 1 : Nat) : Int) := by
      rw [Int.toNat_natCast, Int.one_mul, lp]
      have : 1 ≤ 2 ^ ps.length := Nat.two_pow_pos _
      rw [Int.ofNat_sub this]
      rfl
    have fR : H R = none := none_of s1 nR
    have sR : Same H1 (upd (upd H1 R (.dK [])) R (.dK (mergeK [] [(.inl 0, .bl true)]))) := same_put (same_upd nR) nR _
    have hR : upd (upd H1 R (.dK [])) R (.dK (mergeK [] [(.inl 0, .bl true)])) R = some (.dK [(keyN 0, .bl true)]) := upd_same
    generalize upd (upd H1 R (.dK [])) R (.dK (mergeK [] [(.inl 0, .bl true)])) = H2 at sR hR ⊢
    have Rm : ml ≠ R := fun z => by rw [z, nR] at hml; cases hml
    have hml2 := sR _ _ hml
    have s12 := s1.trans sR
    have kb0 : KB ps.length (begs ps rs) 0 [(keyN 0, .bl true)] := ⟨by simp, fun k hk => ⟨0, List.mem_singleton.mp hk, Nat.two_pow_pos _, by rw [cnt_zero]; exact Nat.le_refl _⟩⟩
    refine ⟨_, rfl, _, rfl, by omega, by omega, for_range (lo := 0) (n := ((rs.length : Nat) : Int).toNat) (fun j σ' H' => ∃ (kvs : KVs) (y6 y7 y8 y9 : Option V), σ' = [some (.ref a), some (.ref pa), some (.int (rs.length : Nat)), some (.ref ml), some (.int ((1 : Int) * 2 ^ ((pus.length : Int)).toNat - 1)), some (.ref R), y6, y7, y8, y9] ∧ But R H2 H' ∧ H' R = some (.dK kvs) ∧ KB ps.length (begs ps rs) j kvs) ⟨_, none, none, none, none, rfl, But.refl R H2, hR, kb0⟩ ?_ ?_⟩
    · rintro j σ' H3 hj ⟨kvs, y6, y7, y8, y9, rfl, b3, eR, kb⟩
      have jr : j < rs.length := by omega
      have nog : valV kvs (.inl ((1 : Int) * 2 ^ ((pus.length : Int)).toNat - 1)) = none := no_key fun m => by
        obtain ⟨u, h1, h2, h3⟩ := kb.ks _ m
        rw [eg] at h1
        injection h1 with h1
        exact goal_not pinv h3 jr (by omega)
      refine ⟨_, rfl, _, rfl, R, _, rfl, DGet.k (k := .inl ((1 : Int) * 2 ^ ((pus.length : Int)).toNat - 1)) eR, _, rfl, ?_⟩
      rw [nog]
      refine iteF ?_
      refine fun M nM => ?_
      have MR : M ≠ R := fun z => by rw [z, eR] at nM; cases nM
      have sM := same_upd (o := .dK []) nM
      have eR4 := sM _ _ eR
      have eM4 : upd H3 M (.dK []) M = some (.dK []) := upd_same
      have M2 : H2 M = none := b3.none nM MR
      have b24 : But R H2 (upd H3 M (.dK [])) := b3.trans (But.of sM)
      generalize upd H3 M (.dK []) = H4 at sM eR4 eM4 b24 ⊢
      have hml4 := b24 _ _ Rm hml2
      have mM : ml ≠ M := fun z => by rw [z, M2] at hml2; cases hml2
      refine ⟨R, .dK kvs, eR4, True.intro, fun od => ?_⟩
      refine ⟨_, rfl, R, od, rfl, .inl ⟨kvs, upd_same, for_it walk_keys (fun i σ' H' => ∃ (mvs : KVs) (y8 y9 : Option V), σ' = [some (.ref a), some (.ref pa), some (.int (rs.length : Nat)), some (.ref ml), some (.int ((1 : Int) * 2 ^ ((pus.length : Int)).toNat - 1)), some (.ref R), some (.int (0 + (j : Int))), some (.ref M), y8, y9] ∧ H' R = some (.frz od (.dK kvs)) ∧ H' M = some (.dK mvs) ∧ KB ps.length (begs ps rs) (j + 1) mvs ∧ ∀ b o, b ≠ R → b ≠ M → H4 b = some o → H' b = some o) ⟨[], _, _, rfl, upd_same, by rw [upd_ne MR]; exact eM4, kb_nil _ _ _, fun b o n _ e => by rw [upd_ne n]; exact e⟩ (fun i σ' H' _ hh => by obtain ⟨_, _, _, _, e, _⟩ := hh; exact e) ?_ ?_⟩⟩
      · rintro i x σ' H5 H5' hi ⟨mvs, y8, y9, rfl, fR5, eM5, kbm, old⟩ ⟨rfl, k, v, ek, rfl⟩
        obtain ⟨u, rfl, hu, hcu⟩ := kb.ks k (List.mem_map.mpr ⟨_, List.mem_of_getElem? ek, rfl⟩)
        refine ⟨_, rfl, ml, rfl, ⟨_, .inl (.inl (old _ _ Rm mM hml4))⟩, for_list (xs := ms.map fun m => V.int (m : Nat)) (fun i σ' H' => ∃ (mvs : KVs) (y9 : Option V), σ' = [some (.ref a), some (.ref pa), some (.int (rs.length : Nat)), some (.ref ml), some (.int ((1 : Int) * 2 ^ ((pus.length : Int)).toNat - 1)), some (.ref R), some (.int (0 + (j : Int))), some (.ref M), some (.int (u : Nat)), y9] ∧ H' R = some (.frz od (.dK kvs)) ∧ H' M = some (.dK mvs) ∧ KB ps.length (begs ps rs) (j + 1) mvs ∧ ∀ b o, b ≠ R → b ≠ M → H4 b = some o → H' b = some o) ⟨mvs, y9, rfl, fR5, eM5, kbm, old⟩ (fun i σ' H' _ hh => by obtain ⟨_, _, _, _, _, _, o⟩ := hh; exact .inl (.inl (o _ _ Rm mM hml4))) ?_ ?_⟩
        · rintro i2 x σ' H6 hx ⟨mvs, y9, rfl, fR6, eM6, kbm, old⟩
          rw [List.getElem?_map] at hx
          obtain ⟨m, em, rfl⟩ : ∃ m, ms[i2]? = some m ∧ x = .int (m : Nat) := by
            cases e : ms[i2]? with
            | none => rw [e] at hx; cases hx
            | some m => rw [e] at hx; cases hx; exact ⟨m, rfl, rfl⟩
          have mo := hms m (List.mem_of_getElem? em)
          have ek2 : (Sum.inl (Builtin.bitOr (u : Int) (m : Int)) : L2.Key) = keyN (u ||| m) := by
            rw [Bits.bitOr_pp (by omega) (by omega)]
            rfl
          have kb2 := kbm.put (u := u ||| m) (Nat.or_lt_two_pow hu mo.1) (Nat.le_trans (cnt_or u m _) (Nat.add_le_add hcu (begs_one pinv mo))) (.bl true)
          refine ⟨_, rfl, _, rfl, _, rfl, _, _, rfl, rfl, M, _, rfl, DPut.k (k := .inl (Builtin.bitOr (u : Int) (m : Int))) eM6 (small1000 (by have := kbm.len lps; omega)), putK mvs (keyN (u ||| m)) (.bl true), _, rfl, by rw [upd_ne (fun z => MR z.symm)]; exact fR6, by rw [upd_same, ek2], kb2, fun b o n1 n2 e => by rw [upd_ne n2]; exact old b o n1 n2 e⟩
        · rintro σ' H6 ⟨mvs, y9, rfl, fR6, eM6, kbm, old⟩
          exact ⟨mvs, _, _, rfl, fR6, eM6, kbm, old⟩
      · rintro σ' H5 ⟨mvs, y8, y9, rfl, fR5, eM5, kbm, old⟩
        refine ⟨fR5, ?_⟩
        have eR6 : upd H5 R (.dK kvs) R = some (.dK kvs) := upd_same
        have eM6 : upd H5 R (.dK kvs) M = some (.dK mvs) := by rw [upd_ne MR]; exact eM5
        have old6 : ∀ b o, b ≠ R → b ≠ M → H4 b = some o → upd H5 R (.dK kvs) b = some o := fun b o n1 n2 e => by rw [upd_ne n1]; exact old b o n1 n2 e
        generalize upd H5 R (.dK kvs) = H6 at eR6 eM6 old6 ⊢
        refine ⟨M, .dK mvs, eM6, True.intro, fun od2 => ?_⟩
        refine ⟨_, rfl, M, od2, rfl, .inl ⟨mvs, upd_same, for_it walk_keys (fun i σ' H' => ∃ (kvs : KVs) (y8 : Option V), σ' = [some (.ref a), some (.ref pa), some (.int (rs.length : Nat)), some (.ref ml), some (.int ((1 : Int) * 2 ^ ((pus.length : Int)).toNat - 1)), some (.ref R), some (.int (0 + (j : Int))), some (.ref M), y8, y9] ∧ H' M = some (.frz od2 (.dK mvs)) ∧ H' R = some (.dK kvs) ∧ KB ps.length (begs ps rs) (j + 1) kvs ∧ ∀ b o, b ≠ R → b ≠ M → H4 b = some o → H' b = some o) ⟨kvs, _, rfl, upd_same, by rw [upd_ne (fun z => MR z.symm)]; exact eR6, kb.up (Nat.le_succ j), fun b o n1 n2 e => by rw [upd_ne n2]; exact old6 b o n1 n2 e⟩ (fun i σ' H' _ hh => by obtain ⟨_, _, _, e, _⟩ := hh; exact e) ?_ ?_⟩⟩
        · rintro i x σ' H7 H7' hi ⟨kvs, y8, rfl, fM7, eR7, kb7, old7⟩ ⟨rfl, k, v, ek, rfl⟩
          obtain ⟨u, rfl, hu, hcu⟩ := kbm.ks k (List.mem_map.mpr ⟨_, List.mem_of_getElem? ek, rfl⟩)
          exact ⟨_, rfl, _, rfl, R, _, rfl, DPut.k (k := keyN u) eR7 (small1000 (by have := kb7.len lps; omega)), putK kvs (keyN u) (.bl true), _, rfl, by rw [upd_ne MR]; exact fM7, upd_same, kb7.put hu hcu _, fun b o n1 n2 e => by rw [upd_ne n1]; exact old7 b o n1 n2 e⟩
        · rintro σ' H7 ⟨kvs, y8, rfl, fM7, eR7, kb7, old7⟩
          refine ⟨fM7, kvs, _, _, _, _, rfl, fun b o n e => ?_, by rw [upd_ne (fun z => MR z.symm)]; exact eR7, kb7⟩
          have nb : b ≠ M := fun z => by rw [z, M2] at e; cases e
          rw [upd_ne nb]
          exact old7 b o n nb (b24 b o n e)
    · rintro σ' H3 ⟨kvs, y6, y7, y8, y9, rfl, b3, eR, kb⟩
      exact q _ (s1.trans (But.same nR sR b3))
theorem ok_judged_label (T : Tab K mg) : FnOk P w K mg base CX0 4 T.f_judged_label T.d_judged_label ["thing"] (sp_judged_label K) := by
  refine T.F_judged_label.ok sc_judged_label (fun vs H Q E h => ?_) (fun cdv A outer s H vs Q E hr h => ?_)
  · obtain ⟨v, d, L, rfl, _⟩ := h
    rfl
  · obtain ⟨v, d, L, rfl, hd, hk, q⟩ := h
    refine ⟨_, (pss_cons (ps_set (i := 1) sc_judged_label.nd rfl (.inl rfl) (pe_call (ok_kept_label T) (hr.mono (by decide)) (by rfl) T.g_kept_label T.F_kept_label.kp T.b_kept_label .nil pass0 (pa_cons (pv 0) pa_nil)))
      (pss_cons (ps_if (pt_cmpR op_isN (pv 1) pe_non (nomark _))
      (pss_one ps_never)
      pss_nil)
      (pss_one (ps_ret (pv 1))))), ?_⟩
    refine ⟨_, rfl, _, d, rfl, hd, fun y H1 s1 kl => ?_⟩
    rw [hk] at kl
    have q1 := q y H1 s1 kl
    rcases kl with ⟨rfl, a, rfl, ha⟩ | ⟨b, rfl, hb⟩
    · refine ⟨_, rfl, rfl, _, rfl, ite2 (fun e => absurd (of_decide_eq_true e) (by intro z; cases z)) (fun _ => ?_)⟩
      exact ⟨_, rfl, q1⟩
    · refine ⟨_, rfl, rfl, _, rfl, ite2 (fun e => absurd (of_decide_eq_true e) (by intro z; cases z)) (fun _ => ?_)⟩
      exact ⟨_, rfl, q1⟩
theorem ok_kept_page (T : Tab K mg) : FnOk P w K mg base CX0 4 T.f_kept_page T.d_kept_page ["thing"] (sp_kept_page K) := by
  refine T.F_kept_page.ok sc_kept_page (fun vs H Q E h => ?_) (fun cdv A outer s H vs Q E hr h => ?_)
  · obtain ⟨v, d, rfl, _⟩ := h
    rfl
  · obtain ⟨v, d, rfl, hd, q⟩ := h
    refine ⟨_, (pss_cons (ps_if (PW.pt (pw_or (pt_not (pt_val (pe_call (ok_is_sized T) (hr.mono (by decide)) (by rfl) T.g_is_sized T.F_is_sized.kp T.b_is_sized .nil pass0 (pa_cons (pv 0) (pa_cons pe_int (pa_cons pe_int pa_nil)))))) (pw_or1 (pt_not (pt_val (pe_call (ok_is_within T) (hr.mono (by decide)) (by rfl) T.g_is_within T.F_is_within.kp T.b_is_within .nil pass0 (pa_cons (pe_ix (IxR.or ix_list ix_tup) (pv 0) pe_int (fun _ _ => rfl)) (pa_cons pe_int (pa_cons pe_int pa_nil)))))))))
      (pss_one (ps_ret pe_non))
      pss_nil)
      (pss_cons (ps_set (i := 1) sc_kept_page.nd rfl (.inl rfl) (pe_call (ok_kept_label T) (hr.mono (by decide)) (by rfl) T.g_kept_label T.F_kept_label.kp T.b_kept_label .nil pass0 (pa_cons (pe_ix (IxR.or ix_list ix_tup) (pv 0) pe_int (fun _ _ => rfl)) pa_nil)))
      (pss_one (ps_ret (pe_ifExp (pt_cmpR op_isN (pv 1) pe_non (nomark _)) pe_non (pe_tup (pa_cons (pv 1) (pa_cons (pe_ix (IxR.or ix_list ix_tup) (pv 0) pe_int (fun _ _ => rfl)) pa_nil)))))))), ?_⟩
    refine ⟨_, rfl, v, d, 2, 2, rfl, hd, fun H1 s1 => ⟨_, rfl, ?_⟩⟩
    have no : ∀ H', Same H H' → keptPD d = none → Q .non H' := fun H' s e => q .non H' s (by rw [e]; exact .non)
    by_cases hsz : sz 2 2 d = true
    · rw [hsz]
      obtain ⟨x, y, hi⟩ : ∃ x y, items d = some [x, y] := by
        unfold sz at hsz
        split at hsz
        · rename_i ds e
          have h2 := of_decide_eq_true hsz
          match ds, e, h2 with
          | [x, y], e, _ => exact ⟨x, y, e⟩
          | [], _, h2 => simp at h2
          | [x], _, h2 => simp at h2
          | x :: y :: z :: r, _, h2 => simp only [List.length_cons] at h2; omega
        · cases hsz
      have kp : keptPD d = if wI 0 1 y = true then (match keptD x with | some L => some (L, toI y) | none => none) else none := by unfold keptPD; first | (rw [hi]; rfl) | rw [hi]
      obtain ⟨a, xs, rfl, hS, dp⟩ : ∃ a xs, v = .ref a ∧ Seq K H1 a xs ∧ DpAll K H1 xs [x, y] := by
        cases hd with
        | lst h k => cases hi; exact ⟨_, _, rfl, .inl (s1.seq h), dpAll_same s1 k⟩
        | tup h k => cases hi; exact ⟨_, _, rfl, .inr (same_seqT s1 h), dpAll_same s1 k⟩
        | non => cases hi
        | bl b => cases hi
        | int i => cases hi
        | str z => cases hi
      obtain ⟨u, w, rfl, hu, hw⟩ : ∃ u w, xs = [u, w] ∧ Dp K H1 u x ∧ Dp K H1 w y := by
        cases dp with
        | cons h1 r =>
          cases r with
          | cons h2 r => cases r; exact ⟨_, _, rfl, h1, h2⟩
      have ix : ∀ {Q1 : V → Hp → Prop} {H2 : Hp} {i : Int} {z : V}, Same H1 H2 → atI [u, w] i = some z → Q1 z H2 → (rIxL K (.ref a) (.int i) H2 Q1 ∨ rIxT K (.ref a) (.int i) H2 Q1) := fun {Q1 H2 i z} s e q => by
        rcases hS with hS | hS
        · exact .inl ⟨a, _, _, _, rfl, rfl, s.seq hS, e, q⟩
        · exact .inr ⟨a, _, _, _, rfl, rfl, same_seqT s hS, e, q⟩
      refine ⟨_, rfl, ix (Same.refl H1) rfl ?_⟩
      refine ⟨w, y, 0, 1, rfl, hw, ?_⟩
      cases e1 : wI 0 1 y with
      | false => exact ⟨_, rfl, no H1 s1 (by rw [kp, e1]; rfl)⟩
      | true =>
        refine ⟨_, rfl, ?_⟩
        refine ⟨_, rfl, ix (Same.refl H1) rfl ?_⟩
        refine ⟨u, x, rfl, hu, fun l H2 s2 kl => ?_⟩
        have s12 := s1.trans s2
        cases e2 : keptD x with
        | none =>
          rw [e2] at kl
          cases kl
          refine ⟨_, rfl, rfl, _, rfl, ite2 (fun _ => ?_) (fun e => absurd (decide_eq_true rfl) e)⟩
          exact no H2 s12 (by rw [kp, if_pos e1, e2])
        | some L =>
          rw [e2] at kl
          have dl := kl.dp
          obtain ⟨b, rfl, hb⟩ := dL_inv dl
          refine ⟨_, rfl, rfl, _, rfl, ite2 (fun e => absurd (of_decide_eq_true e) (by intro z; cases z)) (fun _ => ?_)⟩
          obtain ⟨i, rfl⟩ : ∃ i, y = .int i := by
            cases y with
            | int i => exact ⟨i, rfl⟩
            | _ => cases e1
          cases hw
          refine ⟨_, rfl, _, rfl, ix s2 rfl ?_⟩
          refine ⟨(by show 2 ≤ sizeLine; decide), fun t nt => ?_⟩
          have s3 := same_upd (o := .tup [.ref b, .int i]) nt
          exact q (.ref t) _ (s12.trans s3) (by
            rw [kp, if_pos e1, e2]
            exact .tup (.inl (.inl upd_same)) (.cons (dpL (same_seqT s3 hb)) (.cons (.int _) .nil)))
    · rw [Bool.not_eq_true] at hsz
      rw [hsz]
      refine no H1 s1 ?_
      unfold keptPD
      unfold sz at hsz
      split at hsz
      · rename_i ds e
        rw [e]
        have h2 := of_decide_eq_false hsz
        match ds, h2 with
        | [x, y], h2 => exact absurd ⟨by simp, by simp⟩ h2
        | [], _ => rfl
        | [x], _ => rfl
        | x :: y :: z :: r, _ => rfl
      · rename_i e
        rw [e]
theorem ok_kept_strokes (T : Tab K mg) : FnOk P w K mg base CX0 4 T.f_kept_strokes T.d_kept_strokes ["strokes"] (sp_kept_strokes K) := by
  refine T.F_kept_strokes.ok sc_kept_strokes (fun vs H Q E h => ?_) (fun cdv A outer s H vs Q E hr h => ?_)
  · obtain ⟨a, rfl, _⟩ := h
    rfl
  · obtain ⟨a, rfl, ha, q⟩ := h
    refine ⟨_, (pss_cons (ps_if (PW.pt (pw_or (pt_not (pt_val (pe_call (ok_is_tuple T) (hr.mono (by decide)) (by rfl) T.g_is_tuple T.F_is_tuple.kp T.b_is_tuple .nil pass0 (pa_cons (pv 0) pa_nil)))) (pw_or1 (pt_not (pt_val (pe_callB (cr_all rfl) (by rfl) T.m_all (by decide +kernel) (pa_cons (pe_lc (own := [("stroke", 1)]) (g := gName 1) (by rfl) sc_kept_strokes.nd (pi_tup (pv 0)) (blkOk_by (own := [("stroke", 1)]) (N := N_kept_strokes) (sc := defScope s_kept_strokes) (by decide +kernel)) (fun _ _ _ _ _ => pg_name (i := 1) sc_kept_strokes.nd rfl (.inl rfl)) (fun _ _ _ _ _ => pts_nil) (fun _ _ _ _ _ => (pe_call (ok_is_stroke T) (hr.mono (by decide)) (by rfl) T.g_is_stroke T.F_is_stroke.kp T.b_is_stroke .nil pass0 (pa_cons (pv 1) pa_nil)))) pa_nil)))))))
      (pss_one (ps_ret pe_non))
      pss_nil)
      (pss_one (ps_ret (pe_callTy call_tuple_of (by rfl) T.m_tuple (by decide +kernel) (pa_cons (pe_lc (own := [("stroke", 1)]) (g := gName 1) (by rfl) sc_kept_strokes.nd (pi_tup (pv 0)) (blkOk_by (own := [("stroke", 1)]) (N := N_kept_strokes) (sc := defScope s_kept_strokes) (by decide +kernel)) (fun _ _ _ _ _ => pg_name (i := 1) sc_kept_strokes.nd rfl (.inl rfl)) (fun _ _ _ _ _ => pts_nil) (fun _ _ _ _ _ => (pe_callTy (call_tuple_ofK (K := K) rfl) (by rfl) T.m_tuple (by decide +kernel) (pa_cons (pv 1) pa_nil)))) pa_nil))))), ?_⟩
    refine ⟨_, rfl, _, .none, rfl, .inr ⟨a, [], rfl, .inr ha, fun H1 s1 => ⟨_, rfl, iteF ?_⟩⟩⟩
    have ha1 := same_seqT s1 ha
    refine ⟨_, rfl, a, rfl, ⟨_, ha1⟩, fun D nD => ?_⟩
    refine lc_fm ([] : List Str) (fun _ => none) (walkT (xs := []) rfl) nD (fun H h => same_seqT h ha1) (by decide) (fun i d x H2 H3 ed => by cases ed) fun H2 sm eD => ?_
    refine ⟨D, [], rfl, .inl (.inl eD), _, rfl, iteF ?_⟩
    have s2 := s1.trans sm
    have ha2 := same_seqT sm ha1
    refine ⟨_, rfl, a, rfl, ⟨_, ha2⟩, fun D2 nD2 => ?_⟩
    refine lc_fm ([] : List Str) (fun _ => none) (walkT (xs := []) rfl) nD2 (fun H h => same_seqT h ha2) (by decide) (fun i d x H2 H3 ed => by cases ed) fun H3 sm3 eD3 => ?_
    refine ⟨D2, _, rfl, .inl ⟨.inl (.inl eD3), fun p np => ?_⟩⟩
    exact q p _ ((s2.trans sm3).trans (same_upd np)) upd_same
theorem ok_leaves (T : Tab K mg) : FnOk P w K mg base CX0 4 T.f_leaves T.d_leaves ["_law_source_here"] (sp_leaves K) := by
  refine T.F_leaves.ok sc_leaves (fun vs H Q E h => ?_) (fun cdv A outer s H vs Q E hr h => ?_)
  · obtain ⟨a, rfl, _⟩ := h
    rfl
  · obtain ⟨a, rfl, src, q⟩ := h
    refine ⟨_, (pss_cons (ps_set (i := 1) sc_leaves.nd rfl (.inl rfl) (pe_lst pa_nil))
      (pss_cons (ps_for PassesOwn.never rfl (pi_list (pe_call (ok_labels T) (hr.mono (by decide)) (by rfl) T.g_labels T.F_labels.kp T.b_labels .nil pass0 (pa_cons (pv 0) pa_nil))) (pg_name (i := 2) sc_leaves.nd rfl (.inl rfl))
      (pss_cons (ps_set (i := 3) sc_leaves.nd rfl (.inl rfl) (pe_tup pa_nil))
        (C8.pss_cut (ps_if (pt_cmpR op_eq (pe_call (ok_pick T) (hr.mono (by decide)) (by rfl) T.g_pick T.F_pick.kp T.b_pick .nil pass0 (pa_cons (pv 0) (pa_cons pe_int pa_nil))) pe_int (nomark _))
        (pss_one (ps_set (i := 3) sc_leaves.nd rfl (.inl rfl) (pe_call (ok_side T) (hr.mono (by decide)) (by rfl) T.g_side T.F_side.kp T.b_side .nil pass0 (pa_cons (pv 0) pa_nil))))
        pss_nil)
        (pss_one (ps_expr (pe_bm PySem.F.plainAttrs_list PySem.F.slot_list_append PySem.F.type_list_append mt_append (pv 1) (pa_cons (pe_tup (pa_cons (pv 2) (pa_cons (pe_call (ok_side T) (hr.mono (by decide)) (by rfl) T.g_side T.F_side.kp T.b_side .nil pass0 (pa_cons (pv 0) pa_nil)) (pa_cons (pv 3) (pa_cons (pe_tup pa_nil) pa_nil))))) pa_nil)))))))
      (pss_one (ps_ret (pv 1))))), ?_⟩
    refine ⟨Nat.zero_le _, fun D nD => ?_⟩
    have nDa : D ≠ a := (src.ne nD).symm
    have s0 := src.put nDa.symm (.lst [])
    refine ⟨_, rfl, a, rfl, s0, fun l ls Ls H1 s1 b1 fl hl tl oL pw l60 => ?_⟩
    have eD1 := b1 _ _ nDa upd_same
    have fD : H D = none := nD
    have b01 : But a H H1 := (But.of (same_upd nD)).trans b1
    have lD : l ≠ D := fun z => by rw [z, upd_same] at fl; cases fl
    have nla : l ≠ a := (s0.ne fl).symm
    have len := tl.len
    rw [List.length_map] at len
    refine ⟨l, rfl, ⟨_, .inl (.inl hl)⟩, for_list (xs := ls) (fun i σ' H' => ∃ (bk : List Lf) (us : List V) (y2 y3 : Option V), σ' = [some (.ref a), some (.ref D), y2, y3] ∧ Src H' a ∧ But a H H' ∧ H' l = some (.lst ls) ∧ TpAll H' ls (Ls.map dL) ∧ H' D = some (.lst us) ∧ TpAll H' us (bk.map dLf) ∧ (∀ l ∈ bk, okLf l) ∧ bk.map (·.L) = Ls.take i) ⟨[], [], none, none, rfl, s1, b01, hl, tl, eD1, .nil, (fun _ h => nomatch h), rfl⟩ (fun i σ' H' _ hh => by obtain ⟨_, _, _, _, _, _, _, e, _⟩ := hh; exact .inl (.inl e)) ?_ ?_⟩
    · rintro i x σ' H2 hx ⟨bk, us, y2, y3, rfl, s2, b2, hl2, tl2, eD2, tu2, oB, eB⟩
      obtain ⟨d, ed, td⟩ := tl2.get hx
      obtain ⟨L, el, rfl⟩ : ∃ L, Ls[i]? = some L ∧ d = dL L := by
        rw [List.getElem?_map] at ed
        cases e : Ls[i]? with
        | none => rw [e] at ed; cases ed
        | some l => rw [e] at ed; exact ⟨l, rfl, (Option.some.inj ed).symm⟩
      have hok := oL L (List.mem_of_getElem? el)
      have ul : us.length ≤ 100 := by
        rw [tu2.len, List.length_map, ← List.length_map (f := (·.L)), eB, List.length_take]
        omega
      refine ⟨Nat.zero_le _, fun e0 ne0 => ?_⟩
      have ne0a : e0 ≠ a := (s2.ne ne0).symm
      have sm0 := same_upd (o := .tup []) ne0
      have s3 := s2.put ne0a.symm (.tup [])
      have he0 : upd H2 e0 (.tup []) e0 = some (.tup []) := upd_same
      generalize upd H2 e0 (.tup []) = H3 at sm0 s3 he0
      refine ⟨fun σ' H' => ∃ (g : Addr) (zs : List Str), σ' = [some (.ref a), some (.ref D), some x, some (.ref g)] ∧ Src H' a ∧ But a H3 H' ∧ H' g = some (.tup (zs.map V.str)) ∧ rowsB 0 zs = true, ?_, ?_⟩
      · refine ⟨_, rfl, _, _, rfl, s3, by decide, by decide, fun n4 H4 s4 b4 _ _ => ?_⟩
        refine ⟨rfl, _, rfl, ite2 (fun _ => ?_) (fun _ => ?_)⟩
        · refine ⟨_, rfl, _, rfl, s4, fun g zs H5 s5 b5 hg hr => ?_⟩
          refine ⟨g, zs, rfl, s5, b4.trans b5, hg, ?_⟩
          unfold rowsB at hr ⊢
          simp only [Bool.and_eq_true] at hr ⊢
          exact ⟨⟨decide_eq_true (Nat.zero_le _), hr.1.2⟩, hr.2⟩
        · exact ⟨e0, [], rfl, s4, b4, b4 _ _ ne0a he0, rfl⟩
      · rintro σ' H5 ⟨g, zs, rfl, s5, b5, hg, hr⟩
        have b25 : But a H2 H5 := (But.of sm0).trans b5
        have eD5 := b25 _ _ nDa eD2
        refine ⟨_, rfl, .inl ⟨rfl, _, .inl (.inl eD5)⟩, _, rfl, _, rfl, a, rfl, s5, fun f fs H6 s6 b6 hf hrf => ⟨_, rfl, Nat.zero_le _, fun e1 ne1 => ⟨(by show 4 ≤ sizeLine; decide), fun t nt => ?_⟩⟩⟩
        have ne1a : e1 ≠ a := (s6.ne ne1).symm
        have sm1 := same_upd (o := .tup []) ne1
        have s7 := s6.put ne1a.symm (.tup [])
        have he1 : upd H6 e1 (.tup []) e1 = some (.tup []) := upd_same
        generalize upd H6 e1 (.tup []) = H7 at sm1 s7 he1 nt
        have nta : t ≠ a := (s7.ne nt).symm
        have sm2 := same_upd (o := .tup [x, .ref f, .ref g, .ref e1]) nt
        have s8 := s7.put nta.symm (.tup [x, .ref f, .ref g, .ref e1])
        have ht : upd H7 t (.tup [x, .ref f, .ref g, .ref e1]) t = some (.tup [x, .ref f, .ref g, .ref e1]) := upd_same
        generalize upd H7 t (.tup [x, .ref f, .ref g, .ref e1]) = H8 at sm2 s8 ht
        have b68 : But a H6 H8 := But.of (sm1.trans sm2)
        have b28 := (b25.trans b6).trans b68
        have eD8 := b28 _ _ nDa eD2
        have m28 := s2.nl b28
        have mz := (NL.refl H8).put eD8 (.lst (us ++ [.ref t]))
        have tD : t ≠ D := fun z => by rw [z, (But.of sm1) _ _ nDa ((b25.trans b6) _ _ nDa eD2)] at nt; cases nt
        have tx : Tp (upd H8 D (.lst (us ++ [.ref t]))) (.ref t) (dLf ⟨L, fs, zs, []⟩) := by
          refine .tup (mz _ _ ht (fun _ z => nomatch z)) (.cons ((td.nl m28).nl mz) (.cons ?_ (.cons ?_ (.cons ?_ .nil))))
          · exact tpS (mz _ _ (b68 _ _ (fun z => by obtain ⟨_, _, _, e⟩ := s6; rw [z, e] at hf; cases hf) hf) (fun _ z => nomatch z))
          · exact tpS (mz _ _ ((b6.trans b68) _ _ (fun z => by obtain ⟨_, _, _, e⟩ := s5; rw [z, e] at hg; cases hg) hg) (fun _ z => nomatch z))
          · exact .tup (mz _ _ (sm2 _ _ he1) (fun _ z => nomatch z)) .nil
        refine ⟨D, us, _, rfl, rfl, eD8, small1000 (by omega), bk ++ [⟨L, fs, zs, []⟩], us ++ [.ref t], _, _, rfl, s8.put nDa.symm _, (b2.trans b28).put fD _, ?_, ?_, upd_same, ?_, ?_, ?_⟩
        · rw [upd_ne lD]; exact b28 _ _ nla hl2
        · exact (tl2.nl m28).nl mz
        · rw [List.map_append]
          exact ((tu2.nl m28).nl mz).snoc tx
        · intro l hl
          rcases List.mem_append.mp hl with h | h
          · exact oB _ h
          · rw [List.mem_singleton.mp h]; exact ⟨hok, hrf, hr, rfl⟩
        · rw [List.map_append, eB, List.take_add_one, el]
          rfl
    · rintro σ' H2 ⟨bk, us, y2, y3, rfl, s2, b2, hl2, tl2, eD2, tu2, oB, eB⟩
      rw [len, List.take_length] at eB
      refine ⟨_, rfl, q D bk H2 s2 b2 nD ⟨us, eD2, tu2⟩ ⟨?_, oB, ?_⟩⟩
      · rw [← List.length_map (f := (·.L)), eB]; exact l60
      · rw [← eB, List.pairwise_map] at pw
        exact pw
theorem ok_judged_pages (T : Tab K mg) : FnOk P w K mg base (L2.CX P w) 5 T.f_judged_pages T.d_judged_pages ["book", "pages"] (sp_judged_pages K T.C_Leaf T.C_Book T.C_BadPages) := by
  refine T.F_judged_pages.okX sc_judged_pages (fun vs H Q E h => ?_) (fun cdv A outer s H vs Q E hr h => ?_)
  · obtain ⟨v, w, bk, d, rfl, _⟩ := h
    rfl
  · obtain ⟨v, w, bk, d, rfl, hbk, okb, hw, hl, bad, good⟩ := h
    refine ⟨_, (pss_cons (ps_if (pt_not (pt_val (pe_call (ok_is_tuple T) (hr.mono (by decide)) (by rfl) T.g_is_tuple T.F_is_tuple.kp T.b_is_tuple .nil pass0 (pa_cons (pv 1) pa_nil))))
      (pss_one (ps_raise rfl (takes_of rfl rfl rfl rfl) (pmk_own0 PySem.F.excBase_ValueError T.x_BadPages T.cg_BadPages T.k_BadPages (raises_own T.hs_BadPages T.t_BadPages) (by rfl))))
      pss_nil)
      (pss_cons (ps_set (i := 2) sc_judged_pages.nd rfl (.inr rfl) (pe_call (ok_shown_pages T) (hr.mono (by decide)) (by rfl) T.g_shown_pages T.F_shown_pages.kp T.b_shown_pages .nil pass0 (pa_cons (pv 0) pa_nil)))
      (pss_cons (ps_setLc (i := 3) (own := [("page", 4)]) (g := gName 4) (by rfl) sc_judged_pages.nd rfl rfl (sw_true rfl rfl rfl (by decide +kernel)) (pi_or (pi_list (pv 1)) (pi_tup (pv 1))) (blkOk_by (own := [("page", 4)]) (N := N_judged_pages) (sc := defScope s_judged_pages) (by decide +kernel)) (fun _ _ _ _ _ => pg_name (i := 4) sc_judged_pages.nd rfl (.inl rfl)) (fun _ _ _ _ _ => pts_nil) (fun _ _ _ _ _ => (pe_call (ok_kept_page T) (hr.mono (by decide)) (by rfl) T.g_kept_page T.F_kept_page.kp T.b_kept_page .nil pass0 (pa_cons (pv 4) pa_nil))))
      (pss_cons (ps_if (pt_not (pt_val (pe_callB (cr_all rfl) (by rfl) T.m_all (by decide +kernel) (pa_cons (pe_lc (own := [("page", 4)]) (g := gName 4) (by rfl) sc_judged_pages.nd (pi_list (pv 3)) (blkOk_by (own := [("page", 4)]) (N := N_judged_pages) (sc := defScope s_judged_pages) (by decide +kernel)) (fun _ _ _ _ _ => pg_name (i := 4) sc_judged_pages.nd rfl (.inl rfl)) (fun _ _ _ _ _ => pts_nil) (fun _ _ _ _ _ => (pe_cmpR (op_inDDK (K := K) rfl (un2 hr)) (pv 4) (pv 2) (by rfl)))) pa_nil))))
      (pss_one (ps_raise rfl (takes_of rfl rfl rfl rfl) (pmk_own0 PySem.F.excBase_ValueError T.x_BadPages T.cg_BadPages T.k_BadPages (raises_own T.hs_BadPages T.t_BadPages) (by rfl))))
      pss_nil)
      (pss_cons (ps_if (pt_not (pt_val (pe_callB (cr_all rfl) (by rfl) T.m_all (by decide +kernel) (pa_cons (pe_lc (own := [("one", 5), ("other", 6)]) (g := gTup K 2 _) (by rfl) sc_judged_pages.nd (pi_zip (by rfl) T.m_zip (pa_cons (pv 3) (pa_cons (pe_slice sl_list (pv 3) (po_some pe_int) po_none) pa_nil))) (blkOk_by (own := [("one", 5), ("other", 6)]) (N := N_judged_pages) (sc := defScope s_judged_pages) (by decide +kernel)) (fun _ _ _ _ _ => pg_tup (by rfl) (pgs_cons (pg_name (i := 5) sc_judged_pages.nd rfl (.inl rfl)) (pgs_cons (pg_name (i := 6) sc_judged_pages.nd rfl (.inl rfl)) pgs_nil))) (fun _ _ _ _ _ => pts_nil) (fun _ _ _ _ _ => (pe_cmpR (op_ltDK (K := K) rfl (un2 hr)) (pv 5) (pv 6) (nomark _)))) pa_nil))))
      (pss_one (ps_raise rfl (takes_of rfl rfl rfl rfl) (pmk_own0 PySem.F.excBase_ValueError T.x_BadPages T.cg_BadPages T.k_BadPages (raises_own T.hs_BadPages T.t_BadPages) (by rfl))))
      pss_nil)
      (pss_one (ps_ret (pe_callTy call_tuple_of (by rfl) T.m_tuple (by decide +kernel) (pa_cons (pv 3) pa_nil))))))))), ?_⟩
    refine ⟨_, rfl, w, d, rfl, .inl ⟨hw, fun H1 s1 => ⟨_, rfl, ?_⟩⟩⟩
    cases hi : items d with
    | none =>
      refine iteT ?_
      exact bad (bad_items hi) H1 s1
    | some ds =>
      refine iteF ?_
      have l200 := hl ds hi
      refine ⟨_, rfl, v, bk, rfl, hbk.nl (NL.of s1), fun sp H2 s2 hsp => ?_⟩
      have s12 := s1.trans s2
      obtain ⟨sa, sus, esa, hsa, tsp⟩ := dPs_inv (K := K) hsp.dp
      cases esa
      cases hw with
      | lst hs da =>
        cases hi
        have hi : items (PyData.list ds) = some ds := rfl
        have hs2 := s12.seq hs
        have lds := dpAll_len da
        refine .inl ⟨_, rfl, _, rfl, ⟨_, hs2⟩, fun D nD => ?_⟩
        refine lc_dp (K := K) ds (fun e => some (oD dP (keptPD e))) (fun d e h => by cases h; exact nl_oP _) (walkL lds) nD (fun H h => h.seq hs2) (by omega) ?_ ?_
        · rintro i e y H4x H4 er sm ⟨rfl, hy⟩ R N hR hN
          obtain ⟨e', ee, de⟩ := dpAll_get da hy
          rw [er] at ee
          cases ee
          exact ⟨rfl, _, rfl, y, e, rfl, dp_same (s12.trans sm) de, fun u H' s' du => hR u _ rfl _ s' du⟩
        rintro H3 us s3 eD du
        have du : DpAll K H3 us (ds.filterMap fun e => some (oD dP (keptPD e))) := du
        rw [List.filterMap_eq_map'] at du
        have lu := dpAll_len du
        rw [List.length_map] at lu
        have s13 := s12.trans s3
        refine ⟨_, rfl, D, rfl, ⟨_, .inl (.inl eD)⟩, fun D2 nD2 => ?_⟩
        refine lc_fm ds (fun e => some (V.bl (inS (shownP bk) e))) (walkL (xs := us) lu) nD2 (fun H h => .inl (.inl (h _ _ eD))) (by omega) ?_ ?_
        · rintro i e y H4x H4 er sm ⟨rfl, hy⟩ R N hR hN
          obtain ⟨e', ee, de⟩ := dpAll_get du hy
          rw [List.getElem?_map, er] at ee
          cases ee
          refine ⟨rfl, _, rfl, _, rfl, oD dP (keptPD e), (shownP bk).map dP, dp_same sm de, .inr (dp_same (s3.trans sm) hsp.dp), shaped_oP _, shaped_Ps _, ?_⟩
          have e1 : (false != ((shownP bk).map dP).any fun z => PyData.eqv z (oD dP (keptPD e))) = inS (shownP bk) e := by
            rw [Bool.false_bne, any_oP]
            rfl
          rw [e1]
          exact hR _ rfl _ (Same.refl _)
        rintro H4 s4 eD2
        rw [map_fm, show (fun e => V.bl (inS (shownP bk) e)) = V.bl ∘ inS (shownP bk) from rfl, ← List.map_map] at eD2
        refine ⟨D2, _, rfl, .inl (.inl eD2), _, rfl, ?_⟩
        rw [all_map]
        have s14 := s13.trans s4
        cases ea : ds.all (inS (shownP bk)) with
        | false =>
          refine iteT ?_
          exact bad (fun ps g => by rw [inS_good hi g] at ea; cases ea) H4 s14
        | true =>
          refine iteF ?_
          obtain ⟨ps, hm, hs⟩ := all_inS ea
          have emap : ds.map (fun e => oD dP (keptPD e)) = ps.map dP := by
            have : ds.map (fun e => oD dP (keptPD e)) = (ds.map keptPD).map (oD dP) := by rw [List.map_map]; rfl
            rw [this, hm, List.map_map]
            rfl
          rw [emap] at du
          have du4 := dpAll_same s4 du
          have lps := dpAll_len du
          rw [List.length_map] at lps
          have eD4 := s4 _ _ eD
          refine ⟨_, rfl, _, rfl, 1, rfl, D, _, rfl, .inl (.inl eD4), fun p np => ?_⟩
          have ec : cutV us (some 1) none = us.drop 1 := cutV_from us 1
          rw [ec]
          have s5 := same_upd (o := .lst (us.drop 1)) np
          have ep : upd H4 p (.lst (us.drop 1)) p = some (.lst (us.drop 1)) := upd_same
          have s15 := s14.trans s5
          have eD5 := s5 _ _ eD4
          have du5 := dpAll_same s5 du4
          generalize upd H4 p (.lst (us.drop 1)) = H5 at s5 ep s15 eD5 du5 ⊢
          refine ⟨D, p, _, _, rfl, .inl (.inl eD5), .inl (.inl ep), fun D3 nD3 => ?_⟩
          refine lc_fm (ps.zip (ps.drop 1)) (fun z => some (V.bl (ltP z.1 z.2))) (walk_zip (xs := us) (ys := us.drop 1) (by rw [List.length_zip, List.length_drop, List.length_drop, lps])) nD3 (fun H h => ⟨.inl (.inl (h _ _ eD5)), .inl (.inl (h _ _ ep))⟩) (by rw [List.length_zip]; omega) ?_ ?_
          · rintro i ⟨p1, p2⟩ y H6x H6 er sm ⟨T1, x1, x2, rfl, nT, rfl, h1, h2⟩ R N hR hN
            rw [List.getElem?_zip_eq_some] at er
            obtain ⟨er1, er2⟩ := er
            simp only at er1 er2 h1 h2
            rw [List.getElem?_drop] at er2 h2
            obtain ⟨d1, ed1, t1⟩ := dpAll_get du5 h1
            obtain ⟨d2, ed2, t2⟩ := dpAll_get du5 h2
            rw [List.getElem?_map, er1] at ed1
            rw [List.getElem?_map, er2] at ed2
            cases ed1
            cases ed2
            have st := same_upd (o := .tup [x1, x2]) nT
            have s6 := sm.trans st
            refine ⟨T1, _, rfl, .inl (.inl upd_same), rfl, _, _, rfl, _, _, rfl, rfl, rfl, ?_⟩
            exact ⟨_, rfl, _, rfl, dP p1, dP p2, dp_same s6 t1, dp_same s6 t2, alike_P _ _, (fun z => nomatch z), Nat.le_trans (depthP _) (by decide), hR _ rfl _ st⟩
          rintro H6 s6 eD6
          rw [map_fm, show (fun z : Pg × Pg => V.bl (ltP z.1 z.2)) = V.bl ∘ (fun z : Pg × Pg => ltP z.1 z.2) from rfl, ← List.map_map] at eD6
          refine ⟨D3, _, rfl, .inl (.inl eD6), _, rfl, ?_⟩
          rw [all_map]
          have s16 := s15.trans s6
          cases eu : (ps.zip (ps.drop 1)).all fun z => ltP z.1 z.2 with
          | false =>
            refine iteT ?_
            refine bad (fun qs g => ?_) H6 s16
            obtain ⟨es, hi2, hm2, _, up⟩ := g
            rw [hi] at hi2
            cases hi2
            rw [hm] at hm2
            rw [some_inj hm2, up_zip.mpr up] at eu
            cases eu
          | true =>
            refine iteF ?_
            have up := up_zip.mp eu
            refine ⟨_, rfl, D, _, rfl, .inl ⟨.inl (.inl (s6 _ _ eD5)), fun t nt => ?_⟩⟩
            have s7 := same_upd (o := .tup us) nt
            exact good ps ⟨ds, hi, hm, hs, up⟩ t _ (s16.trans s7) (.tup (.inl (.inl upd_same)) (dpAll_same (s6.trans s7) du5))
      | tup hs da =>
        cases hi
        have hi : items (PyData.tuple ds) = some ds := rfl
        have hs2 := same_seqT s12 hs
        have lds := dpAll_len da
        refine .inr ⟨_, rfl, _, rfl, ⟨_, hs2⟩, fun D nD => ?_⟩
        refine lc_dp (K := K) ds (fun e => some (oD dP (keptPD e))) (fun d e h => by cases h; exact nl_oP _) (walkT lds) nD (fun H h => same_seqT h hs2) (by omega) ?_ ?_
        · rintro i e y H4x H4 er sm ⟨rfl, hy⟩ R N hR hN
          obtain ⟨e', ee, de⟩ := dpAll_get da hy
          rw [er] at ee
          cases ee
          exact ⟨rfl, _, rfl, y, e, rfl, dp_same (s12.trans sm) de, fun u H' s' du => hR u _ rfl _ s' du⟩
        rintro H3 us s3 eD du
        have du : DpAll K H3 us (ds.filterMap fun e => some (oD dP (keptPD e))) := du
        rw [List.filterMap_eq_map'] at du
        have lu := dpAll_len du
        rw [List.length_map] at lu
        have s13 := s12.trans s3
        refine ⟨_, rfl, D, rfl, ⟨_, .inl (.inl eD)⟩, fun D2 nD2 => ?_⟩
        refine lc_fm ds (fun e => some (V.bl (inS (shownP bk) e))) (walkL (xs := us) lu) nD2 (fun H h => .inl (.inl (h _ _ eD))) (by omega) ?_ ?_
        · rintro i e y H4x H4 er sm ⟨rfl, hy⟩ R N hR hN
          obtain ⟨e', ee, de⟩ := dpAll_get du hy
          rw [List.getElem?_map, er] at ee
          cases ee
          refine ⟨rfl, _, rfl, _, rfl, oD dP (keptPD e), (shownP bk).map dP, dp_same sm de, .inr (dp_same (s3.trans sm) hsp.dp), shaped_oP _, shaped_Ps _, ?_⟩
          have e1 : (false != ((shownP bk).map dP).any fun z => PyData.eqv z (oD dP (keptPD e))) = inS (shownP bk) e := by
            rw [Bool.false_bne, any_oP]
            rfl
          rw [e1]
          exact hR _ rfl _ (Same.refl _)
        rintro H4 s4 eD2
        rw [map_fm, show (fun e => V.bl (inS (shownP bk) e)) = V.bl ∘ inS (shownP bk) from rfl, ← List.map_map] at eD2
        refine ⟨D2, _, rfl, .inl (.inl eD2), _, rfl, ?_⟩
        rw [all_map]
        have s14 := s13.trans s4
        cases ea : ds.all (inS (shownP bk)) with
        | false =>
          refine iteT ?_
          exact bad (fun ps g => by rw [inS_good hi g] at ea; cases ea) H4 s14
        | true =>
          refine iteF ?_
          obtain ⟨ps, hm, hs⟩ := all_inS ea
          have emap : ds.map (fun e => oD dP (keptPD e)) = ps.map dP := by
            have : ds.map (fun e => oD dP (keptPD e)) = (ds.map keptPD).map (oD dP) := by rw [List.map_map]; rfl
            rw [this, hm, List.map_map]
            rfl
          rw [emap] at du
          have du4 := dpAll_same s4 du
          have lps := dpAll_len du
          rw [List.length_map] at lps
          have eD4 := s4 _ _ eD
          refine ⟨_, rfl, _, rfl, 1, rfl, D, _, rfl, .inl (.inl eD4), fun p np => ?_⟩
          have ec : cutV us (some 1) none = us.drop 1 := cutV_from us 1
          rw [ec]
          have s5 := same_upd (o := .lst (us.drop 1)) np
          have ep : upd H4 p (.lst (us.drop 1)) p = some (.lst (us.drop 1)) := upd_same
          have s15 := s14.trans s5
          have eD5 := s5 _ _ eD4
          have du5 := dpAll_same s5 du4
          generalize upd H4 p (.lst (us.drop 1)) = H5 at s5 ep s15 eD5 du5 ⊢
          refine ⟨D, p, _, _, rfl, .inl (.inl eD5), .inl (.inl ep), fun D3 nD3 => ?_⟩
          refine lc_fm (ps.zip (ps.drop 1)) (fun z => some (V.bl (ltP z.1 z.2))) (walk_zip (xs := us) (ys := us.drop 1) (by rw [List.length_zip, List.length_drop, List.length_drop, lps])) nD3 (fun H h => ⟨.inl (.inl (h _ _ eD5)), .inl (.inl (h _ _ ep))⟩) (by rw [List.length_zip]; omega) ?_ ?_
          · rintro i ⟨p1, p2⟩ y H6x H6 er sm ⟨T1, x1, x2, rfl, nT, rfl, h1, h2⟩ R N hR hN
            rw [List.getElem?_zip_eq_some] at er
            obtain ⟨er1, er2⟩ := er
            simp only at er1 er2 h1 h2
            rw [List.getElem?_drop] at er2 h2
            obtain ⟨d1, ed1, t1⟩ := dpAll_get du5 h1
            obtain ⟨d2, ed2, t2⟩ := dpAll_get du5 h2
            rw [List.getElem?_map, er1] at ed1
            rw [List.getElem?_map, er2] at ed2
            cases ed1
            cases ed2
            have st := same_upd (o := .tup [x1, x2]) nT
            have s6 := sm.trans st
            refine ⟨T1, _, rfl, .inl (.inl upd_same), rfl, _, _, rfl, _, _, rfl, rfl, rfl, ?_⟩
            exact ⟨_, rfl, _, rfl, dP p1, dP p2, dp_same s6 t1, dp_same s6 t2, alike_P _ _, (fun z => nomatch z), Nat.le_trans (depthP _) (by decide), hR _ rfl _ st⟩
          rintro H6 s6 eD6
          rw [map_fm, show (fun z : Pg × Pg => V.bl (ltP z.1 z.2)) = V.bl ∘ (fun z : Pg × Pg => ltP z.1 z.2) from rfl, ← List.map_map] at eD6
          refine ⟨D3, _, rfl, .inl (.inl eD6), _, rfl, ?_⟩
          rw [all_map]
          have s16 := s15.trans s6
          cases eu : (ps.zip (ps.drop 1)).all fun z => ltP z.1 z.2 with
          | false =>
            refine iteT ?_
            refine bad (fun qs g => ?_) H6 s16
            obtain ⟨es, hi2, hm2, _, up⟩ := g
            rw [hi] at hi2
            cases hi2
            rw [hm] at hm2
            rw [some_inj hm2, up_zip.mpr up] at eu
            cases eu
          | true =>
            refine iteF ?_
            have up := up_zip.mp eu
            refine ⟨_, rfl, D, _, rfl, .inl ⟨.inl (.inl (s6 _ _ eD5)), fun t nt => ?_⟩⟩
            have s7 := same_upd (o := .tup us) nt
            exact good ps ⟨ds, hi, hm, hs, up⟩ t _ (s16.trans s7) (.tup (.inl (.inl upd_same)) (dpAll_same (s6.trans s7) du5))
      | non => cases hi
      | bl b => cases hi
      | int i => cases hi
      | str z => cases hi
theorem ok_judged_pen (T : Tab K mg) : FnOk P w K mg base CX0 5 T.f_judged_pen T.d_judged_pen ["front", "back", "pen"] (sp_judged_pen K) := by
  refine T.F_judged_pen.ok sc_judged_pen (fun vs H Q E h => ?_) (fun cdv A outer s H vs Q E hr h => ?_)
  · obtain ⟨f, b, a, rfl, _⟩ := h
    rfl
  · obtain ⟨f, b, a, rfl, ha, q⟩ := h
    refine ⟨_, (pss_cons (ps_set (i := 3) sc_judged_pen.nd rfl (.inl rfl) (pe_call (ok_kept_strokes T) (hr.mono (by decide)) (by rfl) T.g_kept_strokes T.F_kept_strokes.kp T.b_kept_strokes .nil pass0 (pa_cons (pv 2) pa_nil)))
      (pss_cons (ps_if (PW.pt (pw_or (pt_cmpR op_isN (pv 3) pe_non (nomark _)) (pw_or1 (pt_not (pt_val (pe_callB (cr_all rfl) (by rfl) T.m_all (by decide +kernel) (pa_cons (pe_lc (own := [("stroke", 4)]) (g := gName 4) (by rfl) sc_judged_pen.nd (pi_tup (pv 3)) (blkOk_by (own := [("stroke", 4)]) (N := N_judged_pen) (sc := defScope s_judged_pen) (by decide +kernel)) (fun _ _ _ _ _ => pg_name (i := 4) sc_judged_pen.nd rfl (.inl rfl)) (fun _ _ _ _ _ => pts_nil) (fun _ _ _ _ _ => (pe_call (ok_is_place T) (hr.mono (by decide)) (by rfl) T.g_is_place T.F_is_place.kp T.b_is_place .nil pass0 (pa_cons (pv 0) (pa_cons (pv 1) (pa_cons (pe_slice (sl_tupAK (K := K) rfl) (pv 4) po_none (po_some pe_int)) pa_nil)))))) pa_nil)))))))
      (pss_one ps_never)
      pss_nil)
      (pss_cons (ps_if (pt_not (pt_val (pe_callB (cr_all rfl) (by rfl) T.m_all (by decide +kernel) (pa_cons (pe_lc (own := [("one", 5), ("other", 6)]) (g := gTup K 2 _) (by rfl) sc_judged_pen.nd (RZ.pi_zipA (by rfl) T.m_zip (pa_cons (pv 3) (pa_cons (pe_slice sl_tupA (pv 3) (po_some pe_int) po_none) pa_nil))) (blkOk_by (own := [("one", 5), ("other", 6)]) (N := N_judged_pen) (sc := defScope s_judged_pen) (by decide +kernel)) (fun _ _ _ _ _ => pg_tup (by rfl) (pgs_cons (pg_name (i := 5) sc_judged_pen.nd rfl (.inl rfl)) (pgs_cons (pg_name (i := 6) sc_judged_pen.nd rfl (.inl rfl)) pgs_nil))) (fun _ _ _ _ _ => pts_nil) (fun _ _ _ _ _ => (pe_cmpR (op_ltDK (K := K) rfl (un2 hr)) (pe_slice (sl_tupAK (K := K) rfl) (pv 5) po_none (po_some pe_int)) (pe_slice (sl_tupAK (K := K) rfl) (pv 6) po_none (po_some pe_int)) (nomark _)))) pa_nil))))
      (pss_one ps_never)
      pss_nil)
      (pss_one (ps_ret (pv 3)))))), ?_⟩
    refine ⟨_, rfl, a, rfl, ha, fun p H1 s1 hp => ?_⟩
    refine ⟨_, rfl, rfl, _, rfl, ite2 (fun e => absurd (of_decide_eq_true e) (by intro z; cases z)) (fun _ => ?_)⟩
    have hp1 : SqT K H1 p [] := .inl (.inl hp)
    refine ⟨_, rfl, p, rfl, ⟨_, hp1⟩, fun D nD => ?_⟩
    refine lc_fm ([] : List Str) (fun _ => none) (walkT (xs := []) rfl) nD (fun H h => same_seqT h hp1) (by decide) (fun i d x H2 H3 ed => by cases ed) fun H2 sm eD => ?_
    refine ⟨D, [], rfl, .inl (.inl eD), _, rfl, iteF ?_⟩
    have s2 := s1.trans sm
    have hp2 := same_seqT sm hp1
    refine ⟨_, rfl, _, rfl, 1, rfl, ?_⟩
    dsimp only [tNoPart]
    refine sl_go hp2 fun c H3 s3 hc => ?_
    refine ⟨p, c, _, _, rfl, .inr ⟨same_seqT s3 hp2, hc, fun D2 nD2 => ?_⟩⟩
    have hp3 := same_seqT s3 hp2
    refine lc_fm ([] : List Str) (fun _ => none) (walk_zipT (xs := []) (ys := cutV [] (some 1) none) rfl) nD2 (fun H h => ⟨same_seqT h hp3, same_seqT h hc⟩) (by decide) (fun i d x H2 H3 ed => by cases ed) fun H4 s4 eD4 => ?_
    refine ⟨D2, [], rfl, .inl (.inl eD4), _, rfl, iteF ?_⟩
    have s5 := (s2.trans s3).trans s4
    exact ⟨_, rfl, q p _ s5 ((s3.trans s4) _ _ (sm _ _ hp))⟩
theorem ok_preferred_ranges (T : Tab K mg) : FnOk P w K mg base (L2.CX P w) 6 T.f_preferred_ranges T.d_preferred_ranges ["book", "pages"] (sp_preferred_ranges K T.C_Leaf T.C_Book T.C_BadPages) := by
  refine T.F_preferred_ranges.okX sc_preferred_ranges (fun vs H Q E h => ?_) (fun cdv A outer s H vs Q E hr h => ?_)
  · obtain ⟨v, w, bk, d, rfl, _⟩ := h
    rfl
  · obtain ⟨v, w, bk, d, rfl, hbk, okb, hw, hl, bad, good⟩ := h
    refine ⟨_, (pss_cons (ps_set (i := 2) sc_preferred_ranges.nd rfl (.inl rfl) (pe_call (ok_shown_pages T) (hr.mono (by decide)) (by rfl) T.g_shown_pages T.F_shown_pages.kp T.b_shown_pages .nil pass0 (pa_cons (pv 0) pa_nil)))
      (pss_cons (ps_setDcN (i := 3) (own := [("k", 6), ("page", 5)]) (g := gTup K 2 _) (by have z := hr.units; exact z) (by rfl) sc_preferred_ranges.nd (pi_enumT (by rfl) T.m_enumerate (pa_cons (pv 2) pa_nil)) (blkOk_by (own := [("k", 6), ("page", 5)]) (N := N_preferred_ranges) (sc := defScope s_preferred_ranges) (by decide +kernel)) (fun _ _ _ _ _ => pg_tup (by rfl) (pgs_cons (pg_name (i := 6) sc_preferred_ranges.nd rfl (.inl rfl)) (pgs_cons (pg_name (i := 5) sc_preferred_ranges.nd rfl (.inl rfl)) pgs_nil))) (fun _ _ _ _ _ => (pv 5)) (fun _ _ _ _ _ => (pv 6)) (by intro _; rfl) rfl rfl (sw_trueD rfl rfl rfl (by decide +kernel)))
      (pss_cons (ps_set (i := 4) sc_preferred_ranges.nd rfl (.inl rfl) (pe_lst pa_nil))
      (pss_cons (ps_for (passes_of rfl) rfl (pi_tup (pe_call (ok_judged_pages T) (hr.mono (by decide)) (by rfl) T.g_judged_pages T.F_judged_pages.kp T.b_judged_pages .nil (passes_call (takes_of rfl rfl rfl rfl) (fun _ _ _ _ h => h)) (pa_cons (pv 0) (pa_cons (pv 1) pa_nil)))) (pg_name (i := 5) sc_preferred_ranges.nd rfl (.inl rfl))
      (pss_one (ps_if (PW.pt (pw_and (pt_truth (pv 4) (fun _ => rfl)) (pw_and1 (pt_cmpR op_eq (pe_op op_add (pe_nget (by have z := hr.units; exact z) (pv 3) (pe_ix ix_tup (pe_ix ix_list (pv 4) (pe_un un_neg pe_int) (fun _ _ => rfl)) pe_int (fun _ _ => rfl)) (fun _ _ => rfl)) pe_int) (pe_nget (by have z := hr.units; exact z) (pv 3) (pv 5) (fun _ _ => rfl)) (nomark _)))))
        (pss_one (ps_asg (pe_tup (pa_cons (pe_ix ix_tup (pe_ix ix_list (pv 4) (pe_un un_neg pe_int) (fun _ _ => rfl)) pe_int (fun _ _ => rfl)) (pa_cons (pv 5) pa_nil))) (pg_sub (pv 4) (pe_un un_neg pe_int) set_list)))
        (pss_one (ps_expr (pe_bm PySem.F.plainAttrs_list PySem.F.slot_list_append PySem.F.type_list_append mt_append (pv 4) (pa_cons (pe_tup (pa_cons (pv 5) (pa_cons (pv 5) pa_nil))) pa_nil)))))))
      (pss_one (ps_ret (pe_callTy call_tuple_of (by rfl) T.m_tuple (by decide +kernel) (pa_cons (pv 4) pa_nil)))))))), ?_⟩
    have uS := shown_up okb
    refine ⟨_, rfl, v, bk, rfl, hbk, fun sp H1 s1 hsp => ?_⟩
    obtain ⟨sus, hsa, tsp⟩ : ∃ sus, H1 sp = some (.tup sus) ∧ TpAll H1 sus ((shownP bk).map dP) := by
      cases hsp with
      | tup h r => exact ⟨_, h, r⟩
    have ls := tsp.len
    rw [List.length_map] at ls
    have l120 := shownP_len bk
    have h60 := okb.1
    refine ⟨_, rfl, sp, sus, rfl, .inl (.inl hsa), fun D nD => ?_⟩
    refine dcN_it (walk_enumT (xs := sus)) (fun i H' => Same H1 H' ∧ ∃ kvs, DN _ H' D kvs ∧ kvs.length ≤ i ∧ ∀ (j : Nat) (p : Pg), j < i → (shownP bk)[j]? = some p → atN kvs (nkD (dP p)) = some (.int (j : Nat))) ⟨same_upd nD, [], ⟨upd_same, (fun _ h => nomatch h)⟩, Nat.le_refl _, fun j p h => absurd h (Nat.not_lt_zero _)⟩ (fun _ H' _ hh => .inl (.inl (hh.1 _ _ hsa))) ?_ ?_
    · rintro i y H3 H4 hi ⟨sm, kvs, dn, lk, hk⟩ ⟨p, u, x, rfl, np, rfl, eu, ex⟩
      cases eu
      obtain ⟨dd, ed, tx⟩ := tsp.get ex
      obtain ⟨pg, ep, rfl⟩ : ∃ pg, (shownP bk)[i]? = some pg ∧ dd = dP pg := by
        rw [List.getElem?_map] at ed
        cases e : (shownP bk)[i]? with
        | none => rw [e] at ed; cases ed
        | some l => rw [e] at ed; exact ⟨l, rfl, (Option.some.inj ed).symm⟩
      have sp2 := same_upd (o := .tup [.int (i : Nat), x]) np
      obtain ⟨xa, xl, rfl, hxa, hxl⟩ := pg_inv (tx.nl (NL.of (sm.trans sp2)))
      have dn2 := dn.nl (NL.of sp2)
      have nk : NKey (upd H3 p (.tup [.int (i : Nat), .ref xa])) xa (nkD (dP pg)) := ⟨dP pg, tpP hxa hxl, rfl, nk_depth pg⟩
      refine ⟨p, [.int (i : Nat), .ref xa], rfl, .inl (.inl upd_same), rfl, _, _, rfl, _, _, rfl, rfl, rfl, ?_⟩
      refine ⟨_, rfl, _, rfl, xa, kvs, nkD (dP pg), rfl, dn2, nk, small1000 (by omega), same_put (sm.trans sp2) nD _, _, dn2.put nk, ?_, fun j q hj hq => ?_⟩
      · have := putN_len kvs (nkD (dP pg)) xa (.int (i : Nat))
        omega
      · rw [atN_put]
        by_cases e : j = i
        · subst e
          rw [ep] at hq
          cases hq
          rw [if_pos rfl]
        · rw [if_neg (fun z => ?_)]
          · exact hk j q (by omega) hq
          · have z2 := nk_inj z
            subst z2
            rcases Nat.lt_or_gt_of_ne e with c | c
            · have := up_at uS hq ep c
              rw [ltP_irr] at this
              cases this
            · have := up_at uS ep hq c
              rw [ltP_irr] at this
              cases this
    · rintro H2 ⟨s2, kvs, dn, lk, hk⟩
      have s12 := s1.trans s2
      refine ⟨Nat.zero_le _, fun R nR => ?_⟩
      have s3 := same_upd (o := .lst []) nR
      have hR3 : upd H2 R (.lst []) R = some (.lst []) := upd_same
      have s13 := s12.trans s3
      have dn3 := dn.nl (NL.of s3)
      have fR : H R = none := none_of s12 nR
      have nR2 : H2 R = none := nR
      generalize upd H2 R (.lst []) = H3 at s3 hR3 s13 dn3 ⊢
      refine ⟨_, rfl, _, rfl, v, w, bk, d, rfl, hbk.nl (NL.of s13), okb, dp_same s13 hw, hl, fun b H' s' => bad b H' (s13.trans s'), fun ps g p H4 s4 hp => ?_⟩
      obtain ⟨ds, hi, hm, hs, up⟩ := id g
      obtain ⟨pa, pus, epa, hpa, dpa⟩ := dPs_inv hp
      cases epa
      have lp := dpAll_len dpa
      rw [List.length_map] at lp
      have lps : ps.length ≤ 200 := by
        have := hl ds hi
        have e : ds.length = ps.length := by rw [← List.length_map (f := keptPD), hm, List.length_map]
        omega
      have hR4 := s4 _ _ hR3
      have s34 := s3.trans s4
      have dn4 := dn3.nl (NL.of s4)
      have s14 := s13.trans s4
      refine ⟨_, rfl, ⟨_, hpa⟩, for_tup (xs := pus) (fun i σ' H' => ∃ (us : List V) (rs : List (Pg × Pg)) (y5 : Option V), σ' = [some v, some w, some (.ref sp), some (.ref D), some (.ref R), y5, none] ∧ But R H4 H' ∧ H' R = some (.lst us) ∧ DpAll K H' us (rs.map dR) ∧ PInv (shownP bk) ps (ps.take i) rs ∧ rs.length ≤ i) ⟨[], [], none, rfl, But.refl R H4, hR4, .nil, pinv_nil _ _, Nat.le_refl _⟩ (fun i σ' H' _ hh => by obtain ⟨_, _, _, _, b, _⟩ := hh; exact (NL.but b hR4).seqT hpa) ?_ ?_⟩
      · rintro i x σ' H5 hx ⟨us, rs, y5, rfl, b5, eR, du, pinv, lrs⟩
        have n5 := NL.but b5 hR4
        have dn5 := dn4.nl n5
        obtain ⟨dd, ed, dx4⟩ := dpAll_get dpa hx
        obtain ⟨pg, ep, rfl⟩ : ∃ pg, ps[i]? = some pg ∧ dd = dP pg := by
          rw [List.getElem?_map] at ed
          cases e : ps[i]? with
          | none => rw [e] at ed; cases ed
          | some l => rw [e] at ed; exact ⟨l, rfl, (Option.some.inj ed).symm⟩
        have dx := dp_butN hR4 b5 dx4 (nl_P pg)
        have il := (List.getElem?_eq_some_iff.mp ep).1
        have ulen : us.length = rs.length := by have := dpAll_len du; rw [List.length_map] at this; exact this
        have tk : ps.take (i + 1) = ps.take i ++ [pg] := by rw [List.take_add_one, ep]; rfl
        have pS := hs pg (List.mem_of_getElem? ep)
        obtain ⟨jp, hjp⟩ := List.mem_iff_getElem?.mp pS
        have jpl := (List.getElem?_eq_some_iff.mp hjp).1
        obtain ⟨xa, rfl⟩ : ∃ xa, x = .ref xa := by
          obtain ⟨a, _, e, _⟩ := dP_inv dx
          exact ⟨a, e⟩
        refine ⟨_, rfl, _, tru_lst (.inl (.inl eR)), ?_⟩
        by_cases he : ps.take i = []
        · have rs0 := pinv.none he
          have us0 : us = [] := List.length_eq_zero_iff.mp (by rw [ulen, rs0]; rfl)
          have ue : (!us.isEmpty) = false := by rw [us0]; rfl
          rw [ue]
          refine iteF (iteF ?_)
          have nw : PInv (shownP bk) ps (ps.take i ++ [pg]) (rs ++ [(pg, pg)]) := pinv_new uS pinv pS (by rw [he]; exact fun q hq => nomatch hq)
          refine ⟨_, rfl, .inl ⟨rfl, _, .inl (.inl eR)⟩, _, rfl, _, rfl, (by show 2 ≤ sizeLine; decide), fun t nt => ?_⟩
          have st := same_upd (o := .tup [.ref xa, .ref xa]) nt
          have eR6 := st _ _ eR
          have tR : t ≠ R := fun z => by rw [z, eR] at nt; cases nt
          have dx6 := dp_butN eR6 (But.upd (.lst (us ++ [.ref t]))) (dp_same st dx) (nl_P pg)
          refine ⟨R, us, _, rfl, rfl, eR6, small1000 (by omega), us ++ [.ref t], rs ++ [(pg, pg)], _, rfl, (b5.trans (But.of st)).trans (But.upd _), upd_same, ?_, by rw [tk]; exact nw, by rw [List.length_append]; exact Nat.succ_le_succ lrs⟩
          rw [List.map_append]
          exact dpAll_app (dpAll_butN eR6 (But.upd _) (dpAll_same st du) (nl_Rs rs)) (.cons (.tup (.inl (.inl (by rw [upd_ne tR]; exact upd_same))) (.cons dx6 (.cons dx6 .nil))) .nil)
        · obtain ⟨Qs, q, eQ⟩ : ∃ Q q, ps.take i = Q ++ [q] := ⟨_, _, (List.dropLast_concat_getLast he).symm⟩
          obtain ⟨R0, a0, eRs⟩ := pinv.last Qs q eQ
          have epsd : ps = (Qs ++ [q]) ++ pg :: ps.drop (i + 1) := by
            rw [← eQ]
            have := (List.take_append_drop i ps).symm
            rw [List.drop_eq_getElem_cons il, show ps[i] = pg from (List.getElem?_eq_some_iff.mp ep).2] at this
            exact this
          have qm : q ∈ ps := by rw [epsd]; simp
          obtain ⟨jq, hjq⟩ := List.mem_iff_getElem?.mp (hs q qm)
          have jql := (List.getElem?_eq_some_iff.mp hjq).1
          have upq : Up (Qs ++ [q]) := by rw [← eQ]; exact up.sublist (List.take_sublist ..)
          have du2 := du
          rw [eRs, List.map_append] at du2
          obtain ⟨U, u, eU, dU, dur⟩ := dpAll_snoc_inv du2
          obtain ⟨ua, x1, x2, rfl, hua, hx1, hx2⟩ := dR_inv dur
          have ue : (!us.isEmpty) = true := by rw [eU]; cases U <;> rfl
          rw [ue]
          have aL : atI us (-1) = some (.ref ua) := by rw [eU]; exact atI_last _ _
          obtain ⟨x2a, rfl⟩ : ∃ xa, x2 = .ref xa := by
            obtain ⟨a, _, e, _⟩ := dP_inv hx2
            exact ⟨a, e⟩
          refine iteT ⟨_, rfl, _, rfl, 1, rfl, R, us, -1, _, rfl, rfl, .inl (.inl eR), aL, ua, _, 1, _, rfl, rfl, hua, rfl, D, kvs, x2a, dP q, _, rfl, dn5, rfl, hx2, noL_P _, nk_depth _, hk jq q (by omega) hjq, _, _, rfl, rfl, _, rfl, _, rfl, D, kvs, xa, dP pg, _, rfl, dn5, rfl, dx, noL_P _, nk_depth _, hk jp pg (by omega) hjp, rfl, _, rfl, ite2 (fun e => ?_) (fun e => ?_)⟩
          · have e1 : jp = jq + 1 := by
              have := V.int.inj (of_decide_eq_true e)
              omega
            subst e1
            refine ⟨_, rfl, 1, rfl, R, us, -1, _, rfl, rfl, .inl (.inl eR), aL, ua, _, 0, _, rfl, rfl, hua, rfl, _, rfl, (by show 2 ≤ sizeLine; decide), fun t nt => ?_⟩
            have st := same_upd (o := .tup [x1, .ref xa]) nt
            have eR6 := st _ _ eR
            have tR : t ≠ R := fun z => by rw [z, eR] at nt; cases nt
            refine ⟨_, rfl, 1, rfl, R, us, -1, _, rfl, rfl, eR6, by rw [eU]; exact ixN_last U _, U ++ [.ref t], R0 ++ [(a0, pg)], _, rfl, (b5.trans (But.of st)).trans (But.upd _), by rw [upd_same, eU, set_last], ?_, ?_, ?_⟩
            · have d6 := dp_butN eR6 (But.upd (.lst (us.set U.length (.ref t)))) (dp_same st dx) (nl_P pg)
              have d7 := dp_butN eR6 (But.upd (.lst (us.set U.length (.ref t)))) (dp_same st hx1) (nl_P a0)
              rw [List.map_append]
              exact dpAll_app (dpAll_butN eR6 (But.upd _) (dpAll_same st dU) (nl_Rs R0)) (.cons (.tup (.inl (.inl (by rw [upd_ne tR]; exact upd_same))) (.cons d7 (.cons d6 .nil))) .nil)
            · rw [tk, eQ]
              rw [eQ, eRs] at pinv
              exact pinv_ext uS upq pinv hjq hjp
            · rw [eRs] at lrs
              rw [List.length_append] at lrs ⊢
              exact Nat.le_succ_of_le lrs
          · have nw : PInv (shownP bk) ps (ps.take i ++ [pg]) (rs ++ [(pg, pg)]) := by
              refine pinv_new uS pinv pS ?_
              rw [eQ]
              refine gap_of uS up epsd hjq hjp fun z => e (decide_eq_true (congrArg V.int ?_))
              omega
            refine ⟨_, rfl, .inl ⟨rfl, _, .inl (.inl eR)⟩, _, rfl, _, rfl, (by show 2 ≤ sizeLine; decide), fun t nt => ?_⟩
            have st := same_upd (o := .tup [.ref xa, .ref xa]) nt
            have eR6 := st _ _ eR
            have tR : t ≠ R := fun z => by rw [z, eR] at nt; cases nt
            have dx6 := dp_butN eR6 (But.upd (.lst (us ++ [.ref t]))) (dp_same st dx) (nl_P pg)
            refine ⟨R, us, _, rfl, rfl, eR6, small1000 (by omega), us ++ [.ref t], rs ++ [(pg, pg)], _, rfl, (b5.trans (But.of st)).trans (But.upd _), upd_same, ?_, by rw [tk]; exact nw, by rw [List.length_append]; exact Nat.succ_le_succ lrs⟩
            rw [List.map_append]
            exact dpAll_app (dpAll_butN eR6 (But.upd _) (dpAll_same st du) (nl_Rs rs)) (.cons (.tup (.inl (.inl (by rw [upd_ne tR]; exact upd_same))) (.cons dx6 (.cons dx6 .nil))) .nil)
      · rintro σ' H5 ⟨us, rs, y5, rfl, b5, eR, du, pinv, lrs⟩
        rw [lp, List.take_length] at pinv
        refine ⟨_, rfl, R, us, rfl, .inl ⟨.inl (.inl eR), fun t nt => ?_⟩⟩
        have st := same_upd (o := .tup us) nt
        refine good ps g rs pinv (by omega) t _ (((But.same nR2 s34 b5).trans st) |> (s12.trans ·)) (.tup (.inl (.inl upd_same)) (dpAll_same st du))
theorem ok_Leaf_init (T : Tab K mg) : FnOk P w K mg base CX0 6 T.f_Leaf_init T.d_Leaf_init ["self", "label", "front", "back", "pen"] (sp_Leaf_init K T.C_Leaf) := by
  refine T.F_Leaf_init.ok sc_Leaf_init (fun vs H Q E h => ?_) (fun cdv A outer s H vs Q E hr h => ?_)
  · obtain ⟨x, dx, l, f, b, p, lf, rfl, _⟩ := h
    rfl
  · obtain ⟨x, dx, l, f, b, p, lf, rfl, hx, hl, hf, hb, hp, ⟨k1, k2, k3, k4⟩, q⟩ := h
    refine ⟨_, (pss_cons (ps_fld (pv 0) (pe_call (ok_judged_label T) (hr.mono (by decide)) (by rfl) T.g_judged_label T.F_judged_label.kp T.b_judged_label .nil pass0 (pa_cons (pv 1) pa_nil)) rfl)
      (pss_cons (ps_fld (pv 0) (pe_call (ok_judged_rows T) (hr.mono (by decide)) (by rfl) T.g_judged_rows T.F_judged_rows.kp T.b_judged_rows .nil pass0 (pa_cons (pv 2) (pa_cons pe_int (pa_cons pe_str pa_nil)))) rfl)
      (pss_cons (ps_fld (pv 0) (pe_call (ok_judged_rows T) (hr.mono (by decide)) (by rfl) T.g_judged_rows T.F_judged_rows.kp T.b_judged_rows .nil pass0 (pa_cons (pv 3) (pa_cons pe_int (pa_cons pe_str pa_nil)))) rfl)
      (pss_cons (ps_fld (pv 0) (pe_call (ok_judged_pen T) (hr.mono (by decide)) (by rfl) T.g_judged_pen T.F_judged_pen.kp T.b_judged_pen .nil pass0 (pa_cons (pe_fld (pv 0) rfl) (pa_cons (pe_fld (pv 0) rfl) (pa_cons (pv 4) pa_nil)))) rfl)
      (pss_one (ps_fld (pv 0) (pe_dcT (own := [("stroke", 5)]) (g := gName 5) (by have z := un2 hr; exact Nat.lt_of_le_of_lt (Nat.add_le_add_left (by decide) _) z) (by rfl) sc_Leaf_init.nd (pi_tup (pe_fld (pv 0) rfl)) (blkOk_by (own := [("stroke", 5)]) (N := N_Leaf_init) (sc := defScope s_Leaf_init) (by decide +kernel)) (fun _ _ _ _ _ => pg_name (i := 5) sc_Leaf_init.nd rfl (.inl rfl)) (fun _ _ _ _ _ => (pe_slice (sl_tupAK (K := K) rfl) (pv 5) po_none (po_some pe_int))) (fun _ _ _ _ _ => (pe_ix (ix_tupK (K := K) rfl) (pv 5) pe_int (fun _ _ => rfl)))) rfl)))))), ?_⟩
    have kd : keptD (dL lf.L) = some lf.L := kept_dL k1
    have fx : f ≠ x := fun z => by rw [z, hx] at hf; cases hf
    have bx : b ≠ x := fun z => by rw [z, hx] at hb; cases hb
    refine ⟨_, rfl, _, dL lf.L, lf.L, rfl, (tpL hl).dp, kd, fun y H1 s1 kl => ?_⟩
    obtain ⟨l1, rfl, hl1⟩ := kl.tup (NL.of s1) hl rfl
    have lx : l1 ≠ x := fun z => by rw [z, s1 _ _ hx] at hl1; cases hl1
    refine ⟨_, rfl, x, _, dx, _, rfl, s1 _ _ hx, T.cl_Leaf, T.na_Leaf_label, (show 0 < 1000 by decide), ?_⟩
    -- the front
    refine ⟨_, rfl, f, lf.fr, 1, "front", rfl, by rw [upd_ne fx]; exact s1 _ _ hf, k2, fun H2 s2 => ?_⟩
    have b2 : But x H H2 := ((But.of s1).trans (But.upd _)).trans (But.of s2)
    refine ⟨_, rfl, x, _, dx, _, rfl, s2 _ _ upd_same, T.cl_Leaf, T.na_Leaf_front, (show 1 < 1000 by decide), ?_⟩
    refine ⟨_, rfl, b, lf.bk, 0, "back", rfl, by rw [upd_ne bx]; exact b2 _ _ bx hb, k3, fun H3 s3 => ?_⟩
    have b3 : But x H H3 := (b2.trans (But.upd _)).trans (But.of s3)
    refine ⟨_, rfl, x, _, dx, _, rfl, s3 _ _ upd_same, T.cl_Leaf, T.na_Leaf_back, (show 2 < 1000 by decide), ?_⟩
    refine ⟨_, rfl, x, _, dx, _, _, rfl, upd_same, T.cl_Leaf, T.na_Leaf_front, rfl, _, rfl, x, _, dx, _, _, rfl, upd_same, T.cl_Leaf, T.na_Leaf_back, rfl, _, rfl, .ref f, .ref b, p, rfl, seqT_butI hx (b3.trans (But.upd _)) hp, fun pn H4 s4 hpn => ?_⟩
    have b4 : But x H H4 := (b3.trans (But.upd _)).trans (But.of s4)
    have pnx : pn ≠ x := fun z => by rw [z, s4 _ _ upd_same] at hpn; cases hpn
    refine ⟨_, rfl, x, _, dx, _, rfl, s4 _ _ upd_same, T.cl_Leaf, T.na_Leaf_pen, (show 3 < 1000 by decide), ?_⟩
    have hpn5 : upd H4 x (.ins T.C_Leaf dx (putF "pen" (.ref pn) (putF "back" (.ref b) (putF "front" (.ref f) (putF "label" (.ref l1) []))))) pn = some (.tup []) := by rw [upd_ne pnx]; exact hpn
    refine ⟨_, rfl, x, _, dx, _, _, rfl, upd_same, T.cl_Leaf, T.na_Leaf_pen, rfl, pn, rfl, ⟨[], .inl (.inl hpn5)⟩, fun D nD => ?_⟩
    refine dc_it (walkT (xs := []) rfl) (fun _ H' => Same (upd H4 x (.ins T.C_Leaf dx (putF "pen" (.ref pn) (putF "back" (.ref b) (putF "front" (.ref f) (putF "label" (.ref l1) [])))))) H' ∧ H' D = some (.dT [])) ⟨same_upd nD, upd_same⟩ (fun _ H' _ hh => same_seqT hh.1 (.inl (.inl hpn5))) (fun i x H H' hi => absurd hi (Nat.not_lt_zero _)) fun H5 ⟨s5, eD⟩ => ?_
    have b5 : But x H H5 := (b4.trans (But.upd _)).trans (But.of s5)
    have Dx : D ≠ x := fun z => by rw [z, s5 _ _ upd_same] at eD; cases eD
    refine ⟨_, rfl, x, _, dx, _, rfl, s5 _ _ upd_same, T.cl_Leaf, T.na_Leaf__strokes, (show 4 < 1000 by decide), ?_⟩
    refine q _ ?_ (b5.trans (But.upd _))
    refine ⟨x, dx, l1, f, b, pn, D, rfl, upd_same, ?_, ?_, ?_, ?_, ?_⟩
    · rw [upd_ne lx]
      exact s5 _ _ (by rw [upd_ne lx]; exact s4 _ _ (by rw [upd_ne lx]; exact s3 _ _ (by rw [upd_ne lx]; exact s2 _ _ (by rw [upd_ne lx]; exact hl1))))
    · rw [upd_ne fx]; exact b5 _ _ fx hf
    · rw [upd_ne bx]; exact b5 _ _ bx hb
    · rw [k4]
      exact .tup (by rw [upd_ne pnx]; exact s5 _ _ hpn5) .nil
    · rw [k4, upd_ne Dx]; exact eD
theorem ok_as_lists (T : Tab K mg) : ∀ n, FnOk P w K mg base CX0 (n + 1) T.f_as_lists T.d_as_lists ["_law_thing"] (sp_as_lists K n)
  | 0 => ⟨fun vs H Q E h => by
      obtain ⟨x, d, rfl, _⟩ := h
      rfl, fun A outer s H args us vs Q E hr h0 hb hv h => by
      obtain ⟨x, d, _, _, hp, _⟩ := h
      exact hp.elim⟩
  | n + 1 => by
    have IH := ok_as_lists T n
    refine T.F_as_lists.ok sc_as_lists (fun vs H Q E h => ?_) (fun cdv A outer s H vs Q E hr h => ?_)
    · obtain ⟨x, d, rfl, _⟩ := h
      rfl
    · obtain ⟨x, d, rfl, hx, hp, q⟩ := h
      refine ⟨_, (pss_cons (ps_if (pt_val (pe_callB call_isi (by rfl) T.m_isinstance (by decide +kernel) (pa_cons (pv 0) (pa_cons (pe_bltn (v := .ty "tuple") (u := .type "tuple") (by rfl) T.m_tuple (by decide +kernel) rfl) pa_nil))))
      (pss_one (ps_ret (pe_lc (own := [("_law_part", 1)]) (g := gName 1) (by rfl) sc_as_lists.nd (pi_tup (pv 0)) (blkOk_by (own := [("_law_part", 1)]) (N := N_as_lists) (sc := defScope s_as_lists) (by decide +kernel)) (fun _ _ _ _ _ => pg_name (i := 1) sc_as_lists.nd rfl (.inl rfl)) (fun _ _ _ _ _ => pts_nil) (fun _ _ _ _ _ => (pe_call IH (hr.mono (by omega)) (by rfl) T.g_as_lists T.F_as_lists.kp T.b_as_lists .nil pass0 (pa_cons (pv 1) pa_nil))))))
      pss_nil)
      (pss_one (ps_ret (pv 0)))), ?_⟩
      cases hx with
      | bl b => exact hp.elim
      | lst _ _ => exact hp.elim
      | non => exact hp.elim
      | str z => exact hp.elim
      | int i =>
        refine ⟨_, rfl, _, _, _, _, _, rfl, .ty "tuple", .base (.int i), kit_ty (r := false) (by decide +kernel), false, rfl, iteF ?_⟩
        exact ⟨_, rfl, q _ H (Same.refl H) (.int i)⟩
      | tup hb db =>
        rename_i b ys ds
        have l2 := dpAll_len db
        have hdl := hp.1
        have tl : ∀ es : List PyData, toLs es = es.map toL := fun es => by
          induction es with
          | nil => rfl
          | cons d r ih => show toL d :: toLs r = _; rw [ih]; rfl
        refine ⟨_, rfl, _, _, _, _, _, rfl, .ty "tuple", ty_T hb, kit_ty (by decide +kernel), true, rfl, iteT ?_⟩
        refine ⟨_, rfl, b, rfl, ⟨_, hb⟩, fun D nD => ?_⟩
        refine lc_tup (xs := ys) (fun i H' => Same H H' ∧ ∃ xs, H' D = some (.lst xs) ∧ FdAll (upd H D (.lst [])) H' xs ((ds.take i).map toL)) ⟨same_upd nD, [], upd_same, .nil⟩ (fun i H' _ hh => same_seqT hh.1 hb) ?_ ?_
        · rintro i x H' hx ⟨sm, xs, eD, da⟩
          obtain ⟨d, ed, dd⟩ := dpAll_get db hx
          have hi := (List.getElem?_eq_some_iff.mp ed).1
          have hlen := fdAll_len da
          rw [List.length_map, List.length_take] at hlen
          refine ⟨rfl, ?_⟩
          refine ⟨_, rfl, x, d, rfl, dp_same sm dd, hp.2 _ (List.mem_of_getElem? ed), fun v H2 s2 fd => ⟨xs, s2 _ _ eD, small1000 (by omega), same_put (sm.trans s2) nD _, xs ++ [v], upd_same, ?_⟩⟩
          have nn : ∀ a, (upd H D (.lst [])) a = none → a ≠ D := fun a h e => by
            rw [e, upd_same] at h
            cases h
          rw [List.take_add_one, ed, List.map_append]
          refine fdAll_snoc (fdAll_to (fun a o n e => ⟨n, by rw [upd_ne (nn a n)]; exact s2 _ _ e⟩) da) (fd_to (fun a o n e => ?_) fd)
          have nD2 : a ≠ D := fun e1 => by
            rw [e1, eD] at n
            cases n
          refine ⟨?_, by rw [upd_ne nD2]; exact e⟩
          rw [upd_ne nD2]
          cases e2 : H a with
          | none => rfl
          | some o2 => rw [sm _ _ e2] at n; cases n
        · rintro H' ⟨sm, xs, eD, da⟩
          rw [l2, List.take_length] at da
          refine q _ H' sm ?_
          show Fd H H' (.ref D) (.list (toLs ds))
          rw [tl]
          refine .lst eD nD (fdAll_to (fun a o n e => ⟨?_, e⟩) da)
          cases e2 : H a with
          | none => rfl
          | some o2 =>
            rw [same_upd nD _ _ e2] at n
            cases n
theorem ok_refused (T : Tab K mg) : FnOk P w K mg base CX0 7 T.f_refused T.d_refused ["_law_book", "_law_pages"] (sp_refused K T.C_Leaf T.C_Book) := by
  refine T.F_refused.ok sc_refused (fun vs H Q E h => ?_) (fun cdv A outer s H vs Q E hr h => ?_)
  · obtain ⟨v, w, bk, d, rfl, _⟩ := h
    rfl
  · obtain ⟨v, w, bk, d, rfl, hbk, okb, hw, hl, bad, q⟩ := h
    refine ⟨_, (pss_cons (ps_try_as (i := 2) (c := .ref T.C_BadPages) (Wout := fun _ _ _ _ => False) rfl rfl sc_refused.nd rfl rfl ⟨by rfl, by decide, Or.inl T.cg_BadPages⟩ takes0
      (fun W pn xe tk _ => (pss_one (ps_expr (pe_callS (ok_preferred_ranges T) (hr.mono (by decide)) (by rfl) T.g_preferred_ranges T.F_preferred_ranges.kp T.b_preferred_ranges (fun σ => passAt tk σ) (pa_cons (pv 0) (pa_cons (pv 1) pa_nil))))))
      (fun a oe cls d pn hz hf => (pss_one (ps_ret (pe_and (pe_callB (call_isX hz hf) (by rfl) T.m_isinstance (by decide +kernel) (pa_cons (pv 2) (pa_cons (pe_glob (v := .ref T.C_AfterError) (by rfl) T.cg_AfterError rfl) pa_nil))) (pe_and (pe_callB (call_isX hz hf) (by rfl) T.m_isinstance (by decide +kernel) (pa_cons (pv 2) (pa_cons (pe_glob (v := .ref T.C_BadForm) (by rfl) T.cg_BadForm rfl) pa_nil))) (pe_one (pe_not (pe_callB (call_isX hz hf) (by rfl) T.m_isinstance (by decide +kernel) (pa_cons (pv 2) (pa_cons (pe_glob (v := .ref T.C_NotThere) (by rfl) T.cg_NotThere rfl) pa_nil)))))))))))
      (pss_one (ps_ret pe_bl))), ?_⟩
    have XC : ExcC K T.C_BadPages := excC_of T.hg_BadPages T.hk_BadPages T.hs_BadPages T.hd_BadPages T.ha_BadPages T.hn_BadPages T.ht_BadPages T.hm_BadPages
    refine ⟨_, rfl, _, rfl, v, w, bk, d, rfl, hbk, okb, hw, hl, fun _ H' s1 => ?_, fun ps g => absurd g (bad ps)⟩
    refine ⟨true, T.e_BadPages_BadPages, fun _ x hx => ?_, fun w => nomatch w⟩
    refine ⟨_, rfl, T.C_BadPages, _, _, true, rfl, rfl, XC, relRef, .inl rfl, T.q_BadPages_AfterError, true, rfl, iteT ?_⟩
    refine ⟨_, rfl, T.C_BadPages, _, _, true, rfl, rfl, XC, relRef, .inl rfl, T.q_BadPages_BadForm, true, rfl, iteT ?_⟩
    refine ⟨_, rfl, T.C_BadPages, _, _, false, rfl, rfl, XC, relRef, .inl rfl, T.q_BadPages_NotThere, ?_⟩
    exact ⟨_, rfl, q _ s1⟩
theorem ok_made (T : Tab K mg) : FnOk P w K mg base CX0 8 T.f_made T.d_made ["_law_leaves_here"] (sp_made K T.C_Leaf T.C_Book) := by
  refine T.F_made.ok sc_made (fun vs H Q E h => ?_) (fun cdv A outer s H vs Q E hr h => ?_)
  · obtain ⟨l, bk, rfl, _⟩ := h
    rfl
  · obtain ⟨l, bk, rfl, ⟨vs, hl, tv⟩, ok, q⟩ := h
    refine ⟨_, (pss_one (ps_ret (pe_make ⟨T.ms_Book, T.g_Book_init, T.fn_Book_init, T.kc_Book⟩ (ok_Book_init T) (hr.mono (by decide)) (by rfl) T.cg_Book T.b_Book_init .nil pass0 (pa_cons (pe_lc (own := [("_law_one", 1)]) (g := gName 1) (by rfl) sc_made.nd (pi_list (pv 0)) (blkOk_by (own := [("_law_one", 1)]) (N := N_made) (sc := defScope s_made) (by decide +kernel)) (fun _ _ _ _ _ => pg_name (i := 1) sc_made.nd rfl (.inl rfl)) (fun _ _ _ _ _ => pts_nil) (fun _ _ _ _ _ => (pe_make ⟨T.ms_Leaf, T.g_Leaf_init, T.fn_Leaf_init, T.kc_Leaf⟩ (ok_Leaf_init T) (hr.mono (by decide)) (by rfl) T.cg_Leaf (T.b3_Leaf_init).choose_spec.2 (T.b3_Leaf_init).choose_spec.1 pass0 (pa_cons (pe_ix (ix_tupK (K := K) rfl) (pv 1) pe_int (fun _ _ => rfl)) (pa_cons (pe_ix (ix_tupK (K := K) rfl) (pv 1) pe_int (fun _ _ => rfl)) (pa_cons (pe_ix (ix_tupK (K := K) rfl) (pv 1) pe_int (fun _ _ => rfl)) pa_nil)))))) pa_nil)))), ?_⟩
    have h60 := ok.1
    have len := tv.len
    rw [List.length_map] at len
    refine ⟨_, rfl, l, rfl, ⟨_, .inl (.inl hl)⟩, fun D nD => ?_⟩
    refine lc_list (xs := vs) (fun i H' => Same H H' ∧ ∃ us, H' D = some (.lst us) ∧ LfAll T.C_Leaf H' us (bk.take i)) ⟨same_upd nD, [], upd_same, .nil⟩ (fun _ H' _ h => .inl (.inl (h.1 _ _ hl))) ?_ ?_
    · rintro i y H1 hy ⟨sm, us, eD, hA⟩
      obtain ⟨d, ed, td⟩ := tv.get hy
      obtain ⟨lf, el, rfl⟩ : ∃ lf, bk[i]? = some lf ∧ d = dLf lf := by
        rw [List.getElem?_map] at ed
        cases e : bk[i]? with
        | none => rw [e] at ed; cases ed
        | some l => rw [e] at ed; exact ⟨l, rfl, (Option.some.inj ed).symm⟩
      have okl := ok.2.1 lf (List.mem_of_getElem? el)
      obtain ⟨t, u1, u2, u3, u4, rfl, ht, t1, t2, t3⟩ := dLf_inv (td.nl (NL.of sm))
      obtain ⟨g, rfl, hg⟩ := tpL_inv t1
      obtain ⟨f, rfl, hf⟩ := tpS_inv t2
      obtain ⟨b, rfl, hb⟩ := tpS_inv t3
      have il := (List.getElem?_eq_some_iff.mp el).1
      have ul : us.length ≤ 60 := by
        rw [hA.len, List.length_take]
        omega
      refine ⟨rfl, _, rfl, t, _, 0, _, rfl, rfl, .inl (.inl ht), rfl, _, rfl, t, _, 1, _, rfl, rfl, .inl (.inl ht), rfl, _, rfl, t, _, 2, _, rfl, rfl, .inl (.inl ht), rfl, fun x dx nx ndx dxx => ?_⟩
      have s1 : Same H1 (upd (upd H1 dx (.own x)) x (.ins T.C_Leaf dx [])) := fun c o e => by
        have c1 : c ≠ x := fun z => by rw [z, nx] at e; cases e
        have c2 : c ≠ dx := fun z => by rw [z, ndx] at e; cases e
        rw [upd_ne c1, upd_ne c2]
        exact e
      refine ⟨x, dx, g, f, b, T.e_Leaf, lf, rfl, upd_same, s1 _ _ hg, s1 _ _ hf, s1 _ _ hb, T.el_Leaf _, okl, fun H2 hx bt => ⟨rfl, ?_⟩⟩
      have s2 : Same H1 H2 := fun c o e => bt c o (fun z => by rw [z, nx] at e; cases e) (s1 c o e)
      have eD2 := s2 _ _ eD
      have m := (NL.of s2).put eD2 (.lst (us ++ [.ref x]))
      have m2 := (NL.refl H2).put eD2 (.lst (us ++ [.ref x]))
      refine ⟨us, eD2, small1000 (by omega), same_put (sm.trans s2) nD _, us ++ [.ref x], upd_same, ?_⟩
      rw [List.take_add_one, el]
      exact (hA.nl m).snoc (LfAt.nl m2 hx)
    · rintro H1 ⟨sm, us, eD, hA⟩
      rw [len, List.take_length] at hA
      refine fun x dx nx ndx dxx => ?_
      have s1 : Same H1 (upd (upd H1 dx (.own x)) x (.ins T.C_Book dx [])) := fun c o e => by
        have c1 : c ≠ x := fun z => by rw [z, nx] at e; cases e
        have c2 : c ≠ dx := fun z => by rw [z, ndx] at e; cases e
        rw [upd_ne c1, upd_ne c2]
        exact e
      refine ⟨x, dx, D, us, bk, rfl, upd_same, s1 _ _ eD, hA.nl (NL.of s1), ok, fun H2 hx bt => ⟨rfl, ?_⟩⟩
      exact q _ H2 (sm.trans fun c o e => bt c o (fun z => by rw [z, nx] at e; cases e) (s1 c o e)) hx
theorem ok_law (T : Tab K mg) : FnOk P w K mg base CX0 9 T.f_law T.d_law ["_law_script"] (sp_law K) := by
  refine T.F_law.ok sc_law (fun vs H Q E h => ?_) (fun cdv A outer s H vs Q E hr h => ?_)
  · obtain ⟨a, ns, rfl, _⟩ := h
    rfl
  · obtain ⟨a, ns, rfl, hS, hlen, q⟩ := h
    refine ⟨_, (pss_cons (ps_set (i := 1) sc_law.nd rfl (.inl rfl) (pe_lst pa_nil))
      (pss_cons (ps_for PassesOwn.never rfl (pi_range1 (by rfl) T.m_range (pa_cons (pe_callB (call_min2 rfl) (by rfl) T.m_min (by decide +kernel) (pa_cons (pe_callB (call_max2 rfl) (by rfl) T.m_max (by decide +kernel) (pa_cons (pe_callB call_len_seq (by rfl) T.m_len PySem.boot_len (pa_cons (pv 0) pa_nil)) (pa_cons pe_int pa_nil))) (pa_cons pe_int pa_nil))) pa_nil)) (pg_name (i := 2) sc_law.nd rfl (.inl rfl))
      (pss_cons (ps_set (i := 3) sc_law.nd rfl (.inr rfl) (pe_call (ok_source T) (hr.mono (by decide)) (by rfl) T.g_source T.F_source.kp T.b_source .nil pass0 (pa_cons (pv 0) (pa_cons (pv 2) pa_nil))))
        (pss_cons (ps_set (i := 4) sc_law.nd rfl (.inl rfl) (pe_call (ok_leaves T) (hr.mono (by decide)) (by rfl) T.g_leaves T.F_leaves.kp T.b_leaves .nil pass0 (pa_cons (pv 3) pa_nil)))
        (pss_cons (ps_set (i := 5) sc_law.nd rfl (.inr rfl) (pe_op op_add pe_int (pe_call (ok_pick T) (hr.mono (by decide)) (by rfl) T.g_pick T.F_pick.kp T.b_pick .nil pass0 (pa_cons (pv 3) (pa_cons pe_int pa_nil)))))
        (pss_cons (ps_set (i := 6) sc_law.nd rfl (.inl rfl) (pe_callTy call_tupleF (by rfl) T.m_tuple (by decide +kernel) (pa_cons (pe_lc (own := [("_law_page", 14)]) (g := gName 14) (by rfl) sc_law.nd (pi_list (pe_call (ok_with_rows T) (hr.mono (by decide)) (by rfl) T.g_with_rows T.F_with_rows.kp T.b_with_rows .nil pass0 (pa_cons (pv 4) pa_nil))) (blkOk_by (own := [("_law_page", 14)]) (N := N_law) (sc := defScope s_law) (by decide +kernel)) (fun _ _ _ _ _ => pg_name (i := 14) sc_law.nd rfl (.inl rfl)) (fun _ _ _ _ _ => (pts_one (pt_cmpR op_lt (pe_call (ok_pick T) (hr.mono (by decide)) (by rfl) T.g_pick T.F_pick.kp T.b_pick .nil pass0 (pa_cons (pv 3) (pa_cons pe_int pa_nil))) (pv 5) (nomark _)))) (fun _ _ _ _ _ => (pv 14))) pa_nil)))
        (pss_cons (ps_set (i := 7) sc_law.nd rfl (.inl rfl) (pe_call (ok_changed T) (hr.mono (by decide)) (by rfl) T.g_changed T.F_changed.kp T.b_changed .nil pass0 (pa_cons (pv 3) (pa_cons (pv 4) pa_nil))))
        (pss_cons (ps_set (i := 8) sc_law.nd rfl (.inr rfl) (pe_call (ok_with_rows T) (hr.mono (by decide)) (by rfl) T.g_with_rows T.F_with_rows.kp T.b_with_rows .nil pass0 (pa_cons (pv 7) pa_nil)))
        (pss_cons (ps_set (i := 9) sc_law.nd rfl (.inl rfl) (pe_callTy call_tupleF (by rfl) T.m_tuple (by decide +kernel) (pa_cons (pe_lc (own := [("_law_page", 14)]) (g := gName 14) (by rfl) sc_law.nd (pi_tup (pv 6)) (blkOk_by (own := [("_law_page", 14)]) (N := N_law) (sc := defScope s_law) (by decide +kernel)) (fun _ _ _ _ _ => pg_name (i := 14) sc_law.nd rfl (.inl rfl)) (fun _ _ _ _ _ => (pts_one (pt_cmpR (op_inDDK (K := K) rfl (un2 hr)) (pv 14) (pv 8) (by rfl)))) (fun _ _ _ _ _ => (pv 14))) pa_nil)))
        (pss_cons (ps_set (i := 10) sc_law.nd rfl (.inl rfl) (pe_call (ok_made T) (hr.mono (by decide)) (by rfl) T.g_made T.F_made.kp T.b_made .nil pass0 (pa_cons (pv 4) pa_nil)))
        (pss_cons (ps_set (i := 11) sc_law.nd rfl (.inl rfl) (pe_call (ok_as_lists T 5) (hr.mono (by decide)) (by rfl) T.g_as_lists T.F_as_lists.kp T.b_as_lists .nil pass0 (pa_cons (pv 6) pa_nil)))
        (pss_cons (ps_set (i := 12) sc_law.nd rfl (.inl rfl) (pe_call (ok_preferred_ranges T) (hr.mono (by decide)) (by rfl) T.g_preferred_ranges T.F_preferred_ranges.kp T.b_preferred_ranges .nil passL (pa_cons (pv 10) (pa_cons (pv 11) pa_nil))))
        (pss_cons (ps_if (PW.pt (pw_or (pt_cmpR (op_neD hr.units) (pv 11) (pe_call (ok_as_lists T 5) (hr.mono (by decide)) (by rfl) T.g_as_lists T.F_as_lists.kp T.b_as_lists .nil pass0 (pa_cons (pv 6) pa_nil)) (nomark _)) (pw_or1 (pt_not (pt_val (pe_call (ok_walked T) (hr.mono (by decide)) (by rfl) T.g_walked T.F_walked.kp T.b_walked .nil pass0 (pa_cons (pv 4) (pa_cons (pv 6) (pa_cons (pv 12) pa_nil)))))))))
        (pss_one (ps_ret pe_bl))
        pss_nil)
        (pss_cons (ps_if (PW.pt (pw_and (pt_cmpR op_lt (pe_callB call_len_seq (by rfl) T.m_len PySem.boot_len (pa_cons (pv 4) pa_nil)) pe_int (nomark _)) (pw_and1 (pt_val (pe_call (ok_fewer_tell T) (hr.mono (by decide)) (by rfl) T.g_fewer_tell T.F_fewer_tell.kp T.b_fewer_tell .nil pass0 (pa_cons (pv 4) (pa_cons (pv 6) (pa_cons (pe_callB call_len_seq (by rfl) T.m_len PySem.boot_len (pa_cons (pv 12) pa_nil)) pa_nil))))))))
        (pss_one (ps_ret pe_bl))
        pss_nil)
        (pss_cons (ps_if (pt_not (pt_val (pe_call (ok_walked T) (hr.mono (by decide)) (by rfl) T.g_walked T.F_walked.kp T.b_walked .nil pass0 (pa_cons (pv 7) (pa_cons (pv 9) (pa_cons (pe_call (ok_preferred_ranges T) (hr.mono (by decide)) (by rfl) T.g_preferred_ranges T.F_preferred_ranges.kp T.b_preferred_ranges .nil passL (pa_cons (pe_call (ok_made T) (hr.mono (by decide)) (by rfl) T.g_made T.F_made.kp T.b_made .nil pass0 (pa_cons (pv 7) pa_nil)) (pa_cons (pv 9) pa_nil))) pa_nil))))))
        (pss_one (ps_ret pe_bl))
        pss_nil)
        (pss_cons (ps_if (pt_not (pt_val (pe_call (ok_refused T) (hr.mono (by decide)) (by rfl) T.g_refused T.F_refused.kp T.b_refused .nil pass0 (pa_cons (pv 10) (pa_cons (pe_call (ok_bad_pages T) (hr.mono (by decide)) (by rfl) T.g_bad_pages T.F_bad_pages.kp T.b_bad_pages .nil pass0 (pa_cons (pv 3) (pa_cons (pv 4) (pa_cons (pv 6) pa_nil)))) pa_nil)))))
        (pss_one (ps_ret pe_bl))
        pss_nil)
        (pss_one (ps_expr (pe_bm PySem.F.plainAttrs_list PySem.F.slot_list_append PySem.F.type_list_append mt_append (pv 1) (pa_cons (pe_lst (pa_cons (pv 4) (pa_cons (pv 10) (pa_cons (pv 6) pa_nil)))) pa_nil)))))))))))))))))))
      (pss_cons (ps_for PassesOwn.never rfl (pi_list (pv 1)) (pg_name (i := 13) sc_law.nd rfl (.inl rfl))
      (pss_one (ps_if (pt_not (pt_val (pe_call (ok_walked T) (hr.mono (by decide)) (by rfl) T.g_walked T.F_walked.kp T.b_walked .nil pass0 (pa_cons (pe_ix ix_list (pv 13) pe_int (fun _ _ => rfl)) (pa_cons (pe_ix ix_list (pv 13) pe_int (fun _ _ => rfl)) (pa_cons (pe_call (ok_preferred_ranges T) (hr.mono (by decide)) (by rfl) T.g_preferred_ranges T.F_preferred_ranges.kp T.b_preferred_ranges .nil passL (pa_cons (pe_ix ix_list (pv 13) pe_int (fun _ _ => rfl)) (pa_cons (pe_ix ix_list (pv 13) pe_int (fun _ _ => rfl)) pa_nil))) pa_nil))))))
        (pss_one (ps_ret pe_bl))
        pss_nil)))
      (pss_one (ps_ret pe_bl))))), ?_⟩
    have hn : ((ns.map V.int).length : Int) ≤ 63 := by rw [List.length_map]; omega
    refine ⟨Nat.zero_le _, fun W nW => ?_⟩
    have sW := same_upd (o := .lst []) nW
    have hW : upd H W (.lst []) W = some (.lst []) := upd_same
    refine ⟨_, rfl, _, _, rfl, .inl (sW.seq hS), _, _, rfl, _, _, rfl, _, rfl, ?_, ?_, for_range (lo := 0) (fun j σ' H' => ∃ (ws : List V) (y2 y3 y4 y5 y6 y7 y8 y9 y10 y11 y12 : Option V), σ' = [some (.ref a), some (.ref W), y2, y3, y4, y5, y6, y7, y8, y9, y10, y11, y12, none, none] ∧ Same H H' ∧ H' W = some (.lst ws) ∧ ws.length ≤ j ∧ ∀ v ∈ ws, WA T.C_Leaf T.C_Book W H' v) ⟨[], none, none, none, none, none, none, none, none, none, none, none, rfl, sW, hW, Nat.le_refl _, fun _ h => nomatch h⟩ ?_ ?_⟩
    · split <;> split <;> omega
    · split <;> split <;> omega
    · rintro j σ' Hx hj ⟨ws, y2, y3, y4, y5, y6, y7, y8, y9, y10, y11, y12, rfl, smh, hWx, lws, hws⟩
      have hj2 : j < 64 := by
        split at hj <;> split at hj <;> omega
      refine ⟨_, rfl, _, rfl, a, ns, j, ?_, smh.seq hS, fun p0 H1 sm1 n0 src => ?_⟩
      · show [V.ref a, V.int (0 + (j : Int))] = [V.ref a, V.int (j : Int)]
        rw [Int.zero_add]
      have WP : W ≠ p0 := fun z => by rw [z, n0] at hWx; cases hWx
      refine ⟨_, rfl, p0, rfl, src, fun l bk H2 src2 b2 nl hv ok => ?_⟩
      have lp : l ≠ p0 := (src.ne nl).symm
      have h60 := ok.1
      have upL : ∀ {Ha Hb : Hp} {m : Addr} {b : List Lf}, m ≠ p0 → Src Ha p0 → But p0 Ha Hb → LvAt Ha m b → LvAt Hb m b := fun hm sa bb h => by
        obtain ⟨vs, e, t⟩ := h
        exact ⟨vs, bb _ _ hm e, t.nl (sa.nl bb)⟩
      refine ⟨_, rfl, p0, 4, rfl, src2, by decide, by decide, fun sh H3 s3 b3 _ _ => ⟨_, _, rfl, rfl, ?_⟩⟩
      have hv3 := upL lp src2 b3 hv
      refine ⟨_, rfl, l, bk, rfl, hv3, ok, fun wl wvs H4 s4 nw hw tw => ?_⟩
      have src4 := srcS s4 s3
      have wp : wl ≠ p0 := (s3.ne nw).symm
      have len := tw.len
      rw [List.length_map] at len
      have l120 := shownP_len bk
      have hv4 : LvAt H4 l bk := hv3.same s4
      refine ⟨wl, rfl, ⟨_, .inl (.inl hw)⟩, fun D nD => ?_⟩
      have Dp0 : D ≠ p0 := (src4.ne nD).symm
      refine lc_list (xs := wvs) (fun i H' => Src H' p0 ∧ But p0 H4 H' ∧ H' wl = some (.lst wvs) ∧ ∃ us qs, H' D = some (.lst us) ∧ TpAll H' us ((qs : List Pg).map dP) ∧ qs.Sublist ((shownP bk).take i)) ⟨src4.put Dp0.symm _, But.of (same_upd nD), same_upd nD _ _ hw, [], [], upd_same, .nil, List.nil_sublist _⟩ (fun _ H' _ h => .inl (.inl h.2.2.1)) ?_ ?_
      · rintro i y H5 hy ⟨s5, b5, hw5, us, qs, eD, tq, sub⟩
        obtain ⟨d, ed, ty⟩ := tw.get hy
        obtain ⟨pg, ep, rfl⟩ : ∃ pg, (shownP bk)[i]? = some pg ∧ d = dP pg := by
          rw [List.getElem?_map] at ed
          cases e : (shownP bk)[i]? with
          | none => rw [e] at ed; cases ed
          | some l => rw [e] at ed; exact ⟨l, rfl, (Option.some.inj ed).symm⟩
        have il := (List.getElem?_eq_some_iff.mp ep).1
        have lq : qs.length ≤ 120 := by
          have := sub.length_le
          rw [List.length_take] at this
          omega
        have tk : (shownP bk).take (i + 1) = (shownP bk).take i ++ [pg] := by rw [List.take_add_one, ep]; rfl
        refine ⟨rfl, ?_⟩
        refine ⟨_, rfl, p0, 4, rfl, s5, by decide, by decide, fun c H6 s6 b6 _ _ => ⟨_, rfl, _, _, rfl, rfl, _, rfl, ite2 (fun _ => ?_) (fun _ => ?_)⟩⟩
        · have e6 := b6 _ _ Dp0 eD
          have m := (NL.refl H6).put e6 (.lst (us ++ [y]))
          have lu : us.length ≤ 120 := by rw [tq.len, List.length_map]; omega
          have fD : H4 D = none := nD
          refine ⟨_, rfl, us, e6, small1000 (by omega), s6.put Dp0.symm _, (b5.trans b6).put fD _, ?_, us ++ [y], qs ++ [pg], upd_same, ?_, ?_⟩
          · rw [upd_ne (fun z => by rw [z, nD] at hw; cases hw)]
            exact b6 _ _ wp hw5
          · rw [List.map_append]
            exact ((tq.nl (s5.nl b6)).nl m).snoc (((ty.nl (src4.nl b5)).nl (s5.nl b6)).nl m)
          · rw [tk]
            exact sub.append (List.Sublist.refl _)
        · refine ⟨s6, b5.trans b6, b6 _ _ wp hw5, us, qs, b6 _ _ Dp0 eD, tq.nl (s5.nl b6), ?_⟩
          rw [tk]
          exact sub.trans (List.sublist_append_left _ _)
      rintro H5 ⟨s5, b5, _, us, ps, eD, tq, sub⟩
      rw [len, List.take_length] at sub
      have hs : ∀ p ∈ ps, p ∈ shownP bk := fun p hp => sub.subset hp
      have up : Up ps := (shown_up ok).sublist sub
      have lps : ps.length ≤ 120 := by have := sub.length_le; omega
      have lus := tq.len
      rw [List.length_map] at lus
      have okp : ∀ p ∈ ps, okP p := fun p hp => shown_okP ok p (hs p hp)
      refine ⟨D, us, rfl, .inl (.inl eD), fun pa po pod npa => ?_⟩
      have s6 := same_upd (o := .frz po (.tup us)) npa
      have hpa : upd H5 pa (.frz po (.tup us)) pa = some (.frz po (.tup us)) := upd_same
      generalize upd H5 pa (.frz po (.tup us)) = H6 at s6 hpa
      have src6 := srcS s6 s5
      have tq6 := tq.nl (NL.of s6)
      have hv6 := (upL lp src4 b5 hv4).same s6
      refine ⟨_, rfl, _, rfl, p0, l, bk, rfl, src6, lp, hv6, ok, fun c bk' H7 s7 b7 nc hv' ok' => ?_⟩
      have n67 := src6.nl b7
      have hv7 := upL lp src6 b7 hv6
      have hpa7 := n67 _ _ hpa (fun _ z => nomatch z)
      have tq7 := tq6.nl n67
      have cp : c ≠ p0 := (src6.ne nc).symm
      refine ⟨_, rfl, c, bk', rfl, hv', ok', fun th tws H8 s8 nth hth tth => ?_⟩
      have hpa8 := s8 _ _ hpa7
      have sq8 : SqT K H8 pa us := .inl (.inr ⟨po, hpa8⟩)
      have tq8 := tq7.nl (NL.of s8)
      refine ⟨_, rfl, pa, rfl, ⟨_, sq8⟩, fun E nE => ?_⟩
      refine lc_tp ps (fun p => if decide (p ∈ shownP bk') = true then some (dP p) else none) (walkT (xs := us) lus) nE (fun H h => same_seqT h sq8) (by omega) ?_ ?_
      · rintro i p y H4x H4' er sm ⟨rfl, hy⟩ Rr N hRr hN
        obtain ⟨d, ed, ty⟩ := tq8.get hy
        rw [List.getElem?_map, er] at ed
        cases ed
        have ty4 := ty.nl (NL.of sm)
        refine ⟨rfl, ?_⟩
        refine ⟨_, rfl, _, rfl, dP p, (shownP bk').map dP, ty4.dp, .inl (.lst (.inl (.inl (sm _ _ hth))) (tth.nl (NL.of sm)).dp), shaped_P _, shaped_Ps _, decide (p ∈ shownP bk'), congrArg V.bl (by rw [Bool.false_bne, in_P]), ite2 (fun e => ?_) (fun e => ?_)⟩
        · exact ⟨_, rfl, hRr _ _ (if_pos e) _ (Same.refl _) ty4⟩
        · exact hN (if_neg e) _ (Same.refl _)
      rintro H9 zs s9 eE tz
      rw [fm_filter] at tz
      have hs' : ∀ p ∈ ps.filter fun p => decide (p ∈ shownP bk'), p ∈ shownP bk' := fun p hp => of_decide_eq_true (List.mem_filter.mp hp).2
      have up' : Up (ps.filter fun p => decide (p ∈ shownP bk')) := up.sublist List.filter_sublist
      have lls : (ps.filter fun p => decide (p ∈ shownP bk')).length ≤ 120 := Nat.le_trans (List.length_filter_le ..) lps
      generalize (ps.filter fun p => decide (p ∈ shownP bk')) = ls at tz hs' up' lls
      refine ⟨E, zs, rfl, .inl (.inl eE), fun pl plo plod npl => ?_⟩
      have s10 := same_upd (o := .frz plo (.tup zs)) npl
      have hpl : upd H9 pl (.frz plo (.tup zs)) pl = some (.frz plo (.tup zs)) := upd_same
      generalize upd H9 pl (.frz plo (.tup zs)) = H10 at s10 hpl
      have tz10 := tz.nl (NL.of s10)
      have s710 := (s8.trans s9).trans s10
      have hv10 := hv7.same s710
      have hpa10 := s710 _ _ hpa7
      have dpa : ∀ {Hz : Hp}, Same H10 Hz → Dp K Hz (.ref pa) (dPs ps) := fun s => .tup (.inl (.inr ⟨po, s _ _ hpa10⟩)) (tq7.nl (NL.of (s710.trans s))).dp
      refine ⟨_, rfl, l, bk, rfl, hv10, ok, fun B H11 s11 hB => ?_⟩
      have plp : Pl 5 (dPs ps) := pl_tup (n := 4) (f := dP) (fun p hp => pl_dP (okp p hp).1.1 1) (by omega)
      refine ⟨_, rfl, _, dPs ps, rfl, dpa s11, plp, fun hh H12 s12 fd => ?_⟩
      have G1 : GoodPs bk (toL (dPs ps)) ps := good_lps ok hs up
      refine ⟨_, rfl, _, rfl, B, hh, bk, toL (dPs ps), rfl, hB.nl (NL.of s12), ok, fd_dp fd, ?_, fun no => absurd G1 (no ps), fun ps' gp rs pinv lrs told H13 s13 dtold => ?_⟩
      · intro ds e
        cases e
        rw [toLs_map, List.length_map, List.length_map]
        omega
      cases good_uniq G1 gp
      obtain ⟨tua, tus, etu, htu, dtu⟩ := dRs_inv dtold
      cases etu
      have ltu : tus.length = rs.length := by rw [dpAll_len dtu, List.length_map]
      have s1013 := (s11.trans s12).trans s13
      refine ⟨_, rfl, _, rfl, _, dPs ps, rfl, dpa s1013, plp, fun h2 H14 s14 fd2 => ?_⟩
      refine ⟨toL (dPs ps), toL (dPs ps), dp_same (s13.trans s14) (fd_dp fd), fd_dp fd2, shaped_pl plp (by decide), shaped_pl plp (by decide), _, rfl, ?_⟩
      rw [eqv_pl plp]
      have s1014 := s1013.trans s14
      refine iteF ⟨_, rfl, _, rfl, _, rfl, l, .ref pa, .ref told, bk, ps, rs, rfl, hv10.same s1014, ok, dpa s1014, dp_same s14 dtold, hs, up, pinv, lrs, fun H15 s15 => ⟨_, rfl, iteF ?_⟩⟩
      have s1015 := s1014.trans s15
      obtain ⟨lvs, hlv, tlv⟩ := hv10.same s1015
      have llv := tlv.len
      rw [List.length_map] at llv
      refine ⟨_, rfl, l, lvs, rfl, .inl (.inl (.inl hlv)), _, _, rfl, rfl, _, rfl, ite2 (fun e => ?_) (fun _ => iteF ?_)⟩
      · have e : (lvs.length : Int) < 5 := of_decide_eq_true e
        refine ⟨_, rfl, _, rfl, _, rfl, told, tus, rfl, .inr (same_seqT (s14.trans s15) htu), l, pa, po, us, bk, ps, rs, ?_, ⟨lvs, hlv, tlv⟩, ok, by omega, s1015 _ _ hpa10, pod, (tq7.nl (NL.of (s710.trans s1015))).dp, hs, up, pinv, lrs, fun H16 s16 => ⟨_, rfl, iteF ?_⟩⟩
        · rw [ltu]; rfl
        have sc := s1015.trans s16
        have sb := (s13.trans s14).trans (s15.trans s16)
        have src' := srcS (s710.trans sc) s7
        have dpl : ∀ {Hz : Hp}, Same H10 Hz → Dp K Hz (.ref pl) (dPs ls) := fun s => .tup (.inl (.inr ⟨plo, s _ _ hpl⟩)) (tz10.nl (NL.of s)).dp
        refine ⟨_, rfl, _, rfl, _, rfl, c, bk', rfl, hv'.same (s710.trans sc), ok', fun B2 H17 s17 hB2 => ?_⟩
        have sc17 := sc.trans s17
        have G2 : GoodPs bk' (dPs ls) ls := good_ps ok' hs' up'
        refine ⟨_, rfl, B2, .ref pl, bk', dPs ls, rfl, hB2, ok', dpl sc17, ?_, fun no => absurd G2 (no ls), fun ls' gp2 rs2 pinv2 lrs2 told2 H18 s18 dt2 => ?_⟩
        · intro ds e
          cases e
          rw [List.length_map]
          omega
        cases good_uniq G2 gp2
        have sc18 := sc17.trans s18
        refine ⟨c, .ref pl, .ref told2, bk', ls, rs2, rfl, hv'.same (s710.trans sc18), ok', dpl sc18, dt2, hs', up', pinv2, lrs2, fun H19 s19 => ⟨_, rfl, iteF ?_⟩⟩
        have sc19 := sc18.trans s19
        have src19 := srcS (s710.trans sc19) s7
        refine ⟨_, rfl, _, rfl, _, rfl, _, rfl, p0, l, pa, us, bk, ps, rfl, src19, lp, hv10.same sc19, ok, .inl (.inr ⟨po, sc19 _ _ hpa10⟩), tq7.nl (NL.of (s710.trans sc19)), hs, up, fun bad dbad H20 src20 b20 db nog lbad => ?_⟩
        have n20 := src19.nl b20
        have hB20 := (hB.nl (NL.of ((s12.trans sb).trans ((s17.trans s18).trans s19)))).nl n20
        refine ⟨B, bad, bk, dbad, rfl, hB20, ok, db, lbad, nog, fun H21 s21 => ⟨_, rfl, iteF ?_⟩⟩
        have x7 : But p0 H7 H21 := ((But.of (s710.trans sc19)).trans b20).trans (But.of s21)
        have x1 : Same Hx H21 := ((((((b2.trans b3).trans (But.of s4)).trans b5).trans (But.of s6)).trans b7).trans x7).same n0 sm1
        have hW21 := x1 _ _ hWx
        have hv21 : LvAt H21 l bk := (upL lp src19 b20 (hv10.same sc19)).same s21
        have hB21 := hB20.nl (NL.of s21)
        have hpa21 := s21 _ _ (n20 _ _ (sc19 _ _ hpa10) (fun _ z => nomatch z))
        have tq21 := ((tq7.nl (NL.of (s710.trans sc19))).nl n20).nl (NL.of s21)
        refine ⟨_, rfl, .inl ⟨rfl, _, .inl (.inl hW21)⟩, ?_⟩
        refine ⟨_, rfl, _, rfl, _, rfl, (by show 3 ≤ sizeLine; decide), fun u nu => ?_⟩
        have su := same_upd (o := .lst [.ref l, B, .ref pa]) nu
        have hu : upd H21 u (.lst [.ref l, B, .ref pa]) u = some (.lst [.ref l, B, .ref pa]) := upd_same
        have uW : u ≠ W := fun z => by rw [z, hW21] at nu; cases nu
        have lW : l ≠ W := fun z => by
          have := sm1 _ _ hWx
          rw [z, this] at nl
          cases nl
        generalize upd H21 u (.lst [.ref l, B, .ref pa]) = H22 at su hu ⊢
        have hW22 := su _ _ hW21
        have m := (NL.refl H22).put hW22 (.lst (ws ++ [.ref u]))
        refine ⟨W, ws, _, rfl, rfl, hW22, small1000 (by omega), ws ++ [.ref u], _, _, _, _, _, _, _, _, _, _, _, rfl, same_put (smh.trans (x1.trans su)) nW _, upd_same, by rw [List.length_append]; exact Nat.succ_le_succ lws, fun v hv => ?_⟩
        rcases List.mem_append.mp hv with h | h
        · exact ((hws v h).same (x1.trans su)).put hW22 _
        · rw [List.mem_singleton.mp h]
          exact WA.put hW22 _ ⟨u, l, pa, B, po, us, bk, ps, rfl, hu, uW, lW, hv21.same su, ok, hB21.nl (NL.of su), su _ _ hpa21, pod, tq21.nl (NL.of su), hs, up⟩
      · have sc := s1015
        have sb := (s13.trans s14).trans s15
        have src' := srcS (s710.trans sc) s7
        have dpl : ∀ {Hz : Hp}, Same H10 Hz → Dp K Hz (.ref pl) (dPs ls) := fun s => .tup (.inl (.inr ⟨plo, s _ _ hpl⟩)) (tz10.nl (NL.of s)).dp
        refine ⟨_, rfl, _, rfl, _, rfl, c, bk', rfl, hv'.same (s710.trans sc), ok', fun B2 H17 s17 hB2 => ?_⟩
        have sc17 := sc.trans s17
        have G2 : GoodPs bk' (dPs ls) ls := good_ps ok' hs' up'
        refine ⟨_, rfl, B2, .ref pl, bk', dPs ls, rfl, hB2, ok', dpl sc17, ?_, fun no => absurd G2 (no ls), fun ls' gp2 rs2 pinv2 lrs2 told2 H18 s18 dt2 => ?_⟩
        · intro ds e
          cases e
          rw [List.length_map]
          omega
        cases good_uniq G2 gp2
        have sc18 := sc17.trans s18
        refine ⟨c, .ref pl, .ref told2, bk', ls, rs2, rfl, hv'.same (s710.trans sc18), ok', dpl sc18, dt2, hs', up', pinv2, lrs2, fun H19 s19 => ⟨_, rfl, iteF ?_⟩⟩
        have sc19 := sc18.trans s19
        have src19 := srcS (s710.trans sc19) s7
        refine ⟨_, rfl, _, rfl, _, rfl, _, rfl, p0, l, pa, us, bk, ps, rfl, src19, lp, hv10.same sc19, ok, .inl (.inr ⟨po, sc19 _ _ hpa10⟩), tq7.nl (NL.of (s710.trans sc19)), hs, up, fun bad dbad H20 src20 b20 db nog lbad => ?_⟩
        have n20 := src19.nl b20
        have hB20 := (hB.nl (NL.of ((s12.trans sb).trans ((s17.trans s18).trans s19)))).nl n20
        refine ⟨B, bad, bk, dbad, rfl, hB20, ok, db, lbad, nog, fun H21 s21 => ⟨_, rfl, iteF ?_⟩⟩
        have x7 : But p0 H7 H21 := ((But.of (s710.trans sc19)).trans b20).trans (But.of s21)
        have x1 : Same Hx H21 := ((((((b2.trans b3).trans (But.of s4)).trans b5).trans (But.of s6)).trans b7).trans x7).same n0 sm1
        have hW21 := x1 _ _ hWx
        have hv21 : LvAt H21 l bk := (upL lp src19 b20 (hv10.same sc19)).same s21
        have hB21 := hB20.nl (NL.of s21)
        have hpa21 := s21 _ _ (n20 _ _ (sc19 _ _ hpa10) (fun _ z => nomatch z))
        have tq21 := ((tq7.nl (NL.of (s710.trans sc19))).nl n20).nl (NL.of s21)
        refine ⟨_, rfl, .inl ⟨rfl, _, .inl (.inl hW21)⟩, ?_⟩
        refine ⟨_, rfl, _, rfl, _, rfl, (by show 3 ≤ sizeLine; decide), fun u nu => ?_⟩
        have su := same_upd (o := .lst [.ref l, B, .ref pa]) nu
        have hu : upd H21 u (.lst [.ref l, B, .ref pa]) u = some (.lst [.ref l, B, .ref pa]) := upd_same
        have uW : u ≠ W := fun z => by rw [z, hW21] at nu; cases nu
        have lW : l ≠ W := fun z => by
          have := sm1 _ _ hWx
          rw [z, this] at nl
          cases nl
        generalize upd H21 u (.lst [.ref l, B, .ref pa]) = H22 at su hu ⊢
        have hW22 := su _ _ hW21
        have m := (NL.refl H22).put hW22 (.lst (ws ++ [.ref u]))
        refine ⟨W, ws, _, rfl, rfl, hW22, small1000 (by omega), ws ++ [.ref u], _, _, _, _, _, _, _, _, _, _, _, rfl, same_put (smh.trans (x1.trans su)) nW _, upd_same, by rw [List.length_append]; exact Nat.succ_le_succ lws, fun v hv => ?_⟩
        rcases List.mem_append.mp hv with h | h
        · exact ((hws v h).same (x1.trans su)).put hW22 _
        · rw [List.mem_singleton.mp h]
          exact WA.put hW22 _ ⟨u, l, pa, B, po, us, bk, ps, rfl, hu, uW, lW, hv21.same su, ok, hB21.nl (NL.of su), su _ _ hpa21, pod, tq21.nl (NL.of su), hs, up⟩
    · rintro σ' H2 ⟨ws, y2, y3, y4, y5, y6, y7, y8, y9, y10, y11, y12, rfl, s2, hW2, lws, hws⟩
      refine ⟨_, rfl, W, rfl, ⟨_, .inl (.inl hW2)⟩, for_list (xs := ws) (fun i σ' H' => ∃ (y13 : Option V), σ' = [some (.ref a), some (.ref W), y2, y3, y4, y5, y6, y7, y8, y9, y10, y11, y12, y13, none] ∧ Same H2 H') ⟨_, rfl, Same.refl _⟩ (fun i σ' H' _ hh => by obtain ⟨_, _, b⟩ := hh; exact .inl (.inl (b _ _ hW2))) ?_ ?_⟩
      · rintro i x σ' H3 hx ⟨y13, rfl, s3⟩
        obtain ⟨u, l, pa, bv, po, pus, bk, ps, rfl, hu, uW, lW, hv, ok, hb, hpa, pod, tp, hs, up⟩ := (hws x (List.mem_of_getElem? hx)).same s3
        have lps : ps.length ≤ 120 := by
          have := nodup_sub (m := shownP bk) (up.imp fun {x y} h e => by rw [e, ltP_irr] at h; cases h) hs
          have := shownP_len bk
          have := ok.1
          omega
        have G1 : GoodPs bk (dPs ps) ps := good_ps ok hs up
        have dpa : ∀ {Hz : Hp}, Same H3 Hz → Dp K Hz (.ref pa) (dPs ps) := fun s => .tup (.inl (.inr ⟨po, s _ _ hpa⟩)) (tp.nl (NL.of s)).dp
        refine ⟨_, rfl, u, _, 0, _, rfl, rfl, .inl (.inl hu), rfl, _, rfl, u, _, 2, _, rfl, rfl, .inl (.inl hu), rfl, _, rfl, u, _, 1, _, rfl, rfl, .inl (.inl hu), rfl, _, rfl, u, _, 2, _, rfl, rfl, .inl (.inl hu), rfl, bv, .ref pa, bk, dPs ps, rfl, hb, ok, dpa (Same.refl _), ?_, fun no => absurd G1 (no ps), fun ps' gp rs pinv lrs told H4 s4 dt => ?_⟩
        · intro ds e
          cases e
          rw [List.length_map]
          omega
        cases good_uniq G1 gp
        exact ⟨l, .ref pa, .ref told, bk, ps, rs, rfl, hv.same s4, ok, dpa s4, dt, hs, up, pinv, lrs, fun H5 s5 => ⟨_, rfl, iteF ⟨_, rfl, (s3.trans s4).trans s5⟩⟩⟩
      · rintro σ' H3 ⟨y13, rfl, s3⟩
        exact q H3
end
theorem all_mk {l : PySem.W.OpenLaw} {w : World} {K : PySem.W.Frag} {h : Heap} {mg : Str → Option Value} {fa f0 f1 f2 f3 f4 f5 f6 f7 f8 f9 f10 f11 f12 f13 f14 f15 f16 f17 f18 f19 f20 f21 f22 f23 f24 f25 f26 f27 f28 f29 f30 f31 f32 f33 f34 f35 f36 f37 f38 f39 f40 f41 f42 f43 f44 C_AfterError C_BadForm C_NotThere C_BadPages C_Leaf C_Book : Addr} (X : K.In h) (G : h.Ns mainGlobals mg) (hfa : mg "law" = some (.ref fa))
    {od0 an0 od1 an1 od2 an2 od3 an3 od4 an4 od5 an5 od6 an6 od7 an7 od8 an8 od9 an9 od10 an10 od11 an11 od12 an12 od13 an13 od14 an14 od15 an15 od16 an16 od17 an17 od18 an18 od19 an19 od20 an20 od21 an21 od22 an22 od23 an23 od24 an24 od25 an25 od26 an26 od27 an27 od28 an28 od29 an29 od30 an30 od31 an31 od32 an32 od33 an33 od34 an34 od35 an35 od36 an36 od37 an37 od38 an38 od39 an39 od40 an40 od41 an41 od42 an42 od43 an43 od44 an44 : Option Addr} {sl0 sl1 sl2 sl3 sl4 sl5 sl6 sl7 sl8 sl9 sl10 sl11 sl12 sl13 sl14 sl15 sl16 sl17 sl18 sl19 sl20 sl21 sl22 sl23 sl24 sl25 sl26 sl27 sl28 sl29 sl30 sl31 sl32 sl33 sl34 sl35 sl36 sl37 sl38 sl39 sl40 sl41 sl42 sl43 sl44 : Array (Option Value)} {oc0 kV0 dc0 pm0 cd0 ct0 oc1 kV1 dc1 pm1 cd1 ct1 oc2 kV2 dc2 pm2 cd2 ct2 oc3 kV3 dc3 pm3 cd3 ct3 oc4 kV4 dc4 pm4 cd4 ct4 oc5 kV5 dc5 pm5 cd5 ct5 oc6 kV6 dc6 pm6 cd6 ct6 oc7 kV7 dc7 pm7 cd7 ct7 oc8 kV8 dc8 pm8 cd8 ct8 oc9 kV9 dc9 pm9 cd9 ct9 oc10 kV10 dc10 pm10 cd10 ct10 oc11 kV11 dc11 pm11 cd11 ct11 oc12 kV12 dc12 pm12 cd12 ct12 oc13 kV13 dc13 pm13 cd13 ct13 oc14 kV14 dc14 pm14 cd14 ct14 oc15 kV15 dc15 pm15 cd15 ct15 oc16 kV16 dc16 pm16 cd16 ct16 oc17 kV17 dc17 pm17 cd17 ct17 oc18 kV18 dc18 pm18 cd18 ct18 oc19 kV19 dc19 pm19 cd19 ct19 oc20 kV20 dc20 pm20 cd20 ct20 oc21 kV21 dc21 pm21 cd21 ct21 oc22 kV22 dc22 pm22 cd22 ct22 oc23 kV23 dc23 pm23 cd23 ct23 oc24 kV24 dc24 pm24 cd24 ct24 oc25 kV25 dc25 pm25 cd25 ct25 oc26 kV26 dc26 pm26 cd26 ct26 oc27 kV27 dc27 pm27 cd27 ct27 oc28 kV28 dc28 pm28 cd28 ct28 oc29 kV29 dc29 pm29 cd29 ct29 oc30 kV30 dc30 pm30 cd30 ct30 oc31 kV31 dc31 pm31 cd31 ct31 oc32 kV32 dc32 pm32 cd32 ct32 oc33 kV33 dc33 pm33 cd33 ct33 oc34 kV34 dc34 pm34 cd34 ct34 oc35 kV35 dc35 pm35 cd35 ct35 oc36 kV36 dc36 pm36 cd36 ct36 oc37 kV37 dc37 pm37 cd37 ct37 oc38 kV38 dc38 pm38 cd38 ct38 oc39 kV39 dc39 pm39 cd39 ct39 oc40 kV40 dc40 pm40 cd40 ct40 oc41 kV41 dc41 pm41 cd41 ct41 oc42 kV42 dc42 pm42 cd42 ct42 oc43 kV43 dc43 pm43 cd43 ct43 oc44 kV44 dc44 pm44 cd44 ct44 : Value}
    (a0 : PySem.W.nsIn K mainGlobals "_wall" = some (some (.ref f0))) (l0 : K.lookup f0 = some ⟨oc0, od0, .func (PySem.W.fnOf "_wall" "_wall" (defArgs s_wall) (defBody s_wall) (defScope s_wall) .none kV0 dc0 pm0 an0 cd0 ct0), sl0⟩) (c0 : PySem.W.codeIn K cd0 "_wall" = true) (k0 : PySem.W.keepIn K (.ref f0) = true)
    (a1 : PySem.W.nsIn K mainGlobals "is_integer" = some (some (.ref f1))) (l1 : K.lookup f1 = some ⟨oc1, od1, .func (PySem.W.fnOf "is_integer" "is_integer" (defArgs s_is_integer) (defBody s_is_integer) (defScope s_is_integer) .none kV1 dc1 pm1 an1 cd1 ct1), sl1⟩) (c1 : PySem.W.codeIn K cd1 "is_integer" = true) (k1 : PySem.W.keepIn K (.ref f1) = true)
    (a2 : PySem.W.nsIn K mainGlobals "is_within" = some (some (.ref f2))) (l2 : K.lookup f2 = some ⟨oc2, od2, .func (PySem.W.fnOf "is_within" "is_within" (defArgs s_is_within) (defBody s_is_within) (defScope s_is_within) .none kV2 dc2 pm2 an2 cd2 ct2), sl2⟩) (c2 : PySem.W.codeIn K cd2 "is_within" = true) (k2 : PySem.W.keepIn K (.ref f2) = true)
    (a3 : PySem.W.nsIn K mainGlobals "is_tuple" = some (some (.ref f3))) (l3 : K.lookup f3 = some ⟨oc3, od3, .func (PySem.W.fnOf "is_tuple" "is_tuple" (defArgs s_is_tuple) (defBody s_is_tuple) (defScope s_is_tuple) .none kV3 dc3 pm3 an3 cd3 ct3), sl3⟩) (c3 : PySem.W.codeIn K cd3 "is_tuple" = true) (k3 : PySem.W.keepIn K (.ref f3) = true)
    (a4 : PySem.W.nsIn K mainGlobals "is_sized" = some (some (.ref f4))) (l4 : K.lookup f4 = some ⟨oc4, od4, .func (PySem.W.fnOf "is_sized" "is_sized" (defArgs s_is_sized) (defBody s_is_sized) (defScope s_is_sized) .none kV4 dc4 pm4 an4 cd4 ct4), sl4⟩) (c4 : PySem.W.codeIn K cd4 "is_sized" = true) (k4 : PySem.W.keepIn K (.ref f4) = true)
    (a5 : PySem.W.nsIn K mainGlobals "kept_label" = some (some (.ref f5))) (l5 : K.lookup f5 = some ⟨oc5, od5, .func (PySem.W.fnOf "kept_label" "kept_label" (defArgs s_kept_label) (defBody s_kept_label) (defScope s_kept_label) .none kV5 dc5 pm5 an5 cd5 ct5), sl5⟩) (c5 : PySem.W.codeIn K cd5 "kept_label" = true) (k5 : PySem.W.keepIn K (.ref f5) = true)
    (a6 : PySem.W.nsIn K mainGlobals "judged_label" = some (some (.ref f6))) (l6 : K.lookup f6 = some ⟨oc6, od6, .func (PySem.W.fnOf "judged_label" "judged_label" (defArgs s_judged_label) (defBody s_judged_label) (defScope s_judged_label) .none kV6 dc6 pm6 an6 cd6 ct6), sl6⟩) (c6 : PySem.W.codeIn K cd6 "judged_label" = true) (k6 : PySem.W.keepIn K (.ref f6) = true)
    (a7 : PySem.W.nsIn K mainGlobals "kept_page" = some (some (.ref f7))) (l7 : K.lookup f7 = some ⟨oc7, od7, .func (PySem.W.fnOf "kept_page" "kept_page" (defArgs s_kept_page) (defBody s_kept_page) (defScope s_kept_page) .none kV7 dc7 pm7 an7 cd7 ct7), sl7⟩) (c7 : PySem.W.codeIn K cd7 "kept_page" = true) (k7 : PySem.W.keepIn K (.ref f7) = true)
    (a8 : PySem.W.nsIn K mainGlobals "preferred_ranges" = some (some (.ref f8))) (l8 : K.lookup f8 = some ⟨oc8, od8, .func (PySem.W.fnOf "preferred_ranges" "preferred_ranges" (defArgs s_preferred_ranges) (defBody s_preferred_ranges) (defScope s_preferred_ranges) .none kV8 dc8 pm8 an8 cd8 ct8), sl8⟩) (c8 : PySem.W.codeIn K cd8 "preferred_ranges" = true) (k8 : PySem.W.keepIn K (.ref f8) = true)
    (a9 : PySem.W.nsIn K mainGlobals "judged_pages" = some (some (.ref f9))) (l9 : K.lookup f9 = some ⟨oc9, od9, .func (PySem.W.fnOf "judged_pages" "judged_pages" (defArgs s_judged_pages) (defBody s_judged_pages) (defScope s_judged_pages) .none kV9 dc9 pm9 an9 cd9 ct9), sl9⟩) (c9 : PySem.W.codeIn K cd9 "judged_pages" = true) (k9 : PySem.W.keepIn K (.ref f9) = true)
    (a10 : PySem.W.nsIn K mainGlobals "shown_pages" = some (some (.ref f10))) (l10 : K.lookup f10 = some ⟨oc10, od10, .func (PySem.W.fnOf "shown_pages" "shown_pages" (defArgs s_shown_pages) (defBody s_shown_pages) (defScope s_shown_pages) .none kV10 dc10 pm10 an10 cd10 ct10), sl10⟩) (c10 : PySem.W.codeIn K cd10 "shown_pages" = true) (k10 : PySem.W.keepIn K (.ref f10) = true)
    {eP0 : Addr} {ed0 : Option Addr} {en0 : Nat} {es0 : Array (Option Value)}    {tT11 : Addr} {tc11 : Value} {td11 : Option Addr} {tn11 : Nat} {ts11 : Array (Option Value)}    (a11 : PySem.W.findIn K (.ref C_Leaf) "__init__" = some (some (.ref f11))) (l11 : K.lookup f11 = some ⟨oc11, od11, .func (PySem.W.fnOf "__init__" "Leaf.__init__" (defArgs s_Leaf_init) (defBody s_Leaf_init) (defScope s_Leaf_init) (.ref tT11) kV11 dc11 pm11 an11 cd11 ct11), sl11⟩) (c11 : PySem.W.codeIn K cd11 "Leaf.__init__" = true) (k11 : PySem.W.keepIn K (.ref f11) = true) (lt11 : K.lookup tT11 = some ⟨tc11, td11, .seq ([Value.ref eP0] : List Value).toArray tn11, ts11⟩) (le0 : K.lookup eP0 = some ⟨.type "tuple", ed0, .seq #[] en0, es0⟩)
    (a12 : PySem.W.findIn K (.ref C_Leaf) "side_rows" = some (some (.ref f12))) (l12 : K.lookup f12 = some ⟨oc12, od12, .func (PySem.W.fnOf "side_rows" "Leaf.side_rows" (defArgs s_Leaf_side_rows) (defBody s_Leaf_side_rows) (defScope s_Leaf_side_rows) .none kV12 dc12 pm12 an12 cd12 ct12), sl12⟩) (c12 : PySem.W.codeIn K cd12 "Leaf.side_rows" = true) (k12 : PySem.W.keepIn K (.ref f12) = true)
    (a13 : PySem.W.nsIn K mainGlobals "is_token" = some (some (.ref f13))) (l13 : K.lookup f13 = some ⟨oc13, od13, .func (PySem.W.fnOf "is_token" "is_token" (defArgs s_is_token) (defBody s_is_token) (defScope s_is_token) .none kV13 dc13 pm13 an13 cd13 ct13), sl13⟩) (c13 : PySem.W.codeIn K cd13 "is_token" = true) (k13 : PySem.W.keepIn K (.ref f13) = true)
    (a14 : PySem.W.nsIn K mainGlobals "_is_row" = some (some (.ref f14))) (l14 : K.lookup f14 = some ⟨oc14, od14, .func (PySem.W.fnOf "_is_row" "_is_row" (defArgs s_is_row) (defBody s_is_row) (defScope s_is_row) .none kV14 dc14 pm14 an14 cd14 ct14), sl14⟩) (c14 : PySem.W.codeIn K cd14 "_is_row" = true) (k14 : PySem.W.keepIn K (.ref f14) = true)
    (a15 : PySem.W.nsIn K mainGlobals "_judged_rows" = some (some (.ref f15))) (l15 : K.lookup f15 = some ⟨oc15, od15, .func (PySem.W.fnOf "_judged_rows" "_judged_rows" (defArgs s_judged_rows) (defBody s_judged_rows) (defScope s_judged_rows) .none kV15 dc15 pm15 an15 cd15 ct15), sl15⟩) (c15 : PySem.W.codeIn K cd15 "_judged_rows" = true) (k15 : PySem.W.keepIn K (.ref f15) = true)
    (a16 : PySem.W.nsIn K mainGlobals "_judged_pen" = some (some (.ref f16))) (l16 : K.lookup f16 = some ⟨oc16, od16, .func (PySem.W.fnOf "_judged_pen" "_judged_pen" (defArgs s_judged_pen) (defBody s_judged_pen) (defScope s_judged_pen) .none kV16 dc16 pm16 an16 cd16 ct16), sl16⟩) (c16 : PySem.W.codeIn K cd16 "_judged_pen" = true) (k16 : PySem.W.keepIn K (.ref f16) = true)
    (a17 : PySem.W.nsIn K mainGlobals "_kept_strokes" = some (some (.ref f17))) (l17 : K.lookup f17 = some ⟨oc17, od17, .func (PySem.W.fnOf "_kept_strokes" "_kept_strokes" (defArgs s_kept_strokes) (defBody s_kept_strokes) (defScope s_kept_strokes) .none kV17 dc17 pm17 an17 cd17 ct17), sl17⟩) (c17 : PySem.W.codeIn K cd17 "_kept_strokes" = true) (k17 : PySem.W.keepIn K (.ref f17) = true)
    (a18 : PySem.W.nsIn K mainGlobals "_is_stroke" = some (some (.ref f18))) (l18 : K.lookup f18 = some ⟨oc18, od18, .func (PySem.W.fnOf "_is_stroke" "_is_stroke" (defArgs s_is_stroke) (defBody s_is_stroke) (defScope s_is_stroke) .none kV18 dc18 pm18 an18 cd18 ct18), sl18⟩) (c18 : PySem.W.codeIn K cd18 "_is_stroke" = true) (k18 : PySem.W.keepIn K (.ref f18) = true)
    (a19 : PySem.W.nsIn K mainGlobals "_is_place" = some (some (.ref f19))) (l19 : K.lookup f19 = some ⟨oc19, od19, .func (PySem.W.fnOf "_is_place" "_is_place" (defArgs s_is_place) (defBody s_is_place) (defScope s_is_place) .none kV19 dc19 pm19 an19 cd19 ct19), sl19⟩) (c19 : PySem.W.codeIn K cd19 "_is_place" = true) (k19 : PySem.W.keepIn K (.ref f19) = true)
    (a20 : PySem.W.findIn K (.ref C_Book) "__init__" = some (some (.ref f20))) (l20 : K.lookup f20 = some ⟨oc20, od20, .func (PySem.W.fnOf "__init__" "Book.__init__" (defArgs s_Book_init) (defBody s_Book_init) (defScope s_Book_init) .none kV20 dc20 pm20 an20 cd20 ct20), sl20⟩) (c20 : PySem.W.codeIn K cd20 "Book.__init__" = true) (k20 : PySem.W.keepIn K (.ref f20) = true)
    (a21 : PySem.W.findIn K (.ref C_Book) "__iter__" = some (some (.ref f21))) (l21 : K.lookup f21 = some ⟨oc21, od21, .func (PySem.W.fnOf "__iter__" "Book.__iter__" (defArgs s_Book_iter) (defBody s_Book_iter) (defScope s_Book_iter) .none kV21 dc21 pm21 an21 cd21 ct21), sl21⟩) (c21 : PySem.W.codeIn K cd21 "Book.__iter__" = true) (k21 : PySem.W.keepIn K (.ref f21) = true)
    (a22 : PySem.W.nsIn K mainGlobals "_judged_leaves" = some (some (.ref f22))) (l22 : K.lookup f22 = some ⟨oc22, od22, .func (PySem.W.fnOf "_judged_leaves" "_judged_leaves" (defArgs s_judged_leaves) (defBody s_judged_leaves) (defScope s_judged_leaves) .none kV22 dc22 pm22 an22 cd22 ct22), sl22⟩) (c22 : PySem.W.codeIn K cd22 "_judged_leaves" = true) (k22 : PySem.W.keepIn K (.ref f22) = true)
    (a23 : PySem.W.nsIn K mainGlobals "_law_source" = some (some (.ref f23))) (l23 : K.lookup f23 = some ⟨oc23, od23, .func (PySem.W.fnOf "_law_source" "_law_source" (defArgs s_source) (defBody s_source) (defScope s_source) .none kV23 dc23 pm23 an23 cd23 ct23), sl23⟩) (c23 : PySem.W.codeIn K cd23 "_law_source" = true) (k23 : PySem.W.keepIn K (.ref f23) = true)
    (a24 : PySem.W.nsIn K mainGlobals "_law_pick" = some (some (.ref f24))) (l24 : K.lookup f24 = some ⟨oc24, od24, .func (PySem.W.fnOf "_law_pick" "_law_pick" (defArgs s_pick) (defBody s_pick) (defScope s_pick) .none kV24 dc24 pm24 an24 cd24 ct24), sl24⟩) (c24 : PySem.W.codeIn K cd24 "_law_pick" = true) (k24 : PySem.W.keepIn K (.ref f24) = true)
    (a25 : PySem.W.nsIn K mainGlobals "_law_is_integer" = some (some (.ref f25))) (l25 : K.lookup f25 = some ⟨oc25, od25, .func (PySem.W.fnOf "_law_is_integer" "_law_is_integer" (defArgs s_law_is_integer) (defBody s_law_is_integer) (defScope s_law_is_integer) .none kV25 dc25 pm25 an25 cd25 ct25), sl25⟩) (c25 : PySem.W.codeIn K cd25 "_law_is_integer" = true) (k25 : PySem.W.keepIn K (.ref f25) = true)
    (a26 : PySem.W.nsIn K mainGlobals "_law_all_pages" = some (some (.ref f26))) (l26 : K.lookup f26 = some ⟨oc26, od26, .func (PySem.W.fnOf "_law_all_pages" "_law_all_pages" (defArgs s_all_pages) (defBody s_all_pages) (defScope s_all_pages) .none kV26 dc26 pm26 an26 cd26 ct26), sl26⟩) (c26 : PySem.W.codeIn K cd26 "_law_all_pages" = true) (k26 : PySem.W.keepIn K (.ref f26) = true)
    (a27 : PySem.W.nsIn K mainGlobals "_law_told_pages" = some (some (.ref f27))) (l27 : K.lookup f27 = some ⟨oc27, od27, .func (PySem.W.fnOf "_law_told_pages" "_law_told_pages" (defArgs s_told_pages) (defBody s_told_pages) (defScope s_told_pages) .none kV27 dc27 pm27 an27 cd27 ct27), sl27⟩) (c27 : PySem.W.codeIn K cd27 "_law_told_pages" = true) (k27 : PySem.W.keepIn K (.ref f27) = true)
    (a28 : PySem.W.nsIn K mainGlobals "_law_as_lists" = some (some (.ref f28))) (l28 : K.lookup f28 = some ⟨oc28, od28, .func (PySem.W.fnOf "_law_as_lists" "_law_as_lists" (defArgs s_as_lists) (defBody s_as_lists) (defScope s_as_lists) .none kV28 dc28 pm28 an28 cd28 ct28), sl28⟩) (c28 : PySem.W.codeIn K cd28 "_law_as_lists" = true) (k28 : PySem.W.keepIn K (.ref f28) = true)
    (a29 : PySem.W.nsIn K mainGlobals "_law_label" = some (some (.ref f29))) (l29 : K.lookup f29 = some ⟨oc29, od29, .func (PySem.W.fnOf "_law_label" "_law_label" (defArgs s_label) (defBody s_label) (defScope s_label) .none kV29 dc29 pm29 an29 cd29 ct29), sl29⟩) (c29 : PySem.W.codeIn K cd29 "_law_label" = true) (k29 : PySem.W.keepIn K (.ref f29) = true)
    (a30 : PySem.W.nsIn K mainGlobals "_law_labels" = some (some (.ref f30))) (l30 : K.lookup f30 = some ⟨oc30, od30, .func (PySem.W.fnOf "_law_labels" "_law_labels" (defArgs s_labels) (defBody s_labels) (defScope s_labels) .none kV30 dc30 pm30 an30 cd30 ct30), sl30⟩) (c30 : PySem.W.codeIn K cd30 "_law_labels" = true) (k30 : PySem.W.keepIn K (.ref f30) = true)
    (a31 : PySem.W.nsIn K mainGlobals "_law_side" = some (some (.ref f31))) (l31 : K.lookup f31 = some ⟨oc31, od31, .func (PySem.W.fnOf "_law_side" "_law_side" (defArgs s_side) (defBody s_side) (defScope s_side) .none kV31 dc31 pm31 an31 cd31 ct31), sl31⟩) (c31 : PySem.W.codeIn K cd31 "_law_side" = true) (k31 : PySem.W.keepIn K (.ref f31) = true)
    (a32 : PySem.W.nsIn K mainGlobals "_law_leaves" = some (some (.ref f32))) (l32 : K.lookup f32 = some ⟨oc32, od32, .func (PySem.W.fnOf "_law_leaves" "_law_leaves" (defArgs s_leaves) (defBody s_leaves) (defScope s_leaves) .none kV32 dc32 pm32 an32 cd32 ct32), sl32⟩) (c32 : PySem.W.codeIn K cd32 "_law_leaves" = true) (k32 : PySem.W.keepIn K (.ref f32) = true)
    (a33 : PySem.W.nsIn K mainGlobals "_law_changed" = some (some (.ref f33))) (l33 : K.lookup f33 = some ⟨oc33, od33, .func (PySem.W.fnOf "_law_changed" "_law_changed" (defArgs s_changed) (defBody s_changed) (defScope s_changed) .none kV33 dc33 pm33 an33 cd33 ct33), sl33⟩) (c33 : PySem.W.codeIn K cd33 "_law_changed" = true) (k33 : PySem.W.keepIn K (.ref f33) = true)
    (a34 : PySem.W.nsIn K mainGlobals "_law_made" = some (some (.ref f34))) (l34 : K.lookup f34 = some ⟨oc34, od34, .func (PySem.W.fnOf "_law_made" "_law_made" (defArgs s_made) (defBody s_made) (defScope s_made) .none kV34 dc34 pm34 an34 cd34 ct34), sl34⟩) (c34 : PySem.W.codeIn K cd34 "_law_made" = true) (k34 : PySem.W.keepIn K (.ref f34) = true)
    (a35 : PySem.W.nsIn K mainGlobals "_law_with_rows" = some (some (.ref f35))) (l35 : K.lookup f35 = some ⟨oc35, od35, .func (PySem.W.fnOf "_law_with_rows" "_law_with_rows" (defArgs s_with_rows) (defBody s_with_rows) (defScope s_with_rows) .none kV35 dc35 pm35 an35 cd35 ct35), sl35⟩) (c35 : PySem.W.codeIn K cd35 "_law_with_rows" = true) (k35 : PySem.W.keepIn K (.ref f35) = true)
    (a36 : PySem.W.nsIn K mainGlobals "_law_stranger" = some (some (.ref f36))) (l36 : K.lookup f36 = some ⟨oc36, od36, .func (PySem.W.fnOf "_law_stranger" "_law_stranger" (defArgs s_stranger) (defBody s_stranger) (defScope s_stranger) .none kV36 dc36 pm36 an36 cd36 ct36), sl36⟩) (c36 : PySem.W.codeIn K cd36 "_law_stranger" = true) (k36 : PySem.W.keepIn K (.ref f36) = true)
    (a37 : PySem.W.nsIn K mainGlobals "_law_truths" = some (some (.ref f37))) (l37 : K.lookup f37 = some ⟨oc37, od37, .func (PySem.W.fnOf "_law_truths" "_law_truths" (defArgs s_truths) (defBody s_truths) (defScope s_truths) .none kV37 dc37 pm37 an37 cd37 ct37), sl37⟩) (c37 : PySem.W.codeIn K cd37 "_law_truths" = true) (k37 : PySem.W.keepIn K (.ref f37) = true)
    (a38 : PySem.W.nsIn K mainGlobals "_law_bad_pages" = some (some (.ref f38))) (l38 : K.lookup f38 = some ⟨oc38, od38, .func (PySem.W.fnOf "_law_bad_pages" "_law_bad_pages" (defArgs s_bad_pages) (defBody s_bad_pages) (defScope s_bad_pages) .none kV38 dc38 pm38 an38 cd38 ct38), sl38⟩) (c38 : PySem.W.codeIn K cd38 "_law_bad_pages" = true) (k38 : PySem.W.keepIn K (.ref f38) = true)
    (a39 : PySem.W.nsIn K mainGlobals "_law_refused" = some (some (.ref f39))) (l39 : K.lookup f39 = some ⟨oc39, od39, .func (PySem.W.fnOf "_law_refused" "_law_refused" (defArgs s_refused) (defBody s_refused) (defScope s_refused) .none kV39 dc39 pm39 an39 cd39 ct39), sl39⟩) (c39 : PySem.W.codeIn K cd39 "_law_refused" = true) (k39 : PySem.W.keepIn K (.ref f39) = true)
    (a40 : PySem.W.nsIn K mainGlobals "_law_is_page" = some (some (.ref f40))) (l40 : K.lookup f40 = some ⟨oc40, od40, .func (PySem.W.fnOf "_law_is_page" "_law_is_page" (defArgs s_is_page) (defBody s_is_page) (defScope s_is_page) .none kV40 dc40 pm40 an40 cd40 ct40), sl40⟩) (c40 : PySem.W.codeIn K cd40 "_law_is_page" = true) (k40 : PySem.W.keepIn K (.ref f40) = true)
    (a41 : PySem.W.nsIn K mainGlobals "_law_walked" = some (some (.ref f41))) (l41 : K.lookup f41 = some ⟨oc41, od41, .func (PySem.W.fnOf "_law_walked" "_law_walked" (defArgs s_walked) (defBody s_walked) (defScope s_walked) .none kV41 dc41 pm41 an41 cd41 ct41), sl41⟩) (c41 : PySem.W.codeIn K cd41 "_law_walked" = true) (k41 : PySem.W.keepIn K (.ref f41) = true)
    (a42 : PySem.W.nsIn K mainGlobals "_law_masks" = some (some (.ref f42))) (l42 : K.lookup f42 = some ⟨oc42, od42, .func (PySem.W.fnOf "_law_masks" "_law_masks" (defArgs s_masks) (defBody s_masks) (defScope s_masks) .none kV42 dc42 pm42 an42 cd42 ct42), sl42⟩) (c42 : PySem.W.codeIn K cd42 "_law_masks" = true) (k42 : PySem.W.keepIn K (.ref f42) = true)
    (a43 : PySem.W.nsIn K mainGlobals "_law_fewer_tell" = some (some (.ref f43))) (l43 : K.lookup f43 = some ⟨oc43, od43, .func (PySem.W.fnOf "_law_fewer_tell" "_law_fewer_tell" (defArgs s_fewer_tell) (defBody s_fewer_tell) (defScope s_fewer_tell) .none kV43 dc43 pm43 an43 cd43 ct43), sl43⟩) (c43 : PySem.W.codeIn K cd43 "_law_fewer_tell" = true) (k43 : PySem.W.keepIn K (.ref f43) = true)
    (a44 : PySem.W.nsIn K mainGlobals "law" = some (some (.ref f44))) (l44 : K.lookup f44 = some ⟨oc44, od44, .func (PySem.W.fnOf "law" "law" (defArgs s_law) (defBody s_law) (defScope s_law) .none kV44 dc44 pm44 an44 cd44 ct44), sl44⟩) (c44 : PySem.W.codeIn K cd44 "law" = true) (k44 : PySem.W.keepIn K (.ref f44) = true)
    {t_LONGEST_ROW : Tok} (v_LONGEST_ROW : PySem.W.nsIn K mainGlobals "LONGEST_ROW" = some (some (.int 120 t_LONGEST_ROW)))
    {t_MOST_LEAVES : Tok} (v_MOST_LEAVES : PySem.W.nsIn K mainGlobals "MOST_LEAVES" = some (some (.int 60 t_MOST_LEAVES)))
    {t_MOST_PARTS : Tok} (v_MOST_PARTS : PySem.W.nsIn K mainGlobals "MOST_PARTS" = some (some (.int 3 t_MOST_PARTS)))
    {t_MOST_ROWS : Tok} (v_MOST_ROWS : PySem.W.nsIn K mainGlobals "MOST_ROWS" = some (some (.int 12 t_MOST_ROWS)))
    {t_MOST_SIGNS : Tok} (v_MOST_SIGNS : PySem.W.nsIn K mainGlobals "MOST_SIGNS" = some (some (.int 20 t_MOST_SIGNS)))
    {t_MOST_TOKENS : Tok} (v_MOST_TOKENS : PySem.W.nsIn K mainGlobals "MOST_TOKENS" = some (some (.int 30 t_MOST_TOKENS)))
    (z_abs : PySem.W.nsIn K mainGlobals "abs" = some none)
    (z_all : PySem.W.nsIn K mainGlobals "all" = some none)
    (z_bool : PySem.W.nsIn K mainGlobals "bool" = some none)
    (z_enumerate : PySem.W.nsIn K mainGlobals "enumerate" = some none)
    (z_int : PySem.W.nsIn K mainGlobals "int" = some none)
    (z_isinstance : PySem.W.nsIn K mainGlobals "isinstance" = some none)
    (z_iter : PySem.W.nsIn K mainGlobals "iter" = some none)
    (z_len : PySem.W.nsIn K mainGlobals "len" = some none)
    (z_list : PySem.W.nsIn K mainGlobals "list" = some none)
    (z_max : PySem.W.nsIn K mainGlobals "max" = some none)
    (z_min : PySem.W.nsIn K mainGlobals "min" = some none)
    (z_range : PySem.W.nsIn K mainGlobals "range" = some none)
    (z_sorted : PySem.W.nsIn K mainGlobals "sorted" = some none)
    (z_str : PySem.W.nsIn K mainGlobals "str" = some none)
    (z_sum : PySem.W.nsIn K mainGlobals "sum" = some none)
    (z_tuple : PySem.W.nsIn K mainGlobals "tuple" = some none)
    (z_zip : PySem.W.nsIn K mainGlobals "zip" = some none)
    (h_cg_Book : PySem.W.nsIn K mainGlobals "Book" = some (some (.ref C_Book)))
    (h_cg_Leaf : PySem.W.nsIn K mainGlobals "Leaf" = some (some (.ref C_Leaf)))
    (h_cg_AfterError : PySem.W.nsIn K mainGlobals "AfterError" = some (some (.ref C_AfterError)))
    (h_cg_BadForm : PySem.W.nsIn K mainGlobals "BadForm" = some (some (.ref C_BadForm)))
    (h_cg_NotThere : PySem.W.nsIn K mainGlobals "NotThere" = some (some (.ref C_NotThere)))
    (h_cg_BadPages : PySem.W.nsIn K mainGlobals "BadPages" = some (some (.ref C_BadPages)))
    (h_x_BadPages : PySem.W.excIn K C_BadPages [.type "ValueError", .type "Exception", .type "BaseException", .type "object"] "ValueError.__new__" = true)
    (h_k_BadPages : PySem.W.keepIn K (.ref C_BadPages) = true)
    (h_t_BadPages : PySem.W.typeIn K (.ref C_BadPages) = some (.type "type"))
    (h_hg_BadPages : PySem.W.findIn K (.ref C_BadPages) "__getattribute__" = some (some (.builtin "BaseException.__getattribute__")))
    (h_hk_BadPages : PySem.W.findIn K (.ref C_BadPages) "__getattr__" = some none)
    (h_hs_BadPages : PySem.W.subIn K (.ref C_BadPages) (.type "BaseException") = some true)
    (h_hd_BadPages : PySem.W.hasDictIn K C_BadPages = true)
    (h_ha_BadPages : PySem.W.findIn K (.ref C_BadPages) "__class__" = some (some (.builtin "object.__class__")))
    (h_hn_BadPages : PySem.W.specialIn K (.builtin "object.__class__") "__get__" = some (some (.builtin "getset_descriptor.__get__")))
    (h_ht_BadPages : PySem.W.takesIn K (.builtin "object.__class__") = some true)
    (h_hm_BadPages : PySem.W.mroIn K C_BadPages (.type "object") = some true)
    (h_ms_Leaf : PySem.W.makesIn K C_Leaf = true)
    (h_kc_Leaf : PySem.W.keepIn K (.ref C_Leaf) = true)
    (h_ca_Leaf : PySem.W.findIn K (.ref C_Leaf) "__class__" = some (some (.builtin "object.__class__")))
    (h_cn_Leaf : PySem.W.specialIn K (.builtin "object.__class__") "__get__" = some (some (.builtin "getset_descriptor.__get__")))
    (h_ct_Leaf : PySem.W.takesIn K (.builtin "object.__class__") = some true)
    (h_cm_Leaf : PySem.W.mroIn K C_Leaf (.type "object") = some true)
    (h_ic_Leaf : PySem.W.isClsIn K C_Leaf = true)
    (h_tc_Leaf : PySem.W.typeIn K (.ref C_Leaf) = some (.type "type"))
    (h_na_Leaf_label : PySem.W.findIn K (.ref C_Leaf) "label" = some none)
    (h_na_Leaf_front : PySem.W.findIn K (.ref C_Leaf) "front" = some none)
    (h_na_Leaf_back : PySem.W.findIn K (.ref C_Leaf) "back" = some none)
    (h_na_Leaf_pen : PySem.W.findIn K (.ref C_Leaf) "pen" = some none)
    (h_na_Leaf__strokes : PySem.W.findIn K (.ref C_Leaf) "_strokes" = some none)
    (h_ms_Book : PySem.W.makesIn K C_Book = true)
    (h_kc_Book : PySem.W.keepIn K (.ref C_Book) = true)
    (h_ca_Book : PySem.W.findIn K (.ref C_Book) "__class__" = some (some (.builtin "object.__class__")))
    (h_cn_Book : PySem.W.specialIn K (.builtin "object.__class__") "__get__" = some (some (.builtin "getset_descriptor.__get__")))
    (h_ct_Book : PySem.W.takesIn K (.builtin "object.__class__") = some true)
    (h_cm_Book : PySem.W.mroIn K C_Book (.type "object") = some true)
    (h_ic_Book : PySem.W.isClsIn K C_Book = true)
    (h_tc_Book : PySem.W.typeIn K (.ref C_Book) = some (.type "type"))
    (h_na_Book_leaves : PySem.W.findIn K (.ref C_Book) "leaves" = some none)
    (h_na_Book__spots : PySem.W.findIn K (.ref C_Book) "_spots" = some none)
    (h_fn_Leaf_init : PySem.W.isFn K (.ref f11) = true)
    (h_fn_Leaf_side_rows : PySem.W.isFn K (.ref f12) = true)
    (h_fn_Book_init : PySem.W.isFn K (.ref f20) = true)
    (h_fn_Book_iter : PySem.W.isFn K (.ref f21) = true)
    (h_q_BadPages_AfterError : PySem.W.subIn K (.ref C_BadPages) (.ref C_AfterError) = some true)
    (h_q_BadPages_BadForm : PySem.W.subIn K (.ref C_BadPages) (.ref C_BadForm) = some true)
    (h_q_BadPages_NotThere : PySem.W.subIn K (.ref C_BadPages) (.ref C_NotThere) = some false)
    (h_e_BadPages_BadPages : PySem.W.subIn K (.ref C_BadPages) (.ref C_BadPages) = some true)
    (pg_Leaf : PySem.W.plainGet K C_Leaf Str.empty = true)
    (hd_Leaf : PySem.W.hasDictIn K C_Leaf = true)
    (po_Leaf : PySem.W.plainOver K C_Leaf = true)
    (sa_Leaf : PySem.W.findIn K (.ref C_Leaf) "__setattr__" = some (some (.builtin "object.__setattr__")))
    (pg_Book : PySem.W.plainGet K C_Book Str.empty = true)
    (hd_Book : PySem.W.hasDictIn K C_Book = true)
    (po_Book : PySem.W.plainOver K C_Book = true)
    (sa_Book : PySem.W.findIn K (.ref C_Book) "__setattr__" = some (some (.builtin "object.__setattr__")))
    (ic_AfterError : PySem.W.isClsIn K C_AfterError = true)
    (tc_AfterError : PySem.W.typeIn K (.ref C_AfterError) = some (.type "type"))
    (sc_AfterError : PySem.W.subIn K (.ref C_AfterError) (.type "BaseException") = some true)
    (dc_AfterError : PySem.W.hasDictIn K C_AfterError = true)
    (ic_BadForm : PySem.W.isClsIn K C_BadForm = true)
    (tc_BadForm : PySem.W.typeIn K (.ref C_BadForm) = some (.type "type"))
    (sc_BadForm : PySem.W.subIn K (.ref C_BadForm) (.type "BaseException") = some true)
    (dc_BadForm : PySem.W.hasDictIn K C_BadForm = true)
    (ic_NotThere : PySem.W.isClsIn K C_NotThere = true)
    (tc_NotThere : PySem.W.typeIn K (.ref C_NotThere) = some (.type "type"))
    (sc_NotThere : PySem.W.subIn K (.ref C_NotThere) (.type "BaseException") = some true)
    (dc_NotThere : PySem.W.hasDictIn K C_NotThere = true)
    (ic_BadPages : PySem.W.isClsIn K C_BadPages = true)
    (tc_BadPages : PySem.W.typeIn K (.ref C_BadPages) = some (.type "type"))
    (sc_BadPages : PySem.W.subIn K (.ref C_BadPages) (.type "BaseException") = some true)
    (dc_BadPages : PySem.W.hasDictIn K C_BadPages = true)
    (ne_BadPages_NotThere : C_BadPages ≠ C_NotThere)
    : ∃ fd : FuncData, (∀ (s : Shared) (v : Value), BindsTo s fd ⟨[v], []⟩ [("_law_script", v)]) ∧ ∀ base : Heap, K.In base → base.Ns mainGlobals mg → FnOk l.prog w K mg base CX0 9 fa fd ["_law_script"] (sp_law K) := by
  have e := hfa.symm.trans (PySem.W.mg_of X G a44)
  cases e
  have F0 := fun_mk (st := s_wall) l0 c0 k0
  have b0 := F0.binds (ps := ["k"]) fun _ _ _ _ _ _ us hl => match us, hl with | [_], _ => rfl
  have F1 := fun_mk (st := s_is_integer) l1 c1 k1
  have b1 := F1.binds (ps := ["thing"]) fun _ _ _ _ _ _ us hl => match us, hl with | [_], _ => rfl
  have F2 := fun_mk (st := s_is_within) l2 c2 k2
  have b2 := F2.binds (ps := ["thing", "least", "most"]) fun _ _ _ _ _ _ us hl => match us, hl with | [_, _, _], _ => rfl
  have F3 := fun_mk (st := s_is_tuple) l3 c3 k3
  have b3 := F3.binds (ps := ["thing"]) fun _ _ _ _ _ _ us hl => match us, hl with | [_], _ => rfl
  have F4 := fun_mk (st := s_is_sized) l4 c4 k4
  have b4 := F4.binds (ps := ["thing", "least", "most"]) fun _ _ _ _ _ _ us hl => match us, hl with | [_, _, _], _ => rfl
  have F5 := fun_mk (st := s_kept_label) l5 c5 k5
  have b5 := F5.binds (ps := ["thing"]) fun _ _ _ _ _ _ us hl => match us, hl with | [_], _ => rfl
  have F6 := fun_mk (st := s_judged_label) l6 c6 k6
  have b6 := F6.binds (ps := ["thing"]) fun _ _ _ _ _ _ us hl => match us, hl with | [_], _ => rfl
  have F7 := fun_mk (st := s_kept_page) l7 c7 k7
  have b7 := F7.binds (ps := ["thing"]) fun _ _ _ _ _ _ us hl => match us, hl with | [_], _ => rfl
  have F8 := fun_mk (st := s_preferred_ranges) l8 c8 k8
  have b8 := F8.binds (ps := ["book", "pages"]) fun _ _ _ _ _ _ us hl => match us, hl with | [_, _], _ => rfl
  have F9 := fun_mk (st := s_judged_pages) l9 c9 k9
  have b9 := F9.binds (ps := ["book", "pages"]) fun _ _ _ _ _ _ us hl => match us, hl with | [_, _], _ => rfl
  have F10 := fun_mk (st := s_shown_pages) l10 c10 k10
  have b10 := F10.binds (ps := ["book"]) fun _ _ _ _ _ _ us hl => match us, hl with | [_], _ => rfl
  have F11 : FunD K "__init__" "Leaf.__init__" (defArgs s_Leaf_init) (defBody s_Leaf_init) (defScope s_Leaf_init) [V.ref eP0] [] f11 _ := ⟨⟨_, _, .ref tT11, _, _, _, _, _, _, _, rfl, l11, c11, .inr ⟨by simp, tT11, _, [Value.ref eP0], _, rfl, lt11, rfl, .cons rfl .nil⟩, .inl rfl⟩, k11⟩
  have b11 := leaf_b5 F11
  have F12 := fun_mk (st := s_Leaf_side_rows) l12 c12 k12
  have b12 := F12.binds (ps := ["self", "side"]) fun _ _ _ _ _ _ us hl => match us, hl with | [_, _], _ => rfl
  have F13 := fun_mk (st := s_is_token) l13 c13 k13
  have b13 := F13.binds (ps := ["thing"]) fun _ _ _ _ _ _ us hl => match us, hl with | [_], _ => rfl
  have F14 := fun_mk (st := s_is_row) l14 c14 k14
  have b14 := F14.binds (ps := ["thing"]) fun _ _ _ _ _ _ us hl => match us, hl with | [_], _ => rfl
  have F15 := fun_mk (st := s_judged_rows) l15 c15 k15
  have b15 := F15.binds (ps := ["rows", "least", "side"]) fun _ _ _ _ _ _ us hl => match us, hl with | [_, _, _], _ => rfl
  have F16 := fun_mk (st := s_judged_pen) l16 c16 k16
  have b16 := F16.binds (ps := ["front", "back", "pen"]) fun _ _ _ _ _ _ us hl => match us, hl with | [_, _, _], _ => rfl
  have F17 := fun_mk (st := s_kept_strokes) l17 c17 k17
  have b17 := F17.binds (ps := ["strokes"]) fun _ _ _ _ _ _ us hl => match us, hl with | [_], _ => rfl
  have F18 := fun_mk (st := s_is_stroke) l18 c18 k18
  have b18 := F18.binds (ps := ["thing"]) fun _ _ _ _ _ _ us hl => match us, hl with | [_], _ => rfl
  have F19 := fun_mk (st := s_is_place) l19 c19 k19
  have b19 := F19.binds (ps := ["front", "back", "place"]) fun _ _ _ _ _ _ us hl => match us, hl with | [_, _, _], _ => rfl
  have F20 := fun_mk (st := s_Book_init) l20 c20 k20
  have b20 := F20.binds (ps := ["self", "leaves"]) fun _ _ _ _ _ _ us hl => match us, hl with | [_, _], _ => rfl
  have F21 := fun_mk (st := s_Book_iter) l21 c21 k21
  have b21 := F21.binds (ps := ["self"]) fun _ _ _ _ _ _ us hl => match us, hl with | [_], _ => rfl
  have F22 := fun_mk (st := s_judged_leaves) l22 c22 k22
  have b22 := F22.binds (ps := ["leaves"]) fun _ _ _ _ _ _ us hl => match us, hl with | [_], _ => rfl
  have F23 := fun_mk (st := s_source) l23 c23 k23
  have b23 := F23.binds (ps := ["_law_script", "_law_k"]) fun _ _ _ _ _ _ us hl => match us, hl with | [_, _], _ => rfl
  have F24 := fun_mk (st := s_pick) l24 c24 k24
  have b24 := F24.binds (ps := ["_law_source_here", "_law_many"]) fun _ _ _ _ _ _ us hl => match us, hl with | [_, _], _ => rfl
  have F25 := fun_mk (st := s_law_is_integer) l25 c25 k25
  have b25 := F25.binds (ps := ["_law_actual"]) fun _ _ _ _ _ _ us hl => match us, hl with | [_], _ => rfl
  have F26 := fun_mk (st := s_all_pages) l26 c26 k26
  have b26 := F26.binds (ps := ["_law_leaves_here"]) fun _ _ _ _ _ _ us hl => match us, hl with | [_], _ => rfl
  have F27 := fun_mk (st := s_told_pages) l27 c27 k27
  have b27 := F27.binds (ps := ["_law_leaves_here", "_law_pairs"]) fun _ _ _ _ _ _ us hl => match us, hl with | [_, _], _ => rfl
  have F28 := fun_mk (st := s_as_lists) l28 c28 k28
  have b28 := F28.binds (ps := ["_law_thing"]) fun _ _ _ _ _ _ us hl => match us, hl with | [_], _ => rfl
  have F29 := fun_mk (st := s_label) l29 c29 k29
  have b29 := F29.binds (ps := ["_law_source_here", "_law_most"]) fun _ _ _ _ _ _ us hl => match us, hl with | [_, _], _ => rfl
  have F30 := fun_mk (st := s_labels) l30 c30 k30
  have b30 := F30.binds (ps := ["_law_source_here"]) fun _ _ _ _ _ _ us hl => match us, hl with | [_], _ => rfl
  have F31 := fun_mk (st := s_side) l31 c31 k31
  have b31 := F31.binds (ps := ["_law_source_here"]) fun _ _ _ _ _ _ us hl => match us, hl with | [_], _ => rfl
  have F32 := fun_mk (st := s_leaves) l32 c32 k32
  have b32 := F32.binds (ps := ["_law_source_here"]) fun _ _ _ _ _ _ us hl => match us, hl with | [_], _ => rfl
  have F33 := fun_mk (st := s_changed) l33 c33 k33
  have b33 := F33.binds (ps := ["_law_source_here", "_law_leaves_here"]) fun _ _ _ _ _ _ us hl => match us, hl with | [_, _], _ => rfl
  have F34 := fun_mk (st := s_made) l34 c34 k34
  have b34 := F34.binds (ps := ["_law_leaves_here"]) fun _ _ _ _ _ _ us hl => match us, hl with | [_], _ => rfl
  have F35 := fun_mk (st := s_with_rows) l35 c35 k35
  have b35 := F35.binds (ps := ["_law_leaves_here"]) fun _ _ _ _ _ _ us hl => match us, hl with | [_], _ => rfl
  have F36 := fun_mk (st := s_stranger) l36 c36 k36
  have b36 := F36.binds (ps := ["_law_leaves_here"]) fun _ _ _ _ _ _ us hl => match us, hl with | [_], _ => rfl
  have F37 := fun_mk (st := s_truths) l37 c37 k37
  have b37 := F37.binds (ps := ["_law_label_here"]) fun _ _ _ _ _ _ us hl => match us, hl with | [_], _ => rfl
  have F38 := fun_mk (st := s_bad_pages) l38 c38 k38
  have b38 := F38.binds (ps := ["_law_source_here", "_law_leaves_here", "_law_pages"]) fun _ _ _ _ _ _ us hl => match us, hl with | [_, _, _], _ => rfl
  have F39 := fun_mk (st := s_refused) l39 c39 k39
  have b39 := F39.binds (ps := ["_law_book", "_law_pages"]) fun _ _ _ _ _ _ us hl => match us, hl with | [_, _], _ => rfl
  have F40 := fun_mk (st := s_is_page) l40 c40 k40
  have b40 := F40.binds (ps := ["_law_thing"]) fun _ _ _ _ _ _ us hl => match us, hl with | [_], _ => rfl
  have F41 := fun_mk (st := s_walked) l41 c41 k41
  have b41 := F41.binds (ps := ["_law_leaves_here", "_law_pages", "_law_told"]) fun _ _ _ _ _ _ us hl => match us, hl with | [_, _, _], _ => rfl
  have F42 := fun_mk (st := s_masks) l42 c42 k42
  have b42 := F42.binds (ps := ["_law_leaves_here", "_law_pages"]) fun _ _ _ _ _ _ us hl => match us, hl with | [_, _], _ => rfl
  have F43 := fun_mk (st := s_fewer_tell) l43 c43 k43
  have b43 := F43.binds (ps := ["_law_leaves_here", "_law_pages", "_law_many"]) fun _ _ _ _ _ _ us hl => match us, hl with | [_, _, _], _ => rfl
  have F44 := fun_mk (st := s_law) l44 c44 k44
  have b44 := F44.binds (ps := ["_law_script"]) fun _ _ _ _ _ _ us hl => match us, hl with | [_], _ => rfl
  let T : Tab K mg := ⟨C_AfterError, C_BadForm, C_NotThere, C_BadPages, C_Leaf, C_Book, _, _, F0, b0, PySem.W.mg_of X G a0, _, _, F1, b1, PySem.W.mg_of X G a1, _, _, F2, b2, PySem.W.mg_of X G a2, _, _, F3, b3, PySem.W.mg_of X G a3, _, _, F4, b4, PySem.W.mg_of X G a4, _, _, F5, b5, PySem.W.mg_of X G a5, _, _, F6, b6, PySem.W.mg_of X G a6, _, _, F7, b7, PySem.W.mg_of X G a7, _, _, F8, b8, PySem.W.mg_of X G a8, _, _, F9, b9, PySem.W.mg_of X G a9, _, _, F10, b10, PySem.W.mg_of X G a10, eP0, fun H => written_nil le0, _, _, F11, b11, a11, leaf_b4 F11, _, _, F12, b12, a12, _, _, F13, b13, PySem.W.mg_of X G a13, _, _, F14, b14, PySem.W.mg_of X G a14, _, _, F15, b15, PySem.W.mg_of X G a15, _, _, F16, b16, PySem.W.mg_of X G a16, _, _, F17, b17, PySem.W.mg_of X G a17, _, _, F18, b18, PySem.W.mg_of X G a18, _, _, F19, b19, PySem.W.mg_of X G a19, _, _, F20, b20, a20, _, _, F21, b21, a21, _, _, F22, b22, PySem.W.mg_of X G a22, _, _, F23, b23, PySem.W.mg_of X G a23, _, _, F24, b24, PySem.W.mg_of X G a24, _, _, F25, b25, PySem.W.mg_of X G a25, _, _, F26, b26, PySem.W.mg_of X G a26, _, _, F27, b27, PySem.W.mg_of X G a27, _, _, F28, b28, PySem.W.mg_of X G a28, _, _, F29, b29, PySem.W.mg_of X G a29, _, _, F30, b30, PySem.W.mg_of X G a30, _, _, F31, b31, PySem.W.mg_of X G a31, _, _, F32, b32, PySem.W.mg_of X G a32, _, _, F33, b33, PySem.W.mg_of X G a33, _, _, F34, b34, PySem.W.mg_of X G a34, _, _, F35, b35, PySem.W.mg_of X G a35, _, _, F36, b36, PySem.W.mg_of X G a36, _, _, F37, b37, PySem.W.mg_of X G a37, _, _, F38, b38, PySem.W.mg_of X G a38, _, _, F39, b39, PySem.W.mg_of X G a39, _, _, F40, b40, PySem.W.mg_of X G a40, _, _, F41, b41, PySem.W.mg_of X G a41, _, _, F42, b42, PySem.W.mg_of X G a42, _, _, F43, b43, PySem.W.mg_of X G a43, _, _, F44, b44, PySem.W.mg_of X G a44, PySem.W.mg_of X G h_cg_Book, PySem.W.mg_of X G h_cg_Leaf, PySem.W.mg_of X G h_cg_AfterError, PySem.W.mg_of X G h_cg_BadForm, PySem.W.mg_of X G h_cg_NotThere, PySem.W.mg_of X G h_cg_BadPages, h_x_BadPages, h_k_BadPages, h_t_BadPages, h_hg_BadPages, h_hk_BadPages, h_hs_BadPages, h_hd_BadPages, h_ha_BadPages, h_hn_BadPages, h_ht_BadPages, h_hm_BadPages, ⟨pg_Leaf, hd_Leaf, po_Leaf, sa_Leaf⟩, h_ms_Leaf, h_kc_Leaf, h_ca_Leaf, h_cn_Leaf, h_ct_Leaf, h_cm_Leaf, h_ic_Leaf, h_tc_Leaf, h_na_Leaf_label, h_na_Leaf_front, h_na_Leaf_back, h_na_Leaf_pen, h_na_Leaf__strokes, ⟨pg_Book, hd_Book, po_Book, sa_Book⟩, h_ms_Book, h_kc_Book, h_ca_Book, h_cn_Book, h_ct_Book, h_cm_Book, h_ic_Book, h_tc_Book, h_na_Book_leaves, h_na_Book__spots, h_fn_Leaf_init, h_fn_Leaf_side_rows, h_fn_Book_init, h_fn_Book_iter, kit_ref ic_AfterError tc_AfterError h_q_BadPages_AfterError (fun _ => rfl), kit_ref ic_BadForm tc_BadForm h_q_BadPages_BadForm (fun _ => rfl), kit_ref ic_NotThere tc_NotThere h_q_BadPages_NotThere (fun z => absurd z ne_BadPages_NotThere), PySem.W.exm_ref sc_BadPages dc_BadPages tc_BadPages h_e_BadPages_BadPages, _, PySem.W.mg_of X G v_LONGEST_ROW, _, PySem.W.mg_of X G v_MOST_LEAVES, _, PySem.W.mg_of X G v_MOST_PARTS, _, PySem.W.mg_of X G v_MOST_ROWS, _, PySem.W.mg_of X G v_MOST_SIGNS, _, PySem.W.mg_of X G v_MOST_TOKENS, PySem.W.mg_none_of X G z_abs, PySem.W.mg_none_of X G z_all, PySem.W.mg_none_of X G z_bool, PySem.W.mg_none_of X G z_enumerate, PySem.W.mg_none_of X G z_int, PySem.W.mg_none_of X G z_isinstance, PySem.W.mg_none_of X G z_iter, PySem.W.mg_none_of X G z_len, PySem.W.mg_none_of X G z_list, PySem.W.mg_none_of X G z_max, PySem.W.mg_none_of X G z_min, PySem.W.mg_none_of X G z_range, PySem.W.mg_none_of X G z_sorted, PySem.W.mg_none_of X G z_str, PySem.W.mg_none_of X G z_sum, PySem.W.mg_none_of X G z_tuple, PySem.W.mg_none_of X G z_zip⟩
  exact ⟨PySem.W.fnOf "law" "law" (defArgs s_law) (defBody s_law) (defScope s_law) .none kV44 dc44 pm44 an44 cd44 ct44, fun s v => .of_eq rfl, fun base _ _ => ok_law T⟩
end K38
open PySem PySem.W PyProof.Rows
set_option maxRecDepth 100000 in
set_option maxHeartbeats 0 in
theorem PySem.Challenge.cw_afterleaves_k38_whole_fewest_ranges_holds : PySem.Challenge.rw_afterleaves_k38_whole_fewest_ranges.Holds := by
  w_on; o_law; k_head; (case hw => w_witness2)
  k_fill
  refine L2.walk_of (l := PySem.Challenge.rw_afterleaves_k38_whole_fewest_ranges) (n := 63) (k := 9) (x := "_law_script") (CX := fun _ => L2.CX0) (sp := fun w => K38.sp_law _) rfl (by decide) rfl ⟨rfl, by decide, by decide⟩ (fun w h Y => PySem.W.kIn_of Y) ?F (fun _ _ a ns hl _ hS => ⟨a, ns, rfl, hS, hl, fun _ => rfl⟩) (fun _ _ _ _ _ h => h)
  case F =>
    intro w mg fa h KX G hmg
    refine' K38.all_mk KX G hmg ?a0 ?l0 ?c0 ?k0 ?a1 ?l1 ?c1 ?k1 ?a2 ?l2 ?c2 ?k2 ?a3 ?l3 ?c3 ?k3 ?a4 ?l4 ?c4 ?k4 ?a5 ?l5 ?c5 ?k5 ?a6 ?l6 ?c6 ?k6 ?a7 ?l7 ?c7 ?k7 ?a8 ?l8 ?c8 ?k8 ?a9 ?l9 ?c9 ?k9 ?a10 ?l10 ?c10 ?k10 ?a11 ?l11 ?c11 ?k11 ?lt11 ?le0 ?a12 ?l12 ?c12 ?k12 ?a13 ?l13 ?c13 ?k13 ?a14 ?l14 ?c14 ?k14 ?a15 ?l15 ?c15 ?k15 ?a16 ?l16 ?c16 ?k16 ?a17 ?l17 ?c17 ?k17 ?a18 ?l18 ?c18 ?k18 ?a19 ?l19 ?c19 ?k19 ?a20 ?l20 ?c20 ?k20 ?a21 ?l21 ?c21 ?k21 ?a22 ?l22 ?c22 ?k22 ?a23 ?l23 ?c23 ?k23 ?a24 ?l24 ?c24 ?k24 ?a25 ?l25 ?c25 ?k25 ?a26 ?l26 ?c26 ?k26 ?a27 ?l27 ?c27 ?k27 ?a28 ?l28 ?c28 ?k28 ?a29 ?l29 ?c29 ?k29 ?a30 ?l30 ?c30 ?k30 ?a31 ?l31 ?c31 ?k31 ?a32 ?l32 ?c32 ?k32 ?a33 ?l33 ?c33 ?k33 ?a34 ?l34 ?c34 ?k34 ?a35 ?l35 ?c35 ?k35 ?a36 ?l36 ?c36 ?k36 ?a37 ?l37 ?c37 ?k37 ?a38 ?l38 ?c38 ?k38 ?a39 ?l39 ?c39 ?k39 ?a40 ?l40 ?c40 ?k40 ?a41 ?l41 ?c41 ?k41 ?a42 ?l42 ?c42 ?k42 ?a43 ?l43 ?c43 ?k43 ?a44 ?l44 ?c44 ?k44 ?v_LONGEST_ROW ?v_MOST_LEAVES ?v_MOST_PARTS ?v_MOST_ROWS ?v_MOST_SIGNS ?v_MOST_TOKENS ?z_abs ?z_all ?z_bool ?z_enumerate ?z_int ?z_isinstance ?z_iter ?z_len ?z_list ?z_max ?z_min ?z_range ?z_sorted ?z_str ?z_sum ?z_tuple ?z_zip ?h_cg_Book ?h_cg_Leaf ?h_cg_AfterError ?h_cg_BadForm ?h_cg_NotThere ?h_cg_BadPages ?h_x_BadPages ?h_k_BadPages ?h_t_BadPages ?h_hg_BadPages ?h_hk_BadPages ?h_hs_BadPages ?h_hd_BadPages ?h_ha_BadPages ?h_hn_BadPages ?h_ht_BadPages ?h_hm_BadPages ?h_ms_Leaf ?h_kc_Leaf ?h_ca_Leaf ?h_cn_Leaf ?h_ct_Leaf ?h_cm_Leaf ?h_ic_Leaf ?h_tc_Leaf ?h_na_Leaf_label ?h_na_Leaf_front ?h_na_Leaf_back ?h_na_Leaf_pen ?h_na_Leaf__strokes ?h_ms_Book ?h_kc_Book ?h_ca_Book ?h_cn_Book ?h_ct_Book ?h_cm_Book ?h_ic_Book ?h_tc_Book ?h_na_Book_leaves ?h_na_Book__spots ?h_fn_Leaf_init ?h_fn_Leaf_side_rows ?h_fn_Book_init ?h_fn_Book_iter ?h_q_BadPages_AfterError ?h_q_BadPages_BadForm ?h_q_BadPages_NotThere ?h_e_BadPages_BadPages ?pg_Leaf ?hd_Leaf ?po_Leaf ?sa_Leaf ?pg_Book ?hd_Book ?po_Book ?sa_Book ?ic_AfterError ?tc_AfterError ?sc_AfterError ?dc_AfterError ?ic_BadForm ?tc_BadForm ?sc_BadForm ?dc_BadForm ?ic_NotThere ?tc_NotThere ?sc_NotThere ?dc_NotThere ?ic_BadPages ?tc_BadPages ?sc_BadPages ?dc_BadPages ?ne_BadPages_NotThere
    (case h_cg_Book => k_is)
    (case h_cg_Leaf => k_is)
    (case h_cg_AfterError => k_is)
    (case h_cg_BadForm => k_is)
    (case h_cg_NotThere => k_is)
    (case h_cg_BadPages => k_is)
    (case a0 => k_is)
    (case l0 => k_is)
    (case c0 => k_is)
    (case k0 => k_is)
    (case a1 => k_is)
    (case l1 => k_is)
    (case c1 => k_is)
    (case k1 => k_is)
    (case a2 => k_is)
    (case l2 => k_is)
    (case c2 => k_is)
    (case k2 => k_is)
    (case a3 => k_is)
    (case l3 => k_is)
    (case c3 => k_is)
    (case k3 => k_is)
    (case a4 => k_is)
    (case l4 => k_is)
    (case c4 => k_is)
    (case k4 => k_is)
    (case a5 => k_is)
    (case l5 => k_is)
    (case c5 => k_is)
    (case k5 => k_is)
    (case a6 => k_is)
    (case l6 => k_is)
    (case c6 => k_is)
    (case k6 => k_is)
    (case a7 => k_is)
    (case l7 => k_is)
    (case c7 => k_is)
    (case k7 => k_is)
    (case a8 => k_is)
    (case l8 => k_is)
    (case c8 => k_is)
    (case k8 => k_is)
    (case a9 => k_is)
    (case l9 => k_is)
    (case c9 => k_is)
    (case k9 => k_is)
    (case a10 => k_is)
    (case l10 => k_is)
    (case c10 => k_is)
    (case k10 => k_is)
    (case a11 => k_is)
    (case l11 => k_is)
    (case c11 => k_is)
    (case k11 => k_is)
    (case lt11 => k_is)
    (case le0 => k_is)
    (case a12 => k_is)
    (case l12 => k_is)
    (case c12 => k_is)
    (case k12 => k_is)
    (case a13 => k_is)
    (case l13 => k_is)
    (case c13 => k_is)
    (case k13 => k_is)
    (case a14 => k_is)
    (case l14 => k_is)
    (case c14 => k_is)
    (case k14 => k_is)
    (case a15 => k_is)
    (case l15 => k_is)
    (case c15 => k_is)
    (case k15 => k_is)
    (case a16 => k_is)
    (case l16 => k_is)
    (case c16 => k_is)
    (case k16 => k_is)
    (case a17 => k_is)
    (case l17 => k_is)
    (case c17 => k_is)
    (case k17 => k_is)
    (case a18 => k_is)
    (case l18 => k_is)
    (case c18 => k_is)
    (case k18 => k_is)
    (case a19 => k_is)
    (case l19 => k_is)
    (case c19 => k_is)
    (case k19 => k_is)
    (case a20 => k_is)
    (case l20 => k_is)
    (case c20 => k_is)
    (case k20 => k_is)
    (case a21 => k_is)
    (case l21 => k_is)
    (case c21 => k_is)
    (case k21 => k_is)
    (case a22 => k_is)
    (case l22 => k_is)
    (case c22 => k_is)
    (case k22 => k_is)
    (case a23 => k_is)
    (case l23 => k_is)
    (case c23 => k_is)
    (case k23 => k_is)
    (case a24 => k_is)
    (case l24 => k_is)
    (case c24 => k_is)
    (case k24 => k_is)
    (case a25 => k_is)
    (case l25 => k_is)
    (case c25 => k_is)
    (case k25 => k_is)
    (case a26 => k_is)
    (case l26 => k_is)
    (case c26 => k_is)
    (case k26 => k_is)
    (case a27 => k_is)
    (case l27 => k_is)
    (case c27 => k_is)
    (case k27 => k_is)
    (case a28 => k_is)
    (case l28 => k_is)
    (case c28 => k_is)
    (case k28 => k_is)
    (case a29 => k_is)
    (case l29 => k_is)
    (case c29 => k_is)
    (case k29 => k_is)
    (case a30 => k_is)
    (case l30 => k_is)
    (case c30 => k_is)
    (case k30 => k_is)
    (case a31 => k_is)
    (case l31 => k_is)
    (case c31 => k_is)
    (case k31 => k_is)
    (case a32 => k_is)
    (case l32 => k_is)
    (case c32 => k_is)
    (case k32 => k_is)
    (case a33 => k_is)
    (case l33 => k_is)
    (case c33 => k_is)
    (case k33 => k_is)
    (case a34 => k_is)
    (case l34 => k_is)
    (case c34 => k_is)
    (case k34 => k_is)
    (case a35 => k_is)
    (case l35 => k_is)
    (case c35 => k_is)
    (case k35 => k_is)
    (case a36 => k_is)
    (case l36 => k_is)
    (case c36 => k_is)
    (case k36 => k_is)
    (case a37 => k_is)
    (case l37 => k_is)
    (case c37 => k_is)
    (case k37 => k_is)
    (case a38 => k_is)
    (case l38 => k_is)
    (case c38 => k_is)
    (case k38 => k_is)
    (case a39 => k_is)
    (case l39 => k_is)
    (case c39 => k_is)
    (case k39 => k_is)
    (case a40 => k_is)
    (case l40 => k_is)
    (case c40 => k_is)
    (case k40 => k_is)
    (case a41 => k_is)
    (case l41 => k_is)
    (case c41 => k_is)
    (case k41 => k_is)
    (case a42 => k_is)
    (case l42 => k_is)
    (case c42 => k_is)
    (case k42 => k_is)
    (case a43 => k_is)
    (case l43 => k_is)
    (case c43 => k_is)
    (case k43 => k_is)
    (case a44 => k_is)
    (case l44 => k_is)
    (case c44 => k_is)
    (case k44 => k_is)
    (case v_LONGEST_ROW => k_is)
    (case v_MOST_LEAVES => k_is)
    (case v_MOST_PARTS => k_is)
    (case v_MOST_ROWS => k_is)
    (case v_MOST_SIGNS => k_is)
    (case v_MOST_TOKENS => k_is)
    (case z_abs => k_is)
    (case z_all => k_is)
    (case z_bool => k_is)
    (case z_enumerate => k_is)
    (case z_int => k_is)
    (case z_isinstance => k_is)
    (case z_iter => k_is)
    (case z_len => k_is)
    (case z_list => k_is)
    (case z_max => k_is)
    (case z_min => k_is)
    (case z_range => k_is)
    (case z_sorted => k_is)
    (case z_str => k_is)
    (case z_sum => k_is)
    (case z_tuple => k_is)
    (case z_zip => k_is)
    (case h_x_BadPages => k_exc)
    (case h_k_BadPages => k_is)
    (case h_t_BadPages => k_is)
    (case h_hg_BadPages => k_is)
    (case h_hk_BadPages => k_is)
    (case h_hs_BadPages => k_is)
    (case h_hd_BadPages => k_is)
    (case h_ha_BadPages => k_is)
    (case h_hn_BadPages => k_is)
    (case h_ht_BadPages => k_is)
    (case h_hm_BadPages => k_is)
    (case h_ms_Leaf => k_is)
    (case h_kc_Leaf => k_is)
    (case h_ca_Leaf => k_is)
    (case h_cn_Leaf => k_is)
    (case h_ct_Leaf => k_is)
    (case h_cm_Leaf => k_is)
    (case h_ic_Leaf => k_is)
    (case h_tc_Leaf => k_is)
    (case h_na_Leaf_label => k_is)
    (case h_na_Leaf_front => k_is)
    (case h_na_Leaf_back => k_is)
    (case h_na_Leaf_pen => k_is)
    (case h_na_Leaf__strokes => k_is)
    (case h_ms_Book => k_is)
    (case h_kc_Book => k_is)
    (case h_ca_Book => k_is)
    (case h_cn_Book => k_is)
    (case h_ct_Book => k_is)
    (case h_cm_Book => k_is)
    (case h_ic_Book => k_is)
    (case h_tc_Book => k_is)
    (case h_na_Book_leaves => k_is)
    (case h_na_Book__spots => k_is)
    (case h_fn_Leaf_init => k_is)
    (case h_fn_Leaf_side_rows => k_is)
    (case h_fn_Book_init => k_is)
    (case h_fn_Book_iter => k_is)
    (case h_q_BadPages_AfterError => k_is)
    (case h_q_BadPages_BadForm => k_is)
    (case h_q_BadPages_NotThere => k_is)
    (case h_e_BadPages_BadPages => k_is)
    (case pg_Leaf => k_is)
    (case hd_Leaf => k_is)
    (case po_Leaf => k_is)
    (case sa_Leaf => k_is)
    (case pg_Book => k_is)
    (case hd_Book => k_is)
    (case po_Book => k_is)
    (case sa_Book => k_is)
    (case ic_AfterError => k_is)
    (case tc_AfterError => k_is)
    (case sc_AfterError => k_is)
    (case dc_AfterError => k_is)
    (case ic_BadForm => k_is)
    (case tc_BadForm => k_is)
    (case sc_BadForm => k_is)
    (case dc_BadForm => k_is)
    (case ic_NotThere => k_is)
    (case tc_NotThere => k_is)
    (case sc_NotThere => k_is)
    (case dc_NotThere => k_is)
    (case ic_BadPages => k_is)
    (case tc_BadPages => k_is)
    (case sc_BadPages => k_is)
    (case dc_BadPages => k_is)
    (case ne_BadPages_NotThere => decide)

import PyProof.Rows.All
import Wide.All
import OpenK.AllK
import Wide.FinOn
import HandS.ForMost
import HandS.Codes
import HandS.IsInst
import HandS.Walk
import HandS.DeepEq
import HandS.TupAny
import HandS.Deep
import HandS.FStr
import HandS.StrMore
import HandS.TryMany
import HandS.NoneIn
import PySem.Challenge.RW_afterleaves_k34_ranges_written
set_option Elab.async false
set_option linter.all false
set_option maxRecDepth 100000
set_option maxHeartbeats 4000000
namespace K34
open PySem PySem.Spec PyProof.Rows L2
/-! ### the text -/
def topS (i : Nat) : Stmt := PySem.Challenge.pw_afterleaves_k34_ranges_written.main.body.getD i (.Pass ⟨0, 0, 0, 0⟩)
abbrev s_is_integer : Stmt := topS 6
abbrev N_is_integer : List Str := ["thing"]
theorem sc_is_integer : FnScope N_is_integer ["thing"] (defScope s_is_integer) := ⟨rfl, rfl, rfl, by decide +kernel, rfl, by decide +kernel, by decide +kernel⟩
abbrev s_is_within : Stmt := topS 7
abbrev N_is_within : List Str := ["thing", "least", "most"]
theorem sc_is_within : FnScope N_is_within ["thing", "least", "most"] (defScope s_is_within) := ⟨rfl, rfl, rfl, by decide +kernel, rfl, by decide +kernel, by decide +kernel⟩
abbrev s_is_tuple : Stmt := topS 8
abbrev N_is_tuple : List Str := ["thing"]
theorem sc_is_tuple : FnScope N_is_tuple ["thing"] (defScope s_is_tuple) := ⟨rfl, rfl, rfl, by decide +kernel, rfl, by decide +kernel, by decide +kernel⟩
abbrev s_is_sized : Stmt := topS 9
abbrev N_is_sized : List Str := ["thing", "least", "most"]
theorem sc_is_sized : FnScope N_is_sized ["thing", "least", "most"] (defScope s_is_sized) := ⟨rfl, rfl, rfl, by decide +kernel, rfl, by decide +kernel, by decide +kernel⟩
abbrev s_read_integer : Stmt := topS 10
abbrev N_read_integer : List Str := ["word", "least", "most", "number", "digit"]
theorem sc_read_integer : FnScope N_read_integer ["word", "least", "most"] (defScope s_read_integer) := ⟨rfl, rfl, rfl, by decide +kernel, rfl, by decide +kernel, by decide +kernel⟩
abbrev s_kept_label : Stmt := topS 14
abbrev N_kept_label : List Str := ["thing", "part"]
theorem sc_kept_label : FnScope N_kept_label ["thing"] (defScope s_kept_label) := ⟨rfl, rfl, rfl, by decide +kernel, rfl, by decide +kernel, by decide +kernel⟩
abbrev s_judged_label : Stmt := topS 15
abbrev N_judged_label : List Str := ["thing", "label"]
theorem sc_judged_label : FnScope N_judged_label ["thing"] (defScope s_judged_label) := ⟨rfl, rfl, rfl, by decide +kernel, rfl, by decide +kernel, by decide +kernel⟩
abbrev s_write_label : Stmt := topS 16
abbrev N_write_label : List Str := ["label", "part"]
theorem sc_write_label : FnScope N_write_label ["label"] (defScope s_write_label) := ⟨rfl, rfl, rfl, by decide +kernel, rfl, by decide +kernel, by decide +kernel⟩
abbrev s_read_label : Stmt := topS 17
abbrev N_read_label : List Str := ["word", "part"]
theorem sc_read_label : FnScope N_read_label ["word"] (defScope s_read_label) := ⟨rfl, rfl, rfl, by decide +kernel, rfl, by decide +kernel, by decide +kernel⟩
abbrev s_write_page : Stmt := topS 18
abbrev N_write_page : List Str := ["page", "label", "side"]
theorem sc_write_page : FnScope N_write_page ["page"] (defScope s_write_page) := ⟨rfl, rfl, rfl, by decide +kernel, rfl, by decide +kernel, by decide +kernel⟩
abbrev s_read_page : Stmt := topS 19
abbrev N_read_page : List Str := ["word", "label"]
theorem sc_read_page : FnScope N_read_page ["word"] (defScope s_read_page) := ⟨rfl, rfl, rfl, by decide +kernel, rfl, by decide +kernel, by decide +kernel⟩
abbrev s_span_token : Stmt := topS 21
abbrev N_span_token : List Str := ["first", "last", "begin", "end"]
theorem sc_span_token : FnScope N_span_token ["first", "last"] (defScope s_span_token) := ⟨rfl, rfl, rfl, by decide +kernel, rfl, by decide +kernel, by decide +kernel⟩
abbrev s_write_range : Stmt := topS 23
abbrev N_write_range : List Str := ["pair", "first", "last"]
theorem sc_write_range : FnScope N_write_range ["pair"] (defScope s_write_range) := ⟨rfl, rfl, rfl, by decide +kernel, rfl, by decide +kernel, by decide +kernel⟩
abbrev s_read_range : Stmt := topS 24
abbrev N_read_range : List Str := ["token", "ends", "word"]
theorem sc_read_range : FnScope N_read_range ["token"] (defScope s_read_range) := ⟨rfl, rfl, rfl, by decide +kernel, rfl, by decide +kernel, by decide +kernel⟩
abbrev s_source : Stmt := topS 26
abbrev N_source : List Str := ["_law_script", "_law_k", "_law_cell", "_law_number", "_law_great"]
theorem sc_source : FnScope N_source ["_law_script", "_law_k"] (defScope s_source) := ⟨rfl, rfl, rfl, by decide +kernel, rfl, by decide +kernel, by decide +kernel⟩
abbrev s_pick : Stmt := topS 27
abbrev N_pick : List Str := ["_law_source_here", "_law_many", "_law_taken"]
theorem sc_pick : FnScope N_pick ["_law_source_here", "_law_many"] (defScope s_pick) := ⟨rfl, rfl, rfl, by decide +kernel, rfl, by decide +kernel, by decide +kernel⟩
abbrev s_law_is_integer : Stmt := topS 28
abbrev N_law_is_integer : List Str := ["_law_actual"]
theorem sc_law_is_integer : FnScope N_law_is_integer ["_law_actual"] (defScope s_law_is_integer) := ⟨rfl, rfl, rfl, by decide +kernel, rfl, by decide +kernel, by decide +kernel⟩
abbrev s_label_word : Stmt := topS 29
abbrev N_label_word : List Str := ["_law_label", "_law_part"]
theorem sc_label_word : FnScope N_label_word ["_law_label"] (defScope s_label_word) := ⟨rfl, rfl, rfl, by decide +kernel, rfl, by decide +kernel, by decide +kernel⟩
abbrev s_page_word : Stmt := topS 30
abbrev N_page_word : List Str := ["_law_page"]
theorem sc_page_word : FnScope N_page_word ["_law_page"] (defScope s_page_word) := ⟨rfl, rfl, rfl, by decide +kernel, rfl, by decide +kernel, by decide +kernel⟩
abbrev s_span_word : Stmt := topS 31
abbrev N_span_word : List Str := ["_law_begin", "_law_last"]
theorem sc_span_word : FnScope N_span_word ["_law_begin", "_law_last"] (defScope s_span_word) := ⟨rfl, rfl, rfl, by decide +kernel, rfl, by decide +kernel, by decide +kernel⟩
abbrev s_law_read_label : Stmt := topS 32
abbrev N_law_read_label : List Str := ["_law_word", "_law_label", "_law_part", "_law_bad", "_law_sign"]
theorem sc_law_read_label : FnScope N_law_read_label ["_law_word"] (defScope s_law_read_label) := ⟨rfl, rfl, rfl, by decide +kernel, rfl, by decide +kernel, by decide +kernel⟩
abbrev s_law_read_page : Stmt := topS 33
abbrev N_law_read_page : List Str := ["_law_word", "_law_label"]
theorem sc_law_read_page : FnScope N_law_read_page ["_law_word"] (defScope s_law_read_page) := ⟨rfl, rfl, rfl, by decide +kernel, rfl, by decide +kernel, by decide +kernel⟩
abbrev s_law_read_range : Stmt := topS 34
abbrev N_law_read_range : List Str := ["_law_token", "_law_pages", "_law_part"]
theorem sc_law_read_range : FnScope N_law_read_range ["_law_token"] (defScope s_law_read_range) := ⟨rfl, rfl, rfl, by decide +kernel, rfl, by decide +kernel, by decide +kernel⟩
abbrev s_same : Stmt := topS 35
abbrev N_same : List Str := ["_law_actual", "_law_due", "_law_k"]
theorem sc_same : FnScope N_same ["_law_actual", "_law_due"] (defScope s_same) := ⟨rfl, rfl, rfl, by decide +kernel, rfl, by decide +kernel, by decide +kernel⟩
abbrev s_as_lists : Stmt := topS 36
abbrev N_as_lists : List Str := ["_law_thing", "_law_part"]
theorem sc_as_lists : FnScope N_as_lists ["_law_thing"] (defScope s_as_lists) := ⟨rfl, rfl, rfl, by decide +kernel, rfl, by decide +kernel, by decide +kernel⟩
abbrev s_wide_label : Stmt := topS 37
abbrev N_wide_label : List Str := ["_law_source_here", "_law_parts", "_law_k", "_law_draw"]
theorem sc_wide_label : FnScope N_wide_label ["_law_source_here"] (defScope s_wide_label) := ⟨rfl, rfl, rfl, by decide +kernel, rfl, by decide +kernel, by decide +kernel⟩
abbrev s_two_pages : Stmt := topS 38
abbrev N_two_pages : List Str := ["_law_source_here", "_law_one", "_law_way"]
theorem sc_two_pages : FnScope N_two_pages ["_law_source_here"] (defScope s_two_pages) := ⟨rfl, rfl, rfl, by decide +kernel, rfl, by decide +kernel, by decide +kernel⟩
abbrev s_spoilt : Stmt := topS 39
abbrev N_spoilt : List Str := ["_law_source_here", "_law_word", "_law_signs", "_law_way", "_law_at", "_law_sign"]
theorem sc_spoilt : FnScope N_spoilt ["_law_source_here", "_law_word"] (defScope s_spoilt) := ⟨rfl, rfl, rfl, by decide +kernel, rfl, by decide +kernel, by decide +kernel⟩
abbrev s_law : Stmt := topS 40
abbrev N_law : List Str := ["_law_script", "_law_asked", "_law_k", "_law_source_here", "_law_pair", "_law_word", "_law_handed", "_law_double", "_law_turn"]
theorem sc_law : FnScope N_law ["_law_script"] (defScope s_law) := ⟨rfl, rfl, rfl, by decide +kernel, rfl, by decide +kernel, by decide +kernel⟩
structure Tab (K : PySem.W.Frag) (mg : Str → Option Value) where
  f_is_integer : Addr
  d_is_integer : FuncData
  F_is_integer : Fun K "is_integer" "is_integer" s_is_integer f_is_integer d_is_integer
  b_is_integer : Binds K d_is_integer ["thing"] []
  g_is_integer : mg "is_integer" = some (.ref f_is_integer)
  f_is_within : Addr
  d_is_within : FuncData
  F_is_within : Fun K "is_within" "is_within" s_is_within f_is_within d_is_within
  b_is_within : Binds K d_is_within ["thing", "least", "most"] []
  g_is_within : mg "is_within" = some (.ref f_is_within)
  f_is_tuple : Addr
  d_is_tuple : FuncData
  F_is_tuple : Fun K "is_tuple" "is_tuple" s_is_tuple f_is_tuple d_is_tuple
  b_is_tuple : Binds K d_is_tuple ["thing"] []
  g_is_tuple : mg "is_tuple" = some (.ref f_is_tuple)
  f_is_sized : Addr
  d_is_sized : FuncData
  F_is_sized : Fun K "is_sized" "is_sized" s_is_sized f_is_sized d_is_sized
  b_is_sized : Binds K d_is_sized ["thing", "least", "most"] []
  g_is_sized : mg "is_sized" = some (.ref f_is_sized)
  f_read_integer : Addr
  d_read_integer : FuncData
  F_read_integer : Fun K "read_integer" "read_integer" s_read_integer f_read_integer d_read_integer
  b_read_integer : Binds K d_read_integer ["word", "least", "most"] []
  g_read_integer : mg "read_integer" = some (.ref f_read_integer)
  f_kept_label : Addr
  d_kept_label : FuncData
  F_kept_label : Fun K "kept_label" "kept_label" s_kept_label f_kept_label d_kept_label
  b_kept_label : Binds K d_kept_label ["thing"] []
  g_kept_label : mg "kept_label" = some (.ref f_kept_label)
  f_judged_label : Addr
  d_judged_label : FuncData
  F_judged_label : Fun K "judged_label" "judged_label" s_judged_label f_judged_label d_judged_label
  b_judged_label : Binds K d_judged_label ["thing"] []
  g_judged_label : mg "judged_label" = some (.ref f_judged_label)
  f_write_label : Addr
  d_write_label : FuncData
  F_write_label : Fun K "write_label" "write_label" s_write_label f_write_label d_write_label
  b_write_label : Binds K d_write_label ["label"] []
  g_write_label : mg "write_label" = some (.ref f_write_label)
  f_read_label : Addr
  d_read_label : FuncData
  F_read_label : Fun K "read_label" "read_label" s_read_label f_read_label d_read_label
  b_read_label : Binds K d_read_label ["word"] []
  g_read_label : mg "read_label" = some (.ref f_read_label)
  f_write_page : Addr
  d_write_page : FuncData
  F_write_page : Fun K "write_page" "write_page" s_write_page f_write_page d_write_page
  b_write_page : Binds K d_write_page ["page"] []
  g_write_page : mg "write_page" = some (.ref f_write_page)
  f_read_page : Addr
  d_read_page : FuncData
  F_read_page : Fun K "read_page" "read_page" s_read_page f_read_page d_read_page
  b_read_page : Binds K d_read_page ["word"] []
  g_read_page : mg "read_page" = some (.ref f_read_page)
  f_span_token : Addr
  d_span_token : FuncData
  F_span_token : Fun K "span_token" "span_token" s_span_token f_span_token d_span_token
  b_span_token : Binds K d_span_token ["first", "last"] []
  g_span_token : mg "span_token" = some (.ref f_span_token)
  f_write_range : Addr
  d_write_range : FuncData
  F_write_range : Fun K "write_range" "write_range" s_write_range f_write_range d_write_range
  b_write_range : Binds K d_write_range ["pair"] []
  g_write_range : mg "write_range" = some (.ref f_write_range)
  f_read_range : Addr
  d_read_range : FuncData
  F_read_range : Fun K "read_range" "read_range" s_read_range f_read_range d_read_range
  b_read_range : Binds K d_read_range ["token"] []
  g_read_range : mg "read_range" = some (.ref f_read_range)
  f_source : Addr
  d_source : FuncData
  F_source : Fun K "_law_source" "_law_source" s_source f_source d_source
  b_source : Binds K d_source ["_law_script", "_law_k"] []
  g_source : mg "_law_source" = some (.ref f_source)
  f_pick : Addr
  d_pick : FuncData
  F_pick : Fun K "_law_pick" "_law_pick" s_pick f_pick d_pick
  b_pick : Binds K d_pick ["_law_source_here", "_law_many"] []
  g_pick : mg "_law_pick" = some (.ref f_pick)
  f_law_is_integer : Addr
  d_law_is_integer : FuncData
  F_law_is_integer : Fun K "_law_is_integer" "_law_is_integer" s_law_is_integer f_law_is_integer d_law_is_integer
  b_law_is_integer : Binds K d_law_is_integer ["_law_actual"] []
  g_law_is_integer : mg "_law_is_integer" = some (.ref f_law_is_integer)
  f_label_word : Addr
  d_label_word : FuncData
  F_label_word : Fun K "_law_label_word" "_law_label_word" s_label_word f_label_word d_label_word
  b_label_word : Binds K d_label_word ["_law_label"] []
  g_label_word : mg "_law_label_word" = some (.ref f_label_word)
  f_page_word : Addr
  d_page_word : FuncData
  F_page_word : Fun K "_law_page_word" "_law_page_word" s_page_word f_page_word d_page_word
  b_page_word : Binds K d_page_word ["_law_page"] []
  g_page_word : mg "_law_page_word" = some (.ref f_page_word)
  f_span_word : Addr
  d_span_word : FuncData
  F_span_word : Fun K "_law_span_word" "_law_span_word" s_span_word f_span_word d_span_word
  b_span_word : Binds K d_span_word ["_law_begin", "_law_last"] []
  g_span_word : mg "_law_span_word" = some (.ref f_span_word)
  f_law_read_label : Addr
  d_law_read_label : FuncData
  F_law_read_label : Fun K "_law_read_label" "_law_read_label" s_law_read_label f_law_read_label d_law_read_label
  b_law_read_label : Binds K d_law_read_label ["_law_word"] []
  g_law_read_label : mg "_law_read_label" = some (.ref f_law_read_label)
  f_law_read_page : Addr
  d_law_read_page : FuncData
  F_law_read_page : Fun K "_law_read_page" "_law_read_page" s_law_read_page f_law_read_page d_law_read_page
  b_law_read_page : Binds K d_law_read_page ["_law_word"] []
  g_law_read_page : mg "_law_read_page" = some (.ref f_law_read_page)
  f_law_read_range : Addr
  d_law_read_range : FuncData
  F_law_read_range : Fun K "_law_read_range" "_law_read_range" s_law_read_range f_law_read_range d_law_read_range
  b_law_read_range : Binds K d_law_read_range ["_law_token"] []
  g_law_read_range : mg "_law_read_range" = some (.ref f_law_read_range)
  f_same : Addr
  d_same : FuncData
  F_same : Fun K "_law_same" "_law_same" s_same f_same d_same
  b_same : Binds K d_same ["_law_actual", "_law_due"] []
  g_same : mg "_law_same" = some (.ref f_same)
  f_as_lists : Addr
  d_as_lists : FuncData
  F_as_lists : Fun K "_law_as_lists" "_law_as_lists" s_as_lists f_as_lists d_as_lists
  b_as_lists : Binds K d_as_lists ["_law_thing"] []
  g_as_lists : mg "_law_as_lists" = some (.ref f_as_lists)
  f_wide_label : Addr
  d_wide_label : FuncData
  F_wide_label : Fun K "_law_wide_label" "_law_wide_label" s_wide_label f_wide_label d_wide_label
  b_wide_label : Binds K d_wide_label ["_law_source_here"] []
  g_wide_label : mg "_law_wide_label" = some (.ref f_wide_label)
  f_two_pages : Addr
  d_two_pages : FuncData
  F_two_pages : Fun K "_law_two_pages" "_law_two_pages" s_two_pages f_two_pages d_two_pages
  b_two_pages : Binds K d_two_pages ["_law_source_here"] []
  g_two_pages : mg "_law_two_pages" = some (.ref f_two_pages)
  f_spoilt : Addr
  d_spoilt : FuncData
  F_spoilt : Fun K "_law_spoilt" "_law_spoilt" s_spoilt f_spoilt d_spoilt
  b_spoilt : Binds K d_spoilt ["_law_source_here", "_law_word"] []
  g_spoilt : mg "_law_spoilt" = some (.ref f_spoilt)
  f_law : Addr
  d_law : FuncData
  F_law : Fun K "law" "law" s_law f_law d_law
  b_law : Binds K d_law ["_law_script"] []
  g_law : mg "law" = some (.ref f_law)
  t_DIGITS : Tok
  c_DIGITS : mg "DIGITS" = some (.str "0123456789" t_DIGITS)
  t_MOST_PARTS : Tok
  c_MOST_PARTS : mg "MOST_PARTS" = some (.int 3 t_MOST_PARTS)
  t_SIDES : Tok
  c_SIDES : mg "SIDES" = some (.str "ab" t_SIDES)
  m_abs : mg "abs" = none
  m_all : mg "all" = none
  m_bool : mg "bool" = none
  m_int : mg "int" = none
  m_isinstance : mg "isinstance" = none
  m_len : mg "len" = none
  m_list : mg "list" = none
  m_max : mg "max" = none
  m_min : mg "min" = none
  m_range : mg "range" = none
  m_str : mg "str" = none
  m_sum : mg "sum" = none
  m_tuple : mg "tuple" = none
/-! ### heaps and sources -/
theorem un2 {k : Nat} {A : Around} (r : Room k A) : A.units + 65 < cLine := by have := r.un; omega
theorem same_upd {H : Hp} {p : Addr} {o : HO} (h : H p = none) : Same H (upd H p o) := fun b x e => by
  rw [upd_ne (ne_of_none e h)]
  exact e
/-- all but a stand as they stood -/
def But (a : Addr) (H H' : Hp) : Prop := ∀ b o, b ≠ a → H b = some o → H' b = some o
theorem But.refl (a : Addr) (H : Hp) : But a H H := fun _ _ _ e => e
theorem But.trans {a : Addr} {H H1 H2 : Hp} (x : But a H H1) (y : But a H1 H2) : But a H H2 := fun b o n e => y b o n (x b o n e)
theorem But.of {a : Addr} {H H1 : Hp} (x : Same H H1) : But a H H1 := fun b o _ e => x b o e
theorem But.upd {a : Addr} {H : Hp} (o : HO) : But a H (upd H a o) := fun b u n e => by
  rw [upd_ne n]
  exact e
/-- what changes is not there at first -/
theorem But.same {a : Addr} {H0 H H' : Hp} (n : H0 a = none) (s : Same H0 H) (x : But a H H') : Same H0 H' := fun b o e => x b o (ne_of_none e n) (s b o e)
/-- a source of numbers: three ints -/
def Src (H : Hp) (a : Addr) : Prop := ∃ g x c : Int, H a = some (.lst [.int g, .int x, .int c])
theorem cut_map (ns : List Int) (lo hi : Option Int) : ∃ ms : List Int, cutV (ns.map V.int) lo hi = ms.map V.int := by
  unfold cutV
  exact ⟨_, by rw [← List.map_drop, ← List.map_take]⟩
theorem at_of' {α : Type} {xs : List α} {z : Int} {j : Nat} {v : α} (e : z = (j : Int)) (h : xs[j]? = some v) : atI xs z = some v := by
  subst e
  exact atI_nat h
theorem str_len_snoc (z : Str) (c : Nat) : (z ++ (⟨#[c]⟩ : Str)).length = z.length + 1 := by
  show (z.cps ++ #[c]).size = z.cps.size + 1
  rw [Array.size_append]
  rfl
theorem But.none {a D : Addr} {H H3 : Hp} (x : But a H H3) (n : H3 D = .none) (h : D ≠ a) : H D = .none := by
  cases e : H D with
  | none => rfl
  | some o =>
    rw [x D o h e] at n
    cases n
theorem But.put {a D : Addr} {H H' : Hp} (x : But a H H') (n : H D = .none) (o : HO) : But a H (L2.upd H' D o) := fun b u nb e => by
  rw [upd_ne (ne_of_none e n)]
  exact x b u nb e
theorem Src.put {a D : Addr} {H : Hp} (x : Src H a) (n : a ≠ D) (o : HO) : Src (upd H D o) a := by
  obtain ⟨g, y, c, e⟩ := x
  exact ⟨g, y, c, by rw [upd_ne n]; exact e⟩
theorem Src.ne {a D : Addr} {H : Hp} (x : Src H a) (n : H D = .none) : a ≠ D := by
  obtain ⟨g, y, c, e⟩ := x
  exact ne_of_none e n
theorem get_map {xs : List Str} {i : Nat} {x : V} (h : (xs.map V.str)[i]? = some x) : ∃ z, x = .str z ∧ xs[i]? = some z := by
  rw [List.getElem?_map] at h
  cases e : xs[i]? with
  | none => rw [e] at h; cases h
  | some z => rw [e] at h; exact ⟨z, (Option.some.inj h).symm, rfl⟩
theorem get_mapR {xs : List Addr} {i : Nat} {x : V} (h : (xs.map V.ref)[i]? = some x) : ∃ z, x = .ref z ∧ z ∈ xs := by
  rw [List.getElem?_map] at h
  cases e : xs[i]? with
  | none => rw [e] at h; cases h
  | some z => rw [e] at h; exact ⟨z, (Option.some.inj h).symm, List.mem_of_getElem? e⟩
section
variable {X : Cx} {tg e : Expr} {w1 w2 : TI}
theorem pi_or (a : PI X tg e w1) (b : PI X tg e w2) : PI X tg e (fun σ H R => w1 σ H R ∨ w2 σ H R) :=
  ⟨fun pins s σ H R I h => h.elim (fun h => a.run pins s σ H R I h) (fun h => b.run pins s σ H R I h)⟩
theorem op_rep_str : OpR X (binaryOp .Mult) (fun x y H Q => ∃ z n, x = .str z ∧ y = .int n ∧ PySem.MulOk z n ∧ Q (.str (Txt.mul z n)) H) := by
  intro pins s σ H x y v u Q I rx ry h
  obtain ⟨z, n, rfl, rfl, hm, q⟩ := h
  obtain ⟨t, rfl⟩ := rx
  obtain ⟨t', rfl⟩ := ry
  exact PySem.SB.mul hm (fun t' tk => ⟨.str _, H, I.tok _, ⟨_, rfl⟩, q⟩)
end
theorem eq_strs {K : PySem.W.Frag} {H : Hp} : ∀ zs : List Str, Paired (EqV K H 1) (zs.map V.str) (zs.map V.str)
  | [] => .nil
  | z :: r => .cons (.inl ⟨rfl, rfl⟩) (eq_strs r)
theorem same_seqT {K : PySem.W.Frag} {H H' : Hp} {a : Addr} {xs : List V} (e : Same H H') (h : SqT K H a xs) : SqT K H' a xs :=
  h.elim (fun r => .inl (r.elim (fun e1 => .inl (e _ _ e1)) (fun ⟨o, e1⟩ => .inr ⟨o, e _ _ e1⟩))) .inr
theorem same_sq {K : PySem.W.Frag} {H H' : Hp} {a : Addr} {xs : List V} (e : Same H H') (h : SqL K H a xs ∨ SqT K H a xs) : SqL K H' a xs ∨ SqT K H' a xs :=
  h.elim (fun h => .inl (e.seq h)) (fun h => .inr (same_seqT e h))
theorem same_put {H H' : Hp} {b : Addr} (x : Same H H') (n : H b = .none) (o : HO) : Same H (upd H' b o) := fun c u e => by
  rw [upd_ne (ne_of_none e n)]
  exact x c u e
/-! ### == of rows of texts and of numbers -/
theorem dp_strs {K : PySem.W.Frag} {H : Hp} : ∀ zs : List Str, DpAll K H (zs.map V.str) (zs.map PyData.str)
  | [] => .nil
  | z :: r => .cons (.str z) (dp_strs r)
theorem dp_ints {K : PySem.W.Frag} {H : Hp} : ∀ zs : List Int, DpAll K H (zs.map V.int) (zs.map PyData.int)
  | [] => .nil
  | z :: r => .cons (.int z) (dp_ints r)
theorem can_strs : ∀ zs : List Str, (∀ z ∈ zs, PyData.strOk z = true) → PyData.canLayAll0 (zs.map PyData.str) = true
  | [], _ => rfl
  | z :: r, h => by
    show (PyData.strOk z && PyData.canLayAll0 (r.map PyData.str)) = true
    rw [can_strs r fun y hy => h y (List.mem_cons_of_mem _ hy), Bool.and_true]
    exact h z (List.mem_cons_self ..)
theorem can_ints : ∀ zs : List Int, PyData.canLayAll0 (zs.map PyData.int) = true
  | [] => rfl
  | z :: r => by
    show (true && PyData.canLayAll0 (r.map PyData.int)) = true
    rw [can_ints r]
    rfl
theorem depth_strs : ∀ zs : List Str, PyData.depthAll (zs.map PyData.str) = 0
  | [] => rfl
  | z :: r => by
    show max 0 (PyData.depthAll (r.map PyData.str)) = 0
    rw [depth_strs r]
    rfl
theorem depth_ints : ∀ zs : List Int, PyData.depthAll (zs.map PyData.int) = 0
  | [] => rfl
  | z :: r => by
    show max 0 (PyData.depthAll (r.map PyData.int)) = 0
    rw [depth_ints r]
    rfl
theorem shaped_l (zs : List Str) (h : ∀ z ∈ zs, PyData.strOk z = true) : SeqAt.shaped (.list (zs.map PyData.str)) = true := by
  unfold SeqAt.shaped
  rw [Bool.and_eq_true]
  refine ⟨can_strs zs h, decide_eq_true ?_⟩
  show PyData.depthAll (zs.map PyData.str) + 1 ≤ 64
  rw [depth_strs]
  decide
theorem shaped_t (zs : List Str) (h : ∀ z ∈ zs, PyData.strOk z = true) : SeqAt.shaped (.tuple (zs.map PyData.str)) = true := by
  unfold SeqAt.shaped
  rw [Bool.and_eq_true]
  refine ⟨can_strs zs h, decide_eq_true ?_⟩
  show PyData.depthAll (zs.map PyData.str) + 1 ≤ 64
  rw [depth_strs]
  decide
theorem shaped_il (zs : List Int) : SeqAt.shaped (.list (zs.map PyData.int)) = true := by
  unfold SeqAt.shaped
  rw [Bool.and_eq_true]
  refine ⟨can_ints zs, decide_eq_true ?_⟩
  show PyData.depthAll (zs.map PyData.int) + 1 ≤ 64
  rw [depth_ints]
  decide
theorem shaped_it (zs : List Int) : SeqAt.shaped (.tuple (zs.map PyData.int)) = true := by
  unfold SeqAt.shaped
  rw [Bool.and_eq_true]
  refine ⟨can_ints zs, decide_eq_true ?_⟩
  show PyData.depthAll (zs.map PyData.int) + 1 ≤ 64
  rw [depth_ints]
  decide
theorem eqv_strs : ∀ xs ys : List Str, PyData.eqvAll (xs.map PyData.str) (ys.map PyData.str) = decide (xs = ys)
  | [], [] => rfl
  | [], y :: s => rfl
  | x :: r, [] => rfl
  | x :: r, y :: s => by
    show ((x == y) && PyData.eqvAll (r.map PyData.str) (s.map PyData.str)) = decide (x :: r = y :: s)
    rw [eqv_strs r s]
    by_cases h : x = y
    · subst h
      simp
    · simp [h]
theorem eqv_ints : ∀ xs ys : List Int, PyData.eqvAll (xs.map PyData.int) (ys.map PyData.int) = decide (xs = ys)
  | [], [] => rfl
  | [], y :: s => rfl
  | x :: r, [] => rfl
  | x :: r, y :: s => by
    show ((x == y) && PyData.eqvAll (r.map PyData.int) (s.map PyData.int)) = decide (x :: r = y :: s)
    rw [eqv_ints r s]
    by_cases h : x = y
    · subst h
      simp
    · simp [h]
theorem ok_app (a b : Str) (ha : PyData.strOk a = true) (hb : PyData.strOk b = true) : PyData.strOk (a ++ b) = true := by
  show (a.cps ++ b.cps).all (· < 0x110000) = true
  rw [Array.all_append]
  exact Bool.and_eq_true_iff.mpr ⟨ha, hb⟩
/-! ### labels, pages, ranges as words -/
def rdN : List Nat → Option Int
  | [a] => if 48 ≤ a ∧ a ≤ 57 then some ((a : Int) - 48) else none
  | [a, b] => if (48 < a ∧ a ≤ 57) ∧ (48 ≤ b ∧ b ≤ 57) then some (((a : Int) - 48) * 10 + ((b : Int) - 48)) else none
  | _ => none
def rdI (z : Str) : Option Int := rdN z.cps.toList
def allSome : List (Option Int) → Option (List Int)
  | [] => some []
  | none :: _ => none
  | some i :: r => match allSome r with | some L => some (i :: L) | none => none
def keep (os : List (Option Int)) : Option (List Int) :=
  match allSome os with
  | some L => if L.length ≤ 3 ∧ L.getLastD 0 ≠ 0 then some L else none
  | none => none
def rdL (z : Str) : Option (List Int) := keep ((Txt.split z ".").map rdI)
abbrev Pg := List Int × Int
def rdP (z : Str) : Option Pg :=
  match z.cps.toList.getLast? with
  | some c => if c = 97 ∨ c = 98 then (match rdL (cutS z none (some (-1))) with | some L => some (L, (c : Int) - 97) | none => none) else none
  | none => none
def rdR (z : Str) : Option (Pg × Pg) :=
  match (Txt.split z "-").map rdP with
  | [some p] => some (p, p)
  | [some p, some q] => some (p, q)
  | _ => none
def rdR2 : List (Option Pg) → Option (Pg × Pg)
  | [some p] => some (p, p)
  | [some p, some q] => some (p, q)
  | _ => none
theorem rdR_eq (z : Str) : rdR z = rdR2 ((Txt.split z "-").map rdP) := by
  unfold rdR
  generalize (Txt.split z "-").map rdP = ps
  match ps with
  | [] => rfl
  | [none] => rfl
  | [some p] => rfl
  | [none, b] => rfl
  | [some p, none] => rfl
  | [some p, some q] => rfl
  | none :: b :: c :: r => rfl
  | some a :: none :: c :: r => rfl
  | some a :: some b :: c :: r => rfl
def okL (L : List Int) : Prop := L.length ≤ 3 ∧ L.getLastD 0 ≠ 0 ∧ ∀ i ∈ L, 0 ≤ i ∧ i ≤ 99
def okP (p : Pg) : Prop := okL p.1 ∧ (p.2 = 0 ∨ p.2 = 1)
def fL (L : List Int) : Str := Txt.join "." (L.map fun i => (toString i : Str))
def fP (p : Pg) : Str := fL p.1 ++ (if p.2 = 0 then ("a" : Str) else "b")
def fR (p q : Pg) : Str := if fP p = fP q then fP p else fP p ++ "-" ++ fP q
def dL (L : List Int) : PyData := .tuple (L.map PyData.int)
def dP (p : Pg) : PyData := .tuple [dL p.1, .int p.2]
def dR (r : Pg × Pg) : PyData := .tuple [dP r.1, dP r.2]
def oD {α : Type} (f : α → PyData) : Option α → PyData
  | none => .none
  | some x => f x
def optI : Option Int → V
  | none => .non
  | some i => .int i
theorem num_all : ((List.range 100).all fun i => decide (((toString (i : Int) : Str)).length ≤ 2) && decide (1 ≤ ((toString (i : Int) : Str)).length) && ((toString (i : Int) : Str)).cps.toList.all (fun c => decide (48 ≤ c ∧ c ≤ 57)) && decide (rdI (toString (i : Int)) = some (i : Int))) = true := by decide +kernel
theorem num_ok {i : Int} (h0 : 0 ≤ i) (h1 : i ≤ 99) : ((toString i : Str)).length ≤ 2 ∧ 1 ≤ ((toString i : Str)).length ∧ (∀ c ∈ ((toString i : Str)).cps.toList, 48 ≤ c ∧ c ≤ 57) ∧ rdI (toString i) = some i := by
  have h := List.all_eq_true.mp num_all i.toNat (List.mem_range.mpr (by omega))
  rw [Int.toNat_of_nonneg h0] at h
  simp only [Bool.and_eq_true, decide_eq_true_eq, List.all_eq_true] at h
  exact ⟨h.1.1.1, h.1.1.2, h.1.2, h.2⟩
theorem int_all : ((List.range 10).all fun i => decide (PySem.intText? (⟨#[48 + i]⟩ : Str) = some (i : Int)) && (List.range 10).all fun j => decide (PySem.intText? (⟨#[48 + i, 48 + j]⟩ : Str) = some ((i : Int) * 10 + (j : Int)))) = true := by decide +kernel
theorem int1 {a : Nat} (h : 48 ≤ a ∧ a ≤ 57) : PySem.intText? (⟨#[a]⟩ : Str) = some ((a : Int) - 48) := by
  have h1 := List.all_eq_true.mp int_all (a - 48) (List.mem_range.mpr (by omega))
  simp only [Bool.and_eq_true, decide_eq_true_eq] at h1
  have h2 := h1.1
  rw [show 48 + (a - 48) = a by omega] at h2
  rw [h2]
  congr 1
  omega
theorem int2 {a b : Nat} (h : 48 ≤ a ∧ a ≤ 57) (hb : 48 ≤ b ∧ b ≤ 57) : PySem.intText? (⟨#[a, b]⟩ : Str) = some (((a : Int) - 48) * 10 + ((b : Int) - 48)) := by
  have h1 := List.all_eq_true.mp int_all (a - 48) (List.mem_range.mpr (by omega))
  simp only [Bool.and_eq_true, decide_eq_true_eq] at h1
  have h2 := List.all_eq_true.mp h1.2 (b - 48) (List.mem_range.mpr (by omega))
  simp only [decide_eq_true_eq] at h2
  rw [show 48 + (a - 48) = a by omega, show 48 + (b - 48) = b by omega] at h2
  rw [h2]
  congr 1
  omega
theorem rd_bound {z : Str} {i : Int} (h : rdI z = some i) : 0 ≤ i ∧ i ≤ 99 := by
  unfold rdI at h
  match e : z.cps.toList with
  | [] => rw [e] at h; cases h
  | [a] =>
    rw [e] at h
    simp only [rdN] at h
    split at h
    · injection h with h; omega
    · cases h
  | [a, b] =>
    rw [e] at h
    simp only [rdN] at h
    split at h
    · injection h with h; omega
    · cases h
  | a :: b :: c :: r => rw [e] at h; cases h
theorem allSome_map (L : List Int) : allSome (L.map some) = some L := by
  induction L with
  | nil => rfl
  | cons i r ih => rw [List.map_cons]; unfold allSome; rw [ih]
theorem keep_ok {L : List Int} (h : okL L) : keep (L.map some) = some L := by
  unfold keep
  rw [allSome_map]
  simp only
  rw [if_pos ⟨h.1, h.2.1⟩]
theorem okL_ne {L : List Int} (h : okL L) : L ≠ [] := fun e => by
  subst e
  exact h.2.1 rfl
theorem rdL_fL {L : List Int} (h : okL L) : rdL (fL L) = some L := by
  unfold rdL fL
  rw [TL.split_join (s := 46) (S := []) (by rfl) (by decide +kernel) (fun e => okL_ne h (List.map_eq_nil_iff.mp e)) fun p hp => ?_]
  · rw [List.map_map]
    have e : L.map (rdI ∘ fun i => (toString i : Str)) = L.map some := List.map_congr_left fun i hi => (num_ok (h.2.2 i hi).1 (h.2.2 i hi).2).2.2.2
    rw [e, keep_ok h]
  · obtain ⟨i, hi, rfl⟩ := List.mem_map.mp hp
    intro hc
    have := (num_ok (h.2.2 i hi).1 (h.2.2 i hi).2).2.2.1 46 hc
    omega
theorem cut_m1 (z : Str) (c : Nat) : cutS (z ++ (⟨#[c]⟩ : Str)) none (some (-1)) = z := by
  unfold cutS
  have e : (z ++ (⟨#[c]⟩ : Str)).cps.toList = z.cps.toList ++ [c] := cps_toList_append z _
  have l : (z ++ (⟨#[c]⟩ : Str)).length = z.length + 1 := str_len_snoc z c
  rw [e, HT.sIx_none, List.drop_zero, l]
  rw [show HT.sIx (z.length + 1) (z.length + 1) (some (-1)) = z.length by
    show ((-1 : Int) + ((z.length + 1 : Nat) : Int)).toNat = z.length
    omega]
  rw [Nat.sub_zero, List.take_left' (show z.cps.toList.length = z.length from rfl)]
theorem rdP_fP {p : Pg} (h : okP p) : rdP (fP p) = some p := by
  obtain ⟨L, s⟩ := p
  obtain ⟨hL, hs⟩ := h
  have key : ∀ c : Nat, rdP (fL L ++ (⟨#[c]⟩ : Str)) = if c = 97 ∨ c = 98 then some (L, (c : Int) - 97) else none := fun c => by
    unfold rdP
    rw [show (fL L ++ (⟨#[c]⟩ : Str)).cps.toList = (fL L).cps.toList ++ [c] from cps_toList_append _ _, List.getLast?_append, cut_m1, rdL_fL hL]
    rfl
  rcases hs with rfl | rfl
  · exact key 97
  · exact key 98
theorem fP_inj {p q : Pg} (hp : okP p) (hq : okP q) (e : fP p = fP q) : p = q := by
  have h := rdP_fP hp
  rw [e, rdP_fP hq] at h
  exact (Option.some.inj h).symm
theorem fL_free {L : List Int} (h : okL L) : ∀ c ∈ (fL L).cps.toList, c ≠ 45 := by
  intro c hc e
  subst e
  unfold fL at hc
  rw [TL.join_eq] at hc
  rcases (mem_join _ _ _).mp hc with ⟨t, ht, h1⟩ | ⟨_, h1⟩
  · obtain ⟨i, hi, rfl⟩ := List.mem_map.mp ht
    have := (num_ok (h.2.2 i hi).1 (h.2.2 i hi).2).2.2.1 45 h1
    omega
  · revert h1
    decide +kernel
theorem fP_free {p : Pg} (h : okP p) : 45 ∉ TL.tl (fP p) := by
  intro hc
  have hc2 : 45 ∈ (fP p).cps.toList := hc
  unfold fP at hc2
  rw [cps_toList_append] at hc2
  rcases List.mem_append.mp hc2 with h1 | h1
  · exact fL_free h.1 45 h1 rfl
  · split at h1 <;> (revert h1; decide +kernel)
theorem rdR_two {p q : Pg} (hp : okP p) (hq : okP q) : rdR (fP p ++ "-" ++ fP q) = some (p, q) := by
  unfold rdR
  have e : fP p ++ "-" ++ fP q = Txt.join "-" [fP p, fP q] := by rw [TL.join_eq]; rfl
  rw [e, TL.split_join (s := 45) (S := []) (by rfl) (by decide +kernel) (by simp) fun z hz => ?_]
  · simp only [List.map_cons, List.map_nil, rdP_fP hp, rdP_fP hq]
  · rcases List.mem_cons.mp hz with h | h
    · rw [h]; exact fP_free hp
    · rw [List.mem_singleton.mp h]; exact fP_free hq
theorem rdR_one {p : Pg} (hp : okP p) : rdR (fP p) = some (p, p) := by
  unfold rdR
  have e : fP p = Txt.join "-" [fP p] := by rw [TL.join_eq]; rfl
  rw [e, TL.split_join (s := 45) (S := []) (by rfl) (by decide +kernel) (by simp) fun z hz => ?_]
  · simp only [List.map_cons, List.map_nil]
    rw [rdP_fP hp]
  · rw [List.mem_singleton.mp hz]; exact fP_free hp
theorem rdR_fR {p q : Pg} (hp : okP p) (hq : okP q) : rdR (fR p q) = some (p, q) := by
  unfold fR
  split
  · rename_i e
    rw [← fP_inj hp hq e]
    exact rdR_one hp
  · exact rdR_two hp hq
theorem fL_len {L : List Int} (h : okL L) : (fL L).length ≤ 8 ∧ 1 ≤ (fL L).length := by
  have hn := okL_ne h
  have l1 : ("." : Str).length = 1 := by decide +kernel
  have ap : ∀ x y : Str, (x ++ y).length = x.length + y.length := fun x y => by
    show (x.cps ++ y.cps).size = _
    rw [Array.size_append]; rfl
  have nn := fun i hi => num_ok (h.2.2 i hi).1 (h.2.2 i hi).2
  unfold fL
  rw [TL.join_eq]
  match L, h, hn, nn with
  | [a], _, _, nn =>
    have := nn a (List.mem_singleton.mpr rfl)
    show ((toString a : Str)).length ≤ 8 ∧ 1 ≤ ((toString a : Str)).length
    omega
  | [a, b], _, _, nn =>
    have h1 := nn a (by simp)
    have h2 := nn b (by simp)
    show ((toString a : Str) ++ "." ++ (toString b : Str)).length ≤ 8 ∧ 1 ≤ ((toString a : Str) ++ "." ++ (toString b : Str)).length
    rw [ap, ap, l1]
    omega
  | [a, b, c], _, _, nn =>
    have h1 := nn a (by simp)
    have h2 := nn b (by simp)
    have h3 := nn c (by simp)
    show ((toString a : Str) ++ "." ++ ((toString b : Str) ++ "." ++ (toString c : Str))).length ≤ 8 ∧ 1 ≤ ((toString a : Str) ++ "." ++ ((toString b : Str) ++ "." ++ (toString c : Str))).length
    rw [ap, ap, ap, ap, l1]
    omega
  | a :: b :: c :: d :: r, h, _, _ => have := h.1; simp only [List.length_cons] at this; omega
theorem fP_len {p : Pg} (h : okP p) : (fP p).length ≤ 9 ∧ 2 ≤ (fP p).length := by
  have h1 := fL_len h.1
  have ap : ∀ x y : Str, (x ++ y).length = x.length + y.length := fun x y => by
    show (x.cps ++ y.cps).size = _
    rw [Array.size_append]; rfl
  unfold fP
  rw [ap]
  have : (if p.2 = 0 then ("a" : Str) else "b").length = 1 := by split <;> decide +kernel
  omega
/-! ### data in the heap -/
def Seq (K : PySem.W.Frag) (H : Hp) (a : Addr) (xs : List V) : Prop := SqL K H a xs ∨ SqT K H a xs
def PageAt (K : PySem.W.Frag) (H : Hp) (v : V) (p : Pg) : Prop := ∃ a l : Addr, v = .ref a ∧ Seq K H a [.ref l, .int p.2] ∧ Seq K H l (p.1.map V.int)
theorem ty_L {K : PySem.W.Frag} {H : Hp} {a : Addr} {xs : List V} (h : SqL K H a xs) : TyX K H (.ref a) (.type "list") := by
  rcases h with (h | ⟨o, h⟩) | ⟨o, its, n, h, c, _⟩
  · exact .base (.lst h)
  · exact .base (.frz h)
  · exact .kList h c
theorem ty_T {K : PySem.W.Frag} {H : Hp} {a : Addr} {xs : List V} (h : SqT K H a xs) : TyX K H (.ref a) (.type "tuple") := by
  rcases h with (h | ⟨o, h⟩) | ⟨o, its, n, h, c, _⟩
  · exact .base (.tup h)
  · exact .fTuple h
  · exact .kTuple h c
theorem kit2_T {K : PySem.W.Frag} : PySem.W.kitAny K (.type "tuple") [.type "tuple", .type "list"] = some true :=
  kitAny_cons (kit_ty (r := true) (by decide +kernel)) (fun h => nomatch h) (fun _ => rfl)
theorem kit2_L {K : PySem.W.Frag} : PySem.W.kitAny K (.type "list") [.type "tuple", .type "list"] = some true :=
  kitAny_cons (kit_ty (r := false) (by decide +kernel)) (fun _ => kitAny_cons (kit_ty (r := true) (by decide +kernel)) (fun h => nomatch h) (fun _ => rfl)) (fun h => nomatch h)
mutual
theorem dp_same {K : PySem.W.Frag} {H H' : Hp} (e : Same H H') : ∀ {v : V} {d : PyData}, Dp K H v d → Dp K H' v d
  | _, _, .non => .non
  | _, _, .bl b => .bl b
  | _, _, .int i => .int i
  | _, _, .str x => .str x
  | _, _, .lst h a => .lst (e.seq h) (dpAll_same e a)
  | _, _, .tup h a => .tup (same_seqT e h) (dpAll_same e a)
theorem dpAll_same {K : PySem.W.Frag} {H H' : Hp} (e : Same H H') : ∀ {vs : List V} {ds : List PyData}, DpAll K H vs ds → DpAll K H' vs ds
  | _, _, .nil => .nil
  | _, _, .cons h a => .cons (dp_same e h) (dpAll_same e a)
end
theorem dpL {K : PySem.W.Frag} {H : Hp} {a : Addr} {L : List Int} (h : SqT K H a (L.map V.int)) : Dp K H (.ref a) (dL L) := .tup h (dp_ints L)
theorem dp_ints_inv {K : PySem.W.Frag} {H : Hp} : ∀ {L : List Int} {vs : List V}, DpAll K H vs (L.map PyData.int) → vs = L.map V.int
  | [], _, .nil => rfl
  | i :: r, _, .cons h a => by
    cases h
    rw [dp_ints_inv a]
    rfl
theorem dL_inv {K : PySem.W.Frag} {H : Hp} {v : V} {L : List Int} (h : Dp K H v (dL L)) : ∃ a, v = .ref a ∧ SqT K H a (L.map V.int) := by
  cases h with
  | tup h a =>
    rw [dp_ints_inv a] at h
    exact ⟨_, rfl, h⟩
theorem dP_inv {K : PySem.W.Frag} {H : Hp} {v : V} {p : Pg} (h : Dp K H v (dP p)) : ∃ a l, v = .ref a ∧ SqT K H a [.ref l, .int p.2] ∧ SqT K H l (p.1.map V.int) := by
  cases h with
  | tup h a =>
    cases a with
    | cons h1 a =>
      cases a with
      | cons h2 a =>
        cases a
        cases h2
        obtain ⟨l, rfl, hl⟩ := dL_inv h1
        exact ⟨_, l, rfl, h, hl⟩
theorem dR_inv {K : PySem.W.Frag} {H : Hp} {v : V} {r : Pg × Pg} (h : Dp K H v (dR r)) : ∃ a x y, v = .ref a ∧ SqT K H a [x, y] ∧ Dp K H x (dP r.1) ∧ Dp K H y (dP r.2) := by
  cases h with
  | tup h a =>
    cases a with
    | cons h1 a =>
      cases a with
      | cons h2 a =>
        cases a
        exact ⟨_, _, _, rfl, h, h1, h2⟩
theorem pageAt_of {K : PySem.W.Frag} {H : Hp} {v : V} {p : Pg} (h : Dp K H v (dP p)) : PageAt K H v p := by
  obtain ⟨a, l, rfl, h1, h2⟩ := dP_inv h
  exact ⟨a, l, rfl, .inr h1, .inr h2⟩
theorem pageAt_same {K : PySem.W.Frag} {H H' : Hp} (e : Same H H') {v : V} {p : Pg} (h : PageAt K H v p) : PageAt K H' v p := by
  obtain ⟨a, l, rfl, h1, h2⟩ := h
  exact ⟨a, l, rfl, same_sq e h1, same_sq e h2⟩
theorem dp_opt {K : PySem.W.Frag} {H : Hp} {v : V} {α : Type} {f : α → PyData} (h : Dp K H v (oD f none)) : v = .non := by
  cases h
  rfl
theorem log_small {n : Nat} (h : n ≤ 99) : n.log2 < 1920 := Nat.lt_of_le_of_lt (Nat.log2_le_self n) (by omega)
section
variable {X : Cx} {e : Expr} {t u : TG}
theorem pg_or (a : PG X e t) (b : PG X e u) : PG X e (fun v σ H Q => t v σ H Q ∨ u v σ H Q) :=
  ⟨fun pins s σ H v w Q I r h => h.elim (fun h => a.run pins s σ H v w Q I r h) (fun h => b.run pins s σ H v w Q I r h)⟩
end
def dg (c : Nat) : Bool := decide (48 ≤ c ∧ c ≤ 57)
theorem dig_in (c : Nat) : decide (c ∈ ("0123456789" : Str).cps.toList) = dg c := by
  have e : ("0123456789" : Str).cps.toList = [48, 49, 50, 51, 52, 53, 54, 55, 56, 57] := by decide +kernel
  unfold dg
  rw [e]
  apply decide_eq_decide.mpr
  simp only [List.mem_cons, List.not_mem_nil, or_false]
  omega
theorem str1 {z : Str} {a : Nat} (h : z.cps.toList = [a]) : z = ⟨#[a]⟩ := TL.ext_tl h
theorem str2 {z : Str} {a b : Nat} (h : z.cps.toList = [a, b]) : z = ⟨#[a, b]⟩ := TL.ext_tl h
theorem len_cps (z : Str) : z.length = z.cps.toList.length := rfl
theorem zero_ne2 (a b : Nat) : (V.str ⟨#[a, b]⟩ = V.str "0") = False := by
  apply propext
  refine ⟨fun h => ?_, False.elim⟩
  injection h with h
  have := congrArg (fun s : Str => s.cps.size) h
  cases this
theorem zero_eq1 (a : Nat) : (V.str ⟨#[a]⟩ = V.str "0") = (a = 48) := by
  apply propext
  refine ⟨fun h => ?_, fun h => by subst h; rfl⟩
  injection h with h
  injection h with h
  exact (List.cons.inj (congrArg Array.toList h)).1
theorem split_cnt (x y : Str) (hy : 1 ≤ y.length) : (Txt.split x y).length ≤ x.length + 1 := by
  have := split_weight x y hy
  omega
theorem mem_sum {zs : List Str} {z : Str} (h : z ∈ zs) : z.length + zs.length ≤ (zs.map (·.length)).sum + zs.length := by
  have : z.length ≤ (zs.map (·.length)).sum := by
    induction zs with
    | nil => cases h
    | cons y r ih =>
      rw [List.map_cons, List.sum_cons]
      rcases List.mem_cons.mp h with e | e
      · rw [e]; omega
      · have := ih e; omega
  omega
theorem split_part (x y : Str) (hy : 1 ≤ y.length) {z : Str} (h : z ∈ Txt.split x y) : z.length ≤ x.length := by
  have h1 := split_weight x y hy
  have h2 := mem_sum h
  have h3 : 1 ≤ (Txt.split x y).length := List.length_pos_of_mem h
  omega
theorem rdI_some {os : List Str} {i : Int} (h : some i ∈ os.map rdI) : 0 ≤ i ∧ i ≤ 99 := by
  obtain ⟨z, _, e⟩ := List.mem_map.mp h
  exact rd_bound e
theorem some_bound {L : List Int} (h : okL L) {i : Int} (hi : some i ∈ L.map some) : 0 ≤ i ∧ i ≤ 99 := by
  obtain ⟨j, hj, e⟩ := List.mem_map.mp hi
  injection e with e
  subst e
  exact h.2.2 _ hj
theorem optI_map (L : List Int) : (L.map some).map optI = L.map V.int := by
  rw [List.map_map]
  rfl
theorem num_fit {L : List Int} (h : okL L) : ((L.map fun i => (toString i : Str)).map (·.length)).sum + (L.map fun i => (toString i : Str)).length * ("." : Str).length ≤ 16777216 := by
  have l1 : ("." : Str).length = 1 := by decide +kernel
  have h1 : ((L.map fun i => (toString i : Str)).map (·.length)).sum ≤ 2 * L.length := by
    have hb := h.2.2
    clear h
    induction L with
    | nil => exact Nat.le_refl _
    | cons i r ih =>
      have hi := num_ok (hb i (List.mem_cons_self ..)).1 (hb i (List.mem_cons_self ..)).2
      have := ih fun j hj => hb j (List.mem_cons_of_mem _ hj)
      simp only [List.map_cons, List.sum_cons, List.length_cons]
      omega
  have h2 := h.1
  rw [l1, List.length_map]
  omega
theorem split_ne (x y : Str) : Txt.split x y ≠ [] := by
  unfold Txt.split
  split
  · simp
  · split
    · simp
    · rw [StrLaws.partsBetween_eq]
      intro h
      generalize Builtin.Str.occurrences x y 0 x.length (x.length + 1) = cuts at h
      cases cuts with
      | nil => cases h
      | cons c r => cases h
theorem seqT_but {K : PySem.W.Frag} {H H' : Hp} {a p : Addr} {xs ys : List V} (ha : H a = some (.lst xs)) (b : But a H H') (h : SqT K H p ys) : SqT K H' p ys :=
  h.elim (fun r => .inl (r.elim (fun e => .inl (b p _ (ne_of e ha (by intro z; cases z)) e)) (fun ⟨o, e⟩ => .inr ⟨o, b p _ (ne_of e ha (by intro z; cases z)) e⟩))) .inr
/-- nothing, ints, tuples -/
def Pn : Nat → PyData → Prop
  | _, .none => True
  | _, .int _ => True
  | n + 1, .tuple ds => ∀ d ∈ ds, Pn n d
  | _, _ => False
mutual
theorem dp_but {K : PySem.W.Frag} {H H' : Hp} {a : Addr} {xs : List V} (ha : H a = some (.lst xs)) (b : But a H H') : ∀ {v : V} {d : PyData}, Dp K H v d → (∃ n, Pn n d) → Dp K H' v d
  | _, _, .non, _ => .non
  | _, _, .bl b, _ => .bl b
  | _, _, .int i, _ => .int i
  | _, _, .str x, _ => .str x
  | _, _, .lst _ _, ⟨n, h⟩ => by cases n <;> exact h.elim
  | _, _, .tup h k, ⟨0, z⟩ => z.elim
  | _, _, .tup h k, ⟨n + 1, z⟩ => .tup (seqT_but ha b h) (dpAll_but ha b k fun d hd => ⟨n, z d hd⟩)
theorem dpAll_but {K : PySem.W.Frag} {H H' : Hp} {a : Addr} {xs : List V} (ha : H a = some (.lst xs)) (b : But a H H') : ∀ {vs : List V} {ds : List PyData}, DpAll K H vs ds → (∀ d ∈ ds, ∃ n, Pn n d) → DpAll K H' vs ds
  | _, _, .nil, _ => .nil
  | _, _, .cons h k, z => .cons (dp_but ha b h (z _ (List.mem_cons_self ..))) (dpAll_but ha b k fun d hd => z d (List.mem_cons_of_mem _ hd))
end
theorem dpAll_snoc {K : PySem.W.Frag} {H : Hp} : ∀ {vs : List V} {ds : List PyData} {v : V} {d : PyData}, DpAll K H vs ds → Dp K H v d → DpAll K H (vs ++ [v]) (ds ++ [d])
  | _, _, _, _, .nil, h => .cons h .nil
  | _, _, _, _, .cons k r, h => .cons k (dpAll_snoc r h)
theorem dpAll_len {K : PySem.W.Frag} {H : Hp} : ∀ {vs : List V} {ds : List PyData}, DpAll K H vs ds → vs.length = ds.length
  | _, _, .nil => rfl
  | _, _, .cons _ r => congrArg (· + 1) (dpAll_len r)
theorem pn_L (L : List Int) : Pn 1 (dL L) := fun d hd => by
  obtain ⟨i, _, rfl⟩ := List.mem_map.mp hd
  trivial
theorem pn_P (p : Pg) : Pn 2 (dP p) := fun d hd => by
  rcases List.mem_cons.mp hd with h | h
  · rw [h]; exact pn_L p.1
  · rw [List.mem_singleton.mp h]; trivial
theorem pn_oL : ∀ o : Option (List Int), Pn 1 (oD dL o)
  | none => trivial
  | some L => pn_L L
theorem pn_oP : ∀ o : Option Pg, Pn 2 (oD dP o)
  | none => trivial
  | some p => pn_P p
theorem lay_pn : ∀ (n : Nat) (d : PyData), Pn n d → d.canLay0 = true ∧ d.depth ≤ n
  | _, .none, _ => ⟨rfl, Nat.zero_le _⟩
  | _, .int _, _ => ⟨rfl, Nat.zero_le _⟩
  | 0, .tuple ds, h => h.elim
  | n + 1, .tuple ds, h => by
    have key : ∀ es : List PyData, (∀ d ∈ es, Pn n d) → PyData.canLayAll0 es = true ∧ PyData.depthAll es ≤ n := by
      intro es
      induction es with
      | nil => exact fun _ => ⟨rfl, Nat.zero_le _⟩
      | cons d r ih =>
        intro hh
        have h1 := lay_pn n d (hh d (List.mem_cons_self ..))
        have h2 := ih fun e he => hh e (List.mem_cons_of_mem _ he)
        refine ⟨?_, ?_⟩
        · show (d.canLay0 && PyData.canLayAll0 r) = true
          rw [h1.1, h2.1]
          rfl
        · show max d.depth (PyData.depthAll r) ≤ n
          omega
    have := key ds h
    exact ⟨this.1, Nat.succ_le_succ this.2⟩
  | _, .bool _, h => by simp [Pn] at h
  | _, .str _, h => by simp [Pn] at h
  | _, .list _, h => by simp [Pn] at h
  | _, .dict _, h => by simp [Pn] at h
theorem shaped_pn {n : Nat} {d : PyData} (h : Pn n d) (hn : n ≤ 64) : SeqAt.shaped d = true := by
  have := lay_pn n d h
  unfold SeqAt.shaped
  rw [Bool.and_eq_true]
  exact ⟨this.1, decide_eq_true (by omega)⟩
theorem shaped_pnl {n : Nat} {ds : List PyData} (h : ∀ d ∈ ds, Pn n d) (hn : n ≤ 63) : SeqAt.shaped (.list ds) = true := by
  have := lay_pn (n + 1) (.tuple ds) h
  unfold SeqAt.shaped
  rw [Bool.and_eq_true]
  exact ⟨this.1, decide_eq_true (by have := this.2; show PyData.depthAll ds + 1 ≤ 64; have e : (PyData.tuple ds).depth = PyData.depthAll ds + 1 := rfl; omega)⟩
theorem none_in (os : List (Option Pg)) : ((os.map (oD dP)).any fun z => PyData.eqv z .none) = os.any (·.isNone) := by
  induction os with
  | nil => rfl
  | cons o r ih =>
    rw [List.map_cons, List.any_cons, List.any_cons, ih]
    cases o <;> rfl
theorem cut_end (z : Str) : (z.cps.toList = [] ∧ cutS z (some (-1)) none = Str.empty) ∨ ∃ c, z.cps.toList.getLast? = some c ∧ cutS z (some (-1)) none = ⟨#[c]⟩ := by
  cases e : z.cps.toList.getLast? with
  | none =>
    have h := List.getLast?_eq_none_iff.mp e
    refine .inl ⟨h, ?_⟩
    unfold cutS
    rw [h]
    simp [Str.empty]
  | some c =>
    refine .inr ⟨c, rfl, ?_⟩
    obtain ⟨l, hl⟩ := List.getLast?_eq_some_iff.mp e
    unfold cutS
    have hz : z.length = l.length + 1 := by
      show z.cps.toList.length = _
      rw [hl, List.length_append]
      rfl
    rw [hz, HT.sIx_none, show HT.sIx (l.length + 1) 0 (some (-1)) = l.length by
      show ((-1 : Int) + ((l.length + 1 : Nat) : Int)).toNat = l.length
      omega, hl, List.drop_left' rfl]
    rw [show l.length + 1 - l.length = 1 by omega]
    rfl
theorem ab_in (y : Str) : inV (.str y) [.str "a", .str "b"] = decide (y = ⟨#[97]⟩ ∨ y = ⟨#[98]⟩) := by
  show ((("a" : Str) == y) || ((("b" : Str) == y) || false)) = _
  have ea : ("a" : Str) = ⟨#[97]⟩ := rfl
  have eb : ("b" : Str) = ⟨#[98]⟩ := rfl
  rw [ea, eb, Bool.or_false]
  by_cases h1 : y = ⟨#[97]⟩
  · subst h1; simp
  · by_cases h2 : y = ⟨#[98]⟩
    · subst h2; simp
    · have h1' : ¬ (⟨#[97]⟩ : Str) = y := fun e => h1 e.symm
      have h2' : ¬ (⟨#[98]⟩ : Str) = y := fun e => h2 e.symm
      simp [h1, h2, h1', h2']
theorem one_inj {a b : Nat} (h : (⟨#[a]⟩ : Str) = ⟨#[b]⟩) : a = b := by
  injection h with h
  exact (List.cons.inj (congrArg Array.toList h)).1
theorem eqv_dP (p q : Pg) : PyData.eqv (dP p) (dP q) = decide (p = q) := by
  show (PyData.eqvAll (p.1.map PyData.int) (q.1.map PyData.int) && ((p.2 == q.2) && true)) = _
  rw [eqv_ints, Bool.and_true]
  obtain ⟨a, b⟩ := p
  obtain ⟨c, d⟩ := q
  by_cases h1 : a = c
  · by_cases h2 : b = d
    · subst h1; subst h2; simp
    · simp [h1, h2]
  · simp [h1]
theorem allSome_none {os : List (Option Int)} (h : none ∈ os) : allSome os = none := by
  induction os with
  | nil => cases h
  | cons o r ih =>
    rcases o with _ | i
    · rfl
    · have h2 : none ∈ r := (List.mem_cons.mp h).resolve_left (by simp)
      unfold allSome
      rw [ih h2]
theorem keep_none {os : List (Option Int)} (h : none ∈ os) : keep os = none := by
  unfold keep
  rw [allSome_none h]
theorem keep_map (L : List Int) : keep (L.map some) = if L.length ≤ 3 ∧ L.getLastD 0 ≠ 0 then some L else none := by
  unfold keep
  rw [allSome_map]
/-! ### data that was laid since -/
mutual
inductive Fd (H0 H : Hp) : V → PyData → Prop
  | int (i : Int) : Fd H0 H (.int i) (.int i)
  | lst {a : Addr} {vs : List V} {ds : List PyData} (h : H a = some (.lst vs)) (n : H0 a = none) (r : FdAll H0 H vs ds) : Fd H0 H (.ref a) (.list ds)
inductive FdAll (H0 H : Hp) : List V → List PyData → Prop
  | nil : FdAll H0 H [] []
  | cons {v : V} {vs : List V} {d : PyData} {ds : List PyData} (h : Fd H0 H v d) (r : FdAll H0 H vs ds) : FdAll H0 H (v :: vs) (d :: ds)
end
mutual
theorem fd_to {H0 H H0' H' : Hp} (hm : ∀ a o, H0 a = none → H a = some o → H0' a = none ∧ H' a = some o) : ∀ {v : V} {d : PyData}, Fd H0 H v d → Fd H0' H' v d
  | _, _, .int i => .int i
  | _, _, .lst h n r => .lst (hm _ _ n h).2 (hm _ _ n h).1 (fdAll_to hm r)
theorem fdAll_to {H0 H H0' H' : Hp} (hm : ∀ a o, H0 a = none → H a = some o → H0' a = none ∧ H' a = some o) : ∀ {vs : List V} {ds : List PyData}, FdAll H0 H vs ds → FdAll H0' H' vs ds
  | _, _, .nil => .nil
  | _, _, .cons h r => .cons (fd_to hm h) (fdAll_to hm r)
end
mutual
theorem fd_dp {K : PySem.W.Frag} {H0 H : Hp} : ∀ {v : V} {d : PyData}, Fd H0 H v d → Dp K H v d
  | _, _, .int i => .int i
  | _, _, .lst h _ r => .lst (.inl (.inl h)) (fdAll_dp r)
theorem fdAll_dp {K : PySem.W.Frag} {H0 H : Hp} : ∀ {vs : List V} {ds : List PyData}, FdAll H0 H vs ds → DpAll K H vs ds
  | _, _, .nil => .nil
  | _, _, .cons h r => .cons (fd_dp h) (fdAll_dp r)
end
theorem fdAll_snoc {H0 H : Hp} : ∀ {vs : List V} {ds : List PyData} {v : V} {d : PyData}, FdAll H0 H vs ds → Fd H0 H v d → FdAll H0 H (vs ++ [v]) (ds ++ [d])
  | _, _, _, _, .nil, h => .cons h .nil
  | _, _, _, _, .cons k r, h => .cons k (fdAll_snoc r h)
theorem fdAll_len {H0 H : Hp} : ∀ {vs : List V} {ds : List PyData}, FdAll H0 H vs ds → vs.length = ds.length
  | _, _, .nil => rfl
  | _, _, .cons _ r => congrArg (· + 1) (fdAll_len r)
theorem fdAll_same {H0 H H' : Hp} (s : Same H H') {vs : List V} {ds : List PyData} (h : FdAll H0 H vs ds) : FdAll H0 H' vs ds := fdAll_to (fun a o n e => ⟨n, s a o e⟩) h
theorem dpAll_get {K : PySem.W.Frag} {H : Hp} : ∀ {vs : List V} {ds : List PyData} {i : Nat} {v : V}, DpAll K H vs ds → vs[i]? = some v → ∃ d, ds[i]? = some d ∧ Dp K H v d
  | _, _, _, _, .nil, e => nomatch e
  | _, _, 0, _, .cons h r, e => by
    injection e with e
    subst e
    exact ⟨_, rfl, h⟩
  | _, _, i + 1, _, .cons h r, e => by
    obtain ⟨d, e1, e2⟩ := dpAll_get (i := i) r e
    exact ⟨d, e1, e2⟩
theorem dpAll_get2 {K : PySem.W.Frag} {H : Hp} {vs : List V} {ds : List PyData} {i : Nat} {d : PyData} (h : DpAll K H vs ds) (e : ds[i]? = some d) : ∃ v, vs[i]? = some v ∧ Dp K H v d := by
  have hi := (List.getElem?_eq_some_iff.mp e).1
  rw [← dpAll_len h] at hi
  have e1 := List.getElem?_eq_getElem hi
  obtain ⟨d', e2, e3⟩ := dpAll_get h e1
  rw [e] at e2
  injection e2 with e2
  subst e2
  exact ⟨_, e1, e3⟩
theorem ixN_end (R : List Int) (x : Int) : ixN ((R ++ [x]).map V.int).length (-1) = some R.length := by
  unfold ixN
  rw [List.length_map, List.length_append, List.length_singleton, if_neg (by decide), if_pos (by omega)]
  congr 1
  omega
theorem set_end (R : List Int) (x v : Int) : ((R ++ [x]).map V.int).set R.length (.int v) = (R ++ [v]).map V.int := by
  rw [List.map_append, List.map_append, List.set_append_right _ _ (by rw [List.length_map]; exact Nat.le_refl _), List.length_map, Nat.sub_self]
  rfl
theorem at_end (R : List Int) (x : Int) : atI ((R ++ [x]).map V.int) (-1) = some (.int x) := by
  rw [List.map_append]
  exact atI_last _ _
/-- a page that was laid apart from a -/
def PT (a : Addr) (H : Hp) (o : Addr) (p : Pg) : Prop := ∃ l, l ≠ a ∧ o ≠ a ∧ H o = some (.tup [.ref l, .int p.2]) ∧ H l = some (.tup (p.1.map V.int))
theorem PT.but {a o : Addr} {H H' : Hp} {p : Pg} (h : PT a H o p) (b : But a H H') : PT a H' o p := by
  obtain ⟨l, h1, h2, h3, h4⟩ := h
  exact ⟨l, h1, h2, b _ _ h2 h3, b _ _ h1 h4⟩
theorem PT.dp {K : PySem.W.Frag} {a o : Addr} {H : Hp} {p : Pg} (h : PT a H o p) : Dp K H (.ref o) (dP p) := by
  obtain ⟨l, h1, h2, h3, h4⟩ := h
  exact .tup (.inl (.inl h3)) (.cons (dpL (.inl (.inl h4))) (.cons (.int _) .nil))
theorem cut_to (z : Str) (k : Int) (h0 : 0 ≤ k) (h1 : k ≤ (z.length : Int)) : (cutS z none (some k)).length = k.toNat := by
  obtain ⟨n, rfl⟩ := Int.eq_ofNat_of_zero_le h0
  show (((z.cps.toList.drop 0).take (HT.sIx z.length z.length (some (n : Int)) - 0)).toArray).size = _
  rw [HT.sIx_nat, List.size_toArray, List.length_take, List.drop_zero, Array.length_toList]
  show min (min n z.length - 0) z.length = _
  omega
theorem cut_from (z : Str) (k : Int) (h0 : 0 ≤ k) : (cutS z (some k) none).length = z.length - k.toNat := by
  obtain ⟨n, rfl⟩ := Int.eq_ofNat_of_zero_le h0
  show (((z.cps.toList.drop (HT.sIx z.length 0 (some (n : Int)))).take (z.length - HT.sIx z.length 0 (some (n : Int)))).toArray).size = _
  rw [HT.sIx_nat, List.size_toArray, List.length_take, List.length_drop, Array.length_toList]
  show min (z.length - min n z.length) (z.length - min n z.length) = _
  omega
theorem at_some {α : Type} (xs : List α) (k : Int) (h0 : 0 ≤ k) (h1 : k < (xs.length : Int)) : ∃ c, atI xs k = some c := by
  obtain ⟨n, rfl⟩ := Int.eq_ofNat_of_zero_le h0
  exact ⟨_, atI_nat (List.getElem?_eq_getElem (show n < xs.length by omega))⟩
section
variable {P : Program} {w : World} {K : PySem.W.Frag} {mg : Str → Option Value} {base : Heap}
/-! ### the promises -/
def sp_is_integer (K : PySem.W.Frag) : Sp := fun vs H Q _ => ∃ o : Option Int, vs = [optI o] ∧ Q (.bl o.isSome) H
def isW (l m : Int) : Option Int → Bool
  | none => false
  | some i => decide (l ≤ i ∧ i ≤ m)
def sp_is_within (K : PySem.W.Frag) : Sp := fun vs H Q _ => ∃ (o : Option Int) (l m : Int), vs = [optI o, .int l, .int m] ∧ Q (.bl (isW l m o)) H
def sp_is_tuple (K : PySem.W.Frag) : Sp := fun vs H Q _ => ∃ (a : Addr) (xs : List V), vs = [.ref a] ∧ Seq K H a xs ∧ ∀ H', Same H H' → Q (.bl true) H'
def sp_is_sized (K : PySem.W.Frag) : Sp := fun vs H Q _ => ∃ (a : Addr) (xs : List V) (l m : Int), vs = [.ref a, .int l, .int m] ∧ Seq K H a xs ∧ ∀ H', Same H H' → Q (.bl (decide (l ≤ (xs.length : Int) ∧ (xs.length : Int) ≤ m))) H'
def sp_read_integer (K : PySem.W.Frag) : Sp := fun vs H Q _ => ∃ z : Str, vs = [.str z, .int 0, .int 99] ∧ z.length ≤ 1000 ∧ ∀ H', Same H H' → Q (optI (rdI z)) H'
def sp_kept_label (K : PySem.W.Frag) : Sp := fun vs H Q _ => ∃ (a : Addr) (os : List (Option Int)), vs = [.ref a] ∧ Seq K H a (os.map optI) ∧ os.length ≤ 1000 ∧ (∀ i, some i ∈ os → 0 ≤ i ∧ i ≤ 99) ∧ ∀ v H', Same H H' → Dp K H' v (oD dL (keep os)) → Q v H'
def sp_judged_label (K : PySem.W.Frag) : Sp := fun vs H Q _ => ∃ (a : Addr) (L : List Int), vs = [.ref a] ∧ Seq K H a (L.map V.int) ∧ okL L ∧ ∀ p H', Same H H' → SqT K H' p (L.map V.int) → Q (.ref p) H'
def sp_write_label (K : PySem.W.Frag) : Sp := fun vs H Q _ => ∃ (a : Addr) (L : List Int), vs = [.ref a] ∧ Seq K H a (L.map V.int) ∧ okL L ∧ ∀ H', Same H H' → Q (.str (fL L)) H'
def sp_read_label (K : PySem.W.Frag) : Sp := fun vs H Q _ => ∃ z : Str, vs = [.str z] ∧ z.length ≤ 500 ∧ ∀ v H', Same H H' → Dp K H' v (oD dL (rdL z)) → Q v H'
def sp_write_page (K : PySem.W.Frag) : Sp := fun vs H Q _ => ∃ (v : V) (p : Pg), vs = [v] ∧ PageAt K H v p ∧ okP p ∧ ∀ H', Same H H' → Q (.str (fP p)) H'
def sp_read_page (K : PySem.W.Frag) : Sp := fun vs H Q _ => ∃ z : Str, vs = [.str z] ∧ z.length ≤ 500 ∧ ∀ v H', Same H H' → Dp K H' v (oD dP (rdP z)) → Q v H'
def sp_span_token (K : PySem.W.Frag) : Sp := fun vs H Q _ => ∃ (v w : V) (p q : Pg), vs = [v, w] ∧ PageAt K H v p ∧ PageAt K H w q ∧ okP p ∧ okP q ∧ ∀ H', Same H H' → Q (.str (fR p q)) H'
def sp_write_range (K : PySem.W.Frag) : Sp := fun vs H Q _ => ∃ (a : Addr) (v w : V) (p q : Pg), vs = [.ref a] ∧ Seq K H a [v, w] ∧ PageAt K H v p ∧ PageAt K H w q ∧ okP p ∧ okP q ∧ ∀ H', Same H H' → Q (.str (fR p q)) H'
def sp_read_range (K : PySem.W.Frag) : Sp := fun vs H Q _ => ∃ z : Str, vs = [.str z] ∧ z.length ≤ 500 ∧ ∀ v H', Same H H' → Dp K H' v (oD dR (rdR z)) → Q v H'
def sp_source (K : PySem.W.Frag) : Sp := fun vs H Q _ => ∃ (a : Addr) (ns : List Int) (k : Nat), vs = [.ref a, .int k] ∧ SqL K H a (ns.map V.int) ∧ ∀ p H', Same H H' → H p = none → Src H' p → Q (.ref p) H'
def sp_pick (K : PySem.W.Frag) : Sp := fun vs H Q _ => ∃ (a : Addr) (m : Int), vs = [.ref a, .int m] ∧ Src H a ∧ 1 ≤ m ∧ m ≤ 1000000 ∧ ∀ r H', Src H' a → But a H H' → 0 ≤ r → r < m → Q (.int r) H'
def sp_law_is_integer (K : PySem.W.Frag) : Sp := fun vs H Q _ => ∃ i : Int, vs = [.int i] ∧ Q (.bl true) H
def sp_label_word (K : PySem.W.Frag) : Sp := fun vs H Q _ => ∃ (a : Addr) (L : List Int), vs = [.ref a] ∧ SqT K H a (L.map V.int) ∧ okL L ∧ ∀ H', Same H H' → Q (.str (fL L)) H'
def sp_page_word (K : PySem.W.Frag) : Sp := fun vs H Q _ => ∃ (v : V) (p : Pg), vs = [v] ∧ Dp K H v (dP p) ∧ okP p ∧ ∀ H', Same H H' → Q (.str (fP p)) H'
def sp_span_word (K : PySem.W.Frag) : Sp := fun vs H Q _ => ∃ (v w : V) (p q : Pg), vs = [v, w] ∧ Dp K H v (dP p) ∧ Dp K H w (dP q) ∧ okP p ∧ okP q ∧ ∀ H', Same H H' → Q (.str (fR p q)) H'
def sp_law_read_label (K : PySem.W.Frag) : Sp := fun vs H Q _ => ∃ z : Str, vs = [.str z] ∧ z.length ≤ 500 ∧ ∀ v H', Same H H' → Dp K H' v (oD dL (rdL z)) → Q v H'
def sp_law_read_page (K : PySem.W.Frag) : Sp := fun vs H Q _ => ∃ z : Str, vs = [.str z] ∧ z.length ≤ 500 ∧ ∀ v H', Same H H' → Dp K H' v (oD dP (rdP z)) → Q v H'
def sp_law_read_range (K : PySem.W.Frag) : Sp := fun vs H Q _ => ∃ z : Str, vs = [.str z] ∧ z.length ≤ 500 ∧ ∀ v H', Same H H' → Dp K H' v (oD dR (rdR z)) → Q v H'
/-- data of nothing, ints, texts, tuples, of less than this depth -/
def Pl : Nat → PyData → Prop
  | 0, _ => False
  | _ + 1, .none => True
  | _ + 1, .int _ => True
  | _ + 1, .str _ => True
  | n + 1, .tuple ds => ds.length ≤ 100 ∧ ∀ d ∈ ds, Pl n d
  | _ + 1, _ => False
def sp_same (K : PySem.W.Frag) (n : Nat) : Sp := fun vs H Q _ => ∃ (x y : V) (d : PyData), vs = [x, y] ∧ Dp K H x d ∧ Dp K H y d ∧ Pl n d ∧ Q (.bl true) H
/-- tuples and ints -/
def Pt : Nat → PyData → Prop
  | 0, _ => False
  | _ + 1, .int _ => True
  | n + 1, .tuple ds => ds.length ≤ 100 ∧ ∀ d ∈ ds, Pt n d
  | _ + 1, _ => False
mutual
def toL : PyData → PyData
  | .tuple ds => .list (toLs ds)
  | d => d
def toLs : List PyData → List PyData
  | [] => []
  | d :: r => toL d :: toLs r
end
def sp_as_lists (K : PySem.W.Frag) (n : Nat) : Sp := fun vs H Q _ => ∃ (x : V) (d : PyData), vs = [x] ∧ Dp K H x d ∧ Pt n d ∧ ∀ v H', Same H H' → Fd H H' v (toL d) → Q v H'
def sp_wide_label (K : PySem.W.Frag) : Sp := fun vs H Q _ => ∃ a : Addr, vs = [.ref a] ∧ Src H a ∧ ∀ p (L : List Int) H', H p = none → Src H' a → But a H H' → H' p = some (.tup (L.map V.int)) → okL L → Q (.ref p) H'
def sp_two_pages (K : PySem.W.Frag) : Sp := fun vs H Q _ => ∃ a : Addr, vs = [.ref a] ∧ Src H a ∧ ∀ v (r : Pg × Pg) H', Src H' a → But a H H' → Dp K H' v (dR r) → okP r.1 → okP r.2 → Q v H'
def sp_spoilt (K : PySem.W.Frag) : Sp := fun vs H Q _ => ∃ (a : Addr) (z : Str), vs = [.ref a, .str z] ∧ Src H a ∧ 1 ≤ z.length ∧ z.length ≤ 200 ∧ ∀ (y : Str) H', Src H' a → But a H H' → 1 ≤ y.length → y.length ≤ 3 * z.length + 1 → Q (.str y) H'
def sp_law (K : PySem.W.Frag) : Sp := fun vs H Q _ => ∃ (a : Addr) (ns : List Int), vs = [.ref a] ∧ SqL K H a (ns.map V.int) ∧ ns.length ≤ 63 ∧ ∀ H', Q (.bl true) H'
theorem pl_L {L : List Int} (h : L.length ≤ 3) (n : Nat) : Pl (n + 2) (dL L) := ⟨by rw [List.length_map]; omega, fun d hd => by
  obtain ⟨i, _, rfl⟩ := List.mem_map.mp hd
  trivial⟩
theorem pl_P {p : Pg} (h : p.1.length ≤ 3) (n : Nat) : Pl (n + 3) (dP p) := ⟨by show 2 ≤ 100; decide, fun d hd => by
  rcases List.mem_cons.mp hd with e | e
  · rw [e]; exact pl_L h n
  · rw [List.mem_singleton.mp e]; trivial⟩
theorem pl_R {r : Pg × Pg} (h1 : r.1.1.length ≤ 3) (h2 : r.2.1.length ≤ 3) : Pl 4 (dR r) := ⟨by show 2 ≤ 100; decide, fun d hd => by
  rcases List.mem_cons.mp hd with e | e
  · rw [e]; exact pl_P h1 0
  · rw [List.mem_singleton.mp e]; exact pl_P h2 0⟩
theorem pt_L {L : List Int} (h : L.length ≤ 3) (n : Nat) : Pt (n + 2) (dL L) := ⟨by rw [List.length_map]; omega, fun d hd => by
  obtain ⟨i, _, rfl⟩ := List.mem_map.mp hd
  trivial⟩
theorem pt_P {p : Pg} (h : p.1.length ≤ 3) (n : Nat) : Pt (n + 3) (dP p) := ⟨by show 2 ≤ 100; decide, fun d hd => by
  rcases List.mem_cons.mp hd with e | e
  · rw [e]; exact pt_L h n
  · rw [List.mem_singleton.mp e]; trivial⟩
theorem pt_R {r : Pg × Pg} (h1 : r.1.1.length ≤ 3) (h2 : r.2.1.length ≤ 3) : Pt 4 (dR r) := ⟨by show 2 ≤ 100; decide, fun d hd => by
  rcases List.mem_cons.mp hd with e | e
  · rw [e]; exact pt_P h1 0
  · rw [List.mem_singleton.mp e]; exact pt_P h2 0⟩
theorem rdL_len {z : Str} {L : List Int} (h : rdL z = some L) : L.length ≤ 3 := by
  unfold rdL keep at h
  split at h
  · split at h
    · rename_i c
      injection h with h
      rw [← h]
      exact c.1
    · cases h
  · cases h
theorem rdP_len {z : Str} {p : Pg} (h : rdP z = some p) : p.1.length ≤ 3 := by
  unfold rdP at h
  split at h
  · split at h
    · split at h
      · rename_i e
        injection h with h
        rw [← h]
        exact rdL_len e
      · cases h
    · cases h
  · cases h
theorem rdR_len {z : Str} {r : Pg × Pg} (h : rdR z = some r) : r.1.1.length ≤ 3 ∧ r.2.1.length ≤ 3 := by
  rw [rdR_eq] at h
  have mem : ∀ p, some p ∈ (Txt.split z "-").map rdP → p.1.length ≤ 3 := fun p hp => by
    obtain ⟨y, _, e⟩ := List.mem_map.mp hp
    exact rdP_len e
  generalize (Txt.split z "-").map rdP = ps at h mem
  unfold rdR2 at h
  split at h
  · injection h with h
    rw [← h]
    exact ⟨mem _ (List.mem_singleton.mpr rfl), mem _ (List.mem_singleton.mpr rfl)⟩
  · injection h with h
    rw [← h]
    exact ⟨mem _ (by simp), mem _ (by simp)⟩
  · cases h
theorem pl_rd (z : Str) : Pl 4 (oD dR (rdR z)) := by
  cases e : rdR z with
  | none => trivial
  | some r => exact pl_R (rdR_len e).1 (rdR_len e).2
def lP (p : Pg) : PyData := .list [.list (p.1.map PyData.int), .int p.2]
theorem toL_R (r : Pg × Pg) : toL (dR r) = .list [lP r.1, lP r.2] := by
  have h : ∀ L : List Int, toLs (L.map PyData.int) = L.map PyData.int := fun L => by
    induction L with
    | nil => rfl
    | cons i t ih => show PyData.int i :: toLs (t.map PyData.int) = _; rw [ih]; rfl
  show PyData.list [.list [.list (toLs (r.1.1.map PyData.int)), .int r.1.2], .list [.list (toLs (r.2.1.map PyData.int)), .int r.2.2]] = _
  rw [h, h]
  rfl
theorem fd_ints {H0 H : Hp} : ∀ {L : List Int} {vs : List V}, FdAll H0 H vs (L.map PyData.int) → vs = L.map V.int
  | [], _, .nil => rfl
  | i :: r, _, .cons h a => by
    cases h
    rw [fd_ints a]
    rfl
theorem fd_P {K : PySem.W.Frag} {H0 H : Hp} {v : V} {p : Pg} (h : Fd H0 H v (lP p)) : PageAt K H v p := by
  cases h with
  | lst h n r =>
    cases r with
    | cons h1 r =>
      cases r with
      | cons h2 r =>
        cases r
        cases h2
        cases h1 with
        | lst k m t =>
          rw [fd_ints t] at k
          exact ⟨_, _, rfl, .inl (.inl (.inl h)), .inl (.inl (.inl k))⟩
theorem fd_R {K : PySem.W.Frag} {H0 H : Hp} {v : V} {r : Pg × Pg} (h : Fd H0 H v (toL (dR r))) : ∃ a x y, v = .ref a ∧ H a = some (.lst [x, y]) ∧ PageAt K H x r.1 ∧ PageAt K H y r.2 := by
  rw [toL_R] at h
  cases h with
  | lst h n t =>
    cases t with
    | cons h1 t =>
      cases t with
      | cons h2 t =>
        cases t
        exact ⟨_, _, _, rfl, h, fd_P h1, fd_P h2⟩
theorem shaped_R (r : Pg × Pg) : SeqAt.shaped (toL (dR r)) = true := by
  rw [toL_R]
  unfold SeqAt.shaped
  rw [Bool.and_eq_true]
  refine ⟨?_, decide_eq_true ?_⟩
  · show ((PyData.canLayAll0 (r.1.1.map PyData.int) && (true && true)) && ((PyData.canLayAll0 (r.2.1.map PyData.int) && (true && true)) && true)) = true
    rw [can_ints, can_ints]
    rfl
  · show max (max (PyData.depthAll (r.1.1.map PyData.int) + 1) (max 0 0) + 1) (max (max (PyData.depthAll (r.2.1.map PyData.int) + 1) (max 0 0) + 1) 0) + 1 ≤ 64
    rw [depth_ints, depth_ints]
    decide
theorem eqv_R (r : Pg × Pg) : PyData.eqv (toL (dR r)) (toL (dR r)) = true := by
  rw [toL_R]
  show ((PyData.eqvAll (r.1.1.map PyData.int) (r.1.1.map PyData.int) && ((r.1.2 == r.1.2) && true)) && ((PyData.eqvAll (r.2.1.map PyData.int) (r.2.1.map PyData.int) && ((r.2.2 == r.2.2) && true)) && true)) = true
  rw [eqv_ints, eqv_ints]
  simp
theorem fR_len {p q : Pg} (hp : okP p) (hq : okP q) : 1 ≤ (fR p q).length ∧ (fR p q).length ≤ 19 := by
  have l1 := fP_len hp
  have l2 := fP_len hq
  have l3 : ("-" : Str).length = 1 := by decide +kernel
  have ap : ∀ x y : Str, (x ++ y).length = x.length + y.length := fun x y => by
    show (x.cps ++ y.cps).size = _
    rw [Array.size_append]; rfl
  unfold fR
  split
  · omega
  · rw [ap, ap, l3]; omega
theorem ok_is_integer (T : Tab K mg) : FnOk P w K mg base CX0 1 T.f_is_integer T.d_is_integer ["thing"] (sp_is_integer K) := by
  refine T.F_is_integer.ok sc_is_integer (fun vs H Q E h => ?_) (fun cdv A outer s H vs Q E hr h => ?_)
  · obtain ⟨o, rfl, _⟩ := h
    rfl
  · obtain ⟨o, rfl, q⟩ := h
    refine ⟨_, (pss_one (ps_ret (pe_and (pe_callB call_isi (by rfl) T.m_isinstance (by decide +kernel) (pa_cons (pv 0) (pa_cons (pe_bltn (v := .ty "int") (u := .type "int") (by rfl) T.m_int (by decide +kernel) rfl) pa_nil))) (pe_one (pe_not (pe_callB call_isi (by rfl) T.m_isinstance (by decide +kernel) (pa_cons (pv 0) (pa_cons (pe_bltn (v := .ty "bool") (u := .type "bool") (by rfl) T.m_bool (by decide +kernel) rfl) pa_nil)))))))), ?_⟩
    rcases o with _ | i
    · exact ⟨_, rfl, _, _, _, _, _, rfl, .ty "int", .base .non, kit_ty (r := false) (by decide +kernel), false, rfl, q⟩
    · refine ⟨_, rfl, _, _, _, _, _, rfl, .ty "int", .base (.int i), kit_ty (by decide +kernel), true, rfl, iteT ?_⟩
      exact ⟨_, rfl, _, _, _, _, _, rfl, .ty "bool", .base (.int i), kit_ty (r := false) (by decide +kernel), false, rfl, q⟩
theorem ok_is_tuple (T : Tab K mg) : FnOk P w K mg base CX0 1 T.f_is_tuple T.d_is_tuple ["thing"] (sp_is_tuple K) := by
  refine T.F_is_tuple.ok sc_is_tuple (fun vs H Q E h => ?_) (fun cdv A outer s H vs Q E hr h => ?_)
  · obtain ⟨a, xs, rfl, _⟩ := h
    rfl
  · obtain ⟨a, xs, rfl, hS, q⟩ := h
    refine ⟨_, (pss_one (ps_ret (pe_callB call_isiT (by rfl) T.m_isinstance (by decide +kernel) (pa_cons (pv 0) (pa_cons (pe_tup (pa_cons (pe_bltn (v := .ty "tuple") (u := .type "tuple") (by rfl) T.m_tuple (by decide +kernel) rfl) (pa_cons (pe_bltn (v := .ty "list") (u := .type "list") (by rfl) T.m_list (by decide +kernel) rfl) pa_nil))) pa_nil))))), ?_⟩
    refine ⟨_, rfl, (by show 2 ≤ sizeLine; decide), fun tp ntp => ?_⟩
    have s1 := same_upd (o := .tup [.ty "tuple", .ty "list"]) ntp
    rcases hS with hS | hS
    · exact ⟨_, tp, _, _, _, true, rfl, upd_same, .cons (.ty "tuple") (.cons (.ty "list") .nil), ty_L (s1.seq hS), kit2_L, q _ s1⟩
    · exact ⟨_, tp, _, _, _, true, rfl, upd_same, .cons (.ty "tuple") (.cons (.ty "list") .nil), ty_T (same_seqT s1 hS), kit2_T, q _ s1⟩
theorem ok_read_integer (T : Tab K mg) : FnOk P w K mg base CX0 1 T.f_read_integer T.d_read_integer ["word", "least", "most"] (sp_read_integer K) := by
  refine T.F_read_integer.ok sc_read_integer (fun vs H Q E h => ?_) (fun cdv A outer s H vs Q E hr h => ?_)
  · obtain ⟨z, rfl, _⟩ := h
    rfl
  · obtain ⟨z, rfl, hz, q⟩ := h
    refine ⟨_, (pss_cons (ps_if (pt_not (pt_chain op_le op_le pe_int (pe_callB call_len_str (by rfl) T.m_len PySem.boot_len (pa_cons (pv 0) pa_nil)) (pe_callB call_len_str (by rfl) T.m_len PySem.boot_len (pa_cons (pe_callTy call_str_int (by rfl) T.m_str (by decide +kernel) (pa_cons (pv 2) pa_nil)) pa_nil))))
      (pss_one (ps_ret pe_non))
      pss_nil)
      (pss_cons (ps_if (PW.pt (pw_or (pt_not (pt_val (pe_callB (cr_all rfl) (by rfl) T.m_all (by decide +kernel) (pa_cons (pe_lc (own := [("digit", 4)]) (g := gName 4) (by rfl) sc_read_integer.nd (pi_str (pv 0)) (blkOk_by (own := [("digit", 4)]) (N := N_read_integer) (sc := defScope s_read_integer) (by decide +kernel)) (fun _ _ _ _ _ => pg_name (i := 4) sc_read_integer.nd rfl (.inl rfl)) (fun _ _ _ _ _ => pts_nil) (fun _ _ _ _ _ => (pe_cmpR op_in_sign (pv 4) (pe_glob (v := .str "0123456789") (by rfl) T.c_DIGITS ⟨_, rfl⟩) rfl))) pa_nil)))) (pw_or1 (PW.pt (pw_and (pt_cmpR op_eq (pe_ix ix_str (pv 0) pe_int (fun _ _ => rfl)) pe_str (nomark _)) (pw_and1 (pt_cmpR op_ne (pv 0) pe_str (nomark _))))))))
      (pss_one (ps_ret pe_non))
      pss_nil)
      (pss_cons (ps_set (i := 3) sc_read_integer.nd rfl (.inl rfl) (pe_callTy call_int_str (by rfl) T.m_int (by decide +kernel) (pa_cons (pv 0) pa_nil)))
      (pss_one (ps_ret (pe_ifExp (pt_chain op_le op_le (pv 1) (pv 3) (pv 2)) (pv 3) pe_non)))))), ?_⟩
    have hz2 : z.length ≤ sizeLine := Nat.le_of_lt (small1000 hz)
    have l99 : ((toString (99 : Int) : Str)).length = 2 := by decide +kernel
    have lg : (99 : Int).natAbs.log2 < 1920 := by decide
    have hl : z.length = z.cps.toList.length := rfl
    refine ⟨_, rfl, z, rfl, hz2, _, _, rfl, rfl, _, rfl, ite2 (fun e => ?_) (fun e => ?_)⟩
    · have h1 : (1 : Int) ≤ (z.length : Int) := of_decide_eq_true e
      refine ⟨_, rfl, 99, rfl, lg, _, rfl, (by rw [l99]; decide), _, _, rfl, rfl, _, rfl, ?_⟩
      rw [l99]
      by_cases h2 : (z.length : Int) ≤ ((2 : Nat) : Int)
      · rw [decide_eq_true h2]
        show if (!true) = true then _ else _
        refine iteF ?_
        refine ⟨_, rfl, z, rfl, fun D nD => ?_⟩
        refine lc_it walk_str (fun i H' => Same H H' ∧ ∃ bs : List Bool, H' D = some (.lst (bs.map V.bl)) ∧ bs = (z.cps.toList.take i).map dg) ⟨same_upd nD, [], upd_same, rfl⟩ (fun _ _ _ _ => trivial) ?_ ?_
        · rintro i x H' H'' hi ⟨sm, bs, eD, eb⟩ ⟨rfl, c, hc, rfl⟩
          have hc2 : z.cps.toList[i]? = some c := by
            rw [Array.getElem?_toList]; exact hc
          have hi2 := (List.getElem?_eq_some_iff.mp hc2).1
          refine ⟨rfl, ?_⟩
          refine ⟨_, rfl, c, _, rfl, rfl, _, eD, ?_, same_put sm nD _, bs ++ [dg c], ?_, ?_⟩
          · rw [List.length_map, eb, List.length_map, List.length_take]
            exact small1000 (by omega)
          · rw [upd_same, dig_in, List.map_append]; rfl
          · rw [eb, List.take_add_one, hc2, List.map_append]; rfl
        · rintro H' ⟨sm, bs, eD, eb⟩
          have eb2 : bs = z.cps.toList.map dg := by
            rw [eb]
            congr 1
            exact List.take_of_length_le (by rw [Array.length_toList]; exact Nat.le_refl _)
          have q' := q H' sm
          refine ⟨D, bs, rfl, .inl (.inl eD), _, rfl, ?_⟩
          subst eb2
          match e : z.cps.toList with
          | [] => rw [e] at hl; rw [hl] at h1; simp at h1
          | a :: b :: c :: r => rw [e] at hl; simp only [List.length_cons] at hl; omega
          | [a] =>
            have ez := str1 e
            by_cases ha : 48 ≤ a ∧ a ≤ 57
            · have hd : ([a].map dg).all id = true := by simp [dg, ha]
              have hn : rdI z = some ((a : Int) - 48) := by
                unfold rdI
                rw [e]
                exact if_pos ha
              have hb := rd_bound hn
              rw [hn] at q'
              rw [hd]
              have hat : atI z.cps.toList (0 : Int) = some a := by rw [e]; rfl
              refine ⟨_, rfl, _, _, a, rfl, rfl, hz2, hat, rfl, _, rfl, ?_⟩
              by_cases h48 : a = 48
              · rw [decide_eq_true (show V.str ⟨#[a]⟩ = V.str "0" by rw [zero_eq1]; exact h48)]
                refine ⟨_, rfl, rfl, _, rfl, ?_⟩
                rw [decide_eq_true (show V.str z = V.str "0" by rw [ez, zero_eq1]; exact h48)]
                refine ⟨_, rfl, _, _, rfl, (by rw [ez]; exact int1 ha), (by rw [hl, e]; simp), ?_⟩
                refine ⟨_, rfl, _, rfl, _, _, rfl, rfl, _, rfl, ite2 (fun _ => ?_) (fun h => absurd (decide_eq_true hb.1) h)⟩
                exact ⟨_, rfl, _, _, rfl, rfl, _, rfl, ite2 (fun _ => ⟨_, rfl, q'⟩) (fun h => absurd (decide_eq_true hb.2) h)⟩
              · rw [decide_eq_false (show ¬ V.str ⟨#[a]⟩ = V.str "0" by rw [zero_eq1]; exact h48)]
                refine ⟨_, rfl, _, _, rfl, (by rw [ez]; exact int1 ha), (by rw [hl, e]; simp), ?_⟩
                refine ⟨_, rfl, _, rfl, _, _, rfl, rfl, _, rfl, ite2 (fun _ => ?_) (fun h => absurd (decide_eq_true hb.1) h)⟩
                exact ⟨_, rfl, _, _, rfl, rfl, _, rfl, ite2 (fun _ => ⟨_, rfl, q'⟩) (fun h => absurd (decide_eq_true hb.2) h)⟩
            · have hd : ([a].map dg).all id = false := by simp [dg]; omega
              have hn : rdI z = none := by
                unfold rdI
                rw [e]
                exact if_neg ha
              rw [hn] at q'
              rw [hd]
              exact q'
          | [a, b] =>
            have ez := str2 e
            by_cases hab : (48 ≤ a ∧ a ≤ 57) ∧ (48 ≤ b ∧ b ≤ 57)
            · have hd : ([a, b].map dg).all id = true := by simp [dg, hab]
              rw [hd]
              have hat : atI z.cps.toList (0 : Int) = some a := by rw [e]; rfl
              refine ⟨_, rfl, _, _, a, rfl, rfl, hz2, hat, rfl, _, rfl, ?_⟩
              by_cases h48 : a = 48
              · have hn : rdI z = none := by
                  unfold rdI
                  rw [e]
                  exact if_neg (by omega)
                rw [hn] at q'
                rw [decide_eq_true (show V.str ⟨#[a]⟩ = V.str "0" by rw [zero_eq1]; exact h48)]
                refine ⟨_, rfl, rfl, _, rfl, ?_⟩
                rw [decide_eq_false (show ¬ V.str z = V.str "0" by rw [ez, zero_ne2]; exact id)]
                exact q'
              · have hn : rdI z = some (((a : Int) - 48) * 10 + ((b : Int) - 48)) := by
                  unfold rdI
                  rw [e]
                  exact if_pos (by omega)
                have hb := rd_bound hn
                rw [hn] at q'
                rw [decide_eq_false (show ¬ V.str ⟨#[a]⟩ = V.str "0" by rw [zero_eq1]; exact h48)]
                refine ⟨_, rfl, _, _, rfl, (by rw [ez]; exact int2 hab.1 hab.2), (by rw [hl, e]; simp), ?_⟩
                refine ⟨_, rfl, _, rfl, _, _, rfl, rfl, _, rfl, ite2 (fun _ => ?_) (fun h => absurd (decide_eq_true hb.1) h)⟩
                exact ⟨_, rfl, _, _, rfl, rfl, _, rfl, ite2 (fun _ => ⟨_, rfl, q'⟩) (fun h => absurd (decide_eq_true hb.2) h)⟩
            · have hd : ([a, b].map dg).all id = false := by
                simp [dg]
                omega
              have hn : rdI z = none := by
                unfold rdI
                rw [e]
                exact if_neg (by omega)
              rw [hn] at q'
              rw [hd]
              exact q'
      · rw [decide_eq_false h2]
        show if (!false) = true then _ else _
        refine iteT ?_
        have hn : rdI z = none := by
          unfold rdI
          match e : z.cps.toList with
          | [] => rfl
          | [a] => rw [e] at hl; simp only [List.length_cons, List.length_nil] at hl; omega
          | [a, b] => rw [e] at hl; simp only [List.length_cons, List.length_nil] at hl; omega
          | a :: b :: c :: r => rfl
        have q' := q H (Same.refl H)
        rw [hn] at q'
        exact q'
    · have h1 : ¬ (1 : Int) ≤ (z.length : Int) := fun h => e (decide_eq_true h)
      have hn : rdI z = none := by
        unfold rdI
        match e : z.cps.toList with
        | [] => rfl
        | a :: r => rw [e] at hl; simp only [List.length_cons] at hl; omega
      have q' := q H (Same.refl H)
      rw [hn] at q'
      exact ⟨_, rfl, q'⟩
theorem ok_source (T : Tab K mg) : FnOk P w K mg base CX0 1 T.f_source T.d_source ["_law_script", "_law_k"] (sp_source K) := by
  refine T.F_source.ok sc_source (fun vs H Q E h => ?_) (fun cdv A outer s H vs Q E hr h => ?_)
  · obtain ⟨a, ns, k, rfl, _⟩ := h
    rfl
  · obtain ⟨a, ns, k, rfl, hS, q⟩ := h
    refine ⟨_, (C8.pss_cut (ps_set (i := 2) sc_source.nd rfl (.inl rfl) (pe_ifExp (pt_cmpR op_lt (pv 1) (pe_callB call_len_seq (by rfl) T.m_len PySem.boot_len (pa_cons (pv 0) pa_nil)) (nomark _)) (pe_ix ix_list (pv 0) (pv 1) (fun _ _ => rfl)) (pe_op op_add (pe_op op_mod (pe_callTy call_int1 (by rfl) T.m_int (by decide +kernel) (pa_cons (pe_op op_add (pe_callB (cr_sum rfl) (by rfl) T.m_sum (by decide +kernel) (pa_cons (pe_slice sl_list (pv 0) po_none (po_some pe_int)) pa_nil)) (pe_op op_mul pe_int (pe_callB (cr_sum rfl) (by rfl) T.m_sum (by decide +kernel) (pa_cons (pe_slice sl_list (pv 0) (po_some pe_int) (po_some pe_int)) pa_nil)))) pa_nil)) pe_int) (pe_op op_mul pe_int (pv 1)))))
      (pss_cons (ps_set (i := 3) sc_source.nd rfl (.inl rfl) (pe_callB call_abs (by rfl) T.m_abs (by decide +kernel) (pa_cons (pv 2) pa_nil)))
      (C8.pss_cut (ps_set (i := 4) sc_source.nd rfl (.inl rfl) (pe_ifExp (pt_cmpR op_ge (pv 3) pe_int (nomark _)) (pv 3) pe_int))
      (pss_one (ps_ret (pe_lst (pa_cons (pv 4) (pa_cons (pe_op op_mod (pe_callTy call_int1 (by rfl) T.m_int (by decide +kernel) (pa_cons (pe_op op_add (pe_op op_add (pe_op op_add (pe_op op_mul (pv 3) pe_int) (pe_callTy call_int1 (by rfl) T.m_int (by decide +kernel) (pa_cons (pe_cmpR op_lt (pv 2) pe_int (nomark _)) pa_nil))) (pe_op op_mul pe_int (pv 1))) pe_int) pa_nil)) pe_int) (pa_cons pe_int pa_nil))))))))), ?_⟩
    refine ⟨fun σ' H' => ∃ c : Int, σ' = [some (.ref a), some (.int k), some (.int c), none, none] ∧ Same H H', ?_, ?_⟩
    · refine ⟨_, rfl, _, rfl, _, _, rfl, .inl hS, _, _, rfl, rfl, _, rfl, ite2 (fun e => ?_) (fun e => ?_)⟩
      · have e1 : (k : Int) < ((ns.map V.int).length : Int) := of_decide_eq_true e
        rw [List.length_map] at e1
        have hk : k < ns.length := by omega
        have g : (ns.map V.int)[k]? = some (.int ns[k]) := by
          rw [List.getElem?_map, List.getElem?_eq_getElem hk]
          rfl
        exact ⟨_, rfl, _, rfl, _, _, _, _, rfl, rfl, hS, atI_nat g, _, rfl, Same.refl H⟩
      · refine ⟨_, rfl, 1, rfl, _, _, rfl, hS, fun p1 n1 => ?_⟩
        obtain ⟨m1, c1⟩ := cut_map ns none (some 1)
        rw [c1]
        have s1 : Same H (upd H p1 (.lst (m1.map V.int))) := same_upd n1
        refine ⟨_, m1, rfl, .inl (.inl upd_same), _, rfl, 1, rfl, 2, rfl, _, _, rfl, s1.seq hS, fun p2 n2 => ?_⟩
        obtain ⟨m2, c2⟩ := cut_map ns (some 1) (some 2)
        rw [c2]
        refine ⟨_, m2, rfl, .inl (.inl upd_same), _, _, rfl, rfl, .inl ⟨by decide, by decide⟩, _, _, rfl, rfl, .inl ⟨_, rfl, _, _, rfl, rfl, (by show (0 : Int) < 1000003; decide), _, rfl, _, _, rfl, rfl, .inl ⟨by decide, by decide⟩, _, _, rfl, rfl, _, rfl, s1.trans (same_upd n2)⟩⟩
    · rintro σ' H1 ⟨c, rfl, s1⟩
      refine ⟨_, rfl, _, rfl, ?_⟩
      refine ⟨fun σ' H' => ∃ n g : Int, σ' = [some (.ref a), some (.int k), some (.int c), some (.int n), some (.int g)] ∧ H' = H1, ?_, ?_⟩
      · refine ⟨_, rfl, _, _, rfl, rfl, _, rfl, ite2 (fun e => ?_) (fun e => ?_)⟩
        · exact ⟨_, rfl, _, _, rfl, rfl⟩
        · exact ⟨_, _, rfl, rfl⟩
      · rintro σ' H' ⟨n, g, rfl, rfl⟩
        refine ⟨_, rfl, _, rfl, _, _, rfl, rfl, .inr ⟨by decide, by decide⟩, _, rfl, _, _, rfl, rfl, .inr ⟨_, rfl, _, _, rfl, rfl, _, rfl, _, _, rfl, rfl, .inl ⟨by decide, by decide⟩, _, _, rfl, rfl, _, _, rfl, rfl, .inl ⟨_, rfl, _, _, rfl, rfl, (by show (0 : Int) < 2147483647; decide), ?_⟩⟩⟩
        refine ⟨(by show 3 ≤ sizeLine; decide), fun p np => ?_⟩
        exact q p _ (s1.trans (same_upd np)) (s1.free np) ⟨_, _, _, upd_same⟩
theorem ok_pick (T : Tab K mg) : FnOk P w K mg base CX0 1 T.f_pick T.d_pick ["_law_source_here", "_law_many"] (sp_pick K) := by
  refine T.F_pick.ok sc_pick (fun vs H Q E h => ?_) (fun cdv A outer s H vs Q E hr h => ?_)
  · obtain ⟨a, m, rfl, _⟩ := h
    rfl
  · obtain ⟨a, m, rfl, ⟨g, x, c, hs⟩, h1, h2, q⟩ := h
    refine ⟨_, (pss_cons (ps_if (pt_cmpR op_lt (pv 1) pe_int (nomark _))
      (pss_one (ps_ret pe_int))
      pss_nil)
      (pss_cons (ps_if (pt_cmpR op_gt (pe_ix ix_list (pv 0) pe_int (fun _ _ => rfl)) pe_int (nomark _))
      (pss_cons (ps_set (i := 2) sc_pick.nd rfl (.inl rfl) (pe_op op_mod (pe_callTy call_int1 (by rfl) T.m_int (by decide +kernel) (pa_cons (pe_ix ix_list (pv 0) pe_int (fun _ _ => rfl)) pa_nil)) (pv 1)))
        (pss_cons (ps_asg (pe_op op_fdiv (pe_ix ix_list (pv 0) pe_int (fun _ _ => rfl)) (pv 1)) (pg_sub (pv 0) pe_int set_list))
        (pss_one (ps_ret (pv 2)))))
      pss_nil)
      (pss_cons (ps_asg (pe_op op_add (pe_ix ix_list (pv 0) pe_int (fun _ _ => rfl)) pe_int) (pg_sub (pv 0) pe_int set_list))
      (pss_cons (ps_asg (pe_op op_mod (pe_callTy call_int1 (by rfl) T.m_int (by decide +kernel) (pa_cons (pe_op op_add (pe_op op_add (pe_op op_mul (pe_ix ix_list (pv 0) pe_int (fun _ _ => rfl)) pe_int) (pe_op op_mul (pe_ix ix_list (pv 0) pe_int (fun _ _ => rfl)) pe_int)) pe_int) pa_nil)) pe_int) (pg_sub (pv 0) pe_int set_list))
      (pss_one (ps_ret (pe_op op_mod (pe_callTy call_int1 (by rfl) T.m_int (by decide +kernel) (pa_cons (pe_op op_fdiv (pe_op op_mod (pe_callTy call_int1 (by rfl) T.m_int (by decide +kernel) (pa_cons (pe_op op_add (pe_op op_add (pe_op op_mul (pe_ix ix_list (pv 0) pe_int (fun _ _ => rfl)) pe_int) (pe_op op_mul (pe_ix ix_list (pv 0) pe_int (fun _ _ => rfl)) pe_int)) pe_int) pa_nil)) pe_int) pe_int) pa_nil)) (pv 1)))))))), ?_⟩
    refine ⟨_, rfl, _, _, rfl, rfl, _, rfl, ite2 (fun e => ?_) (fun e => ?_)⟩
    · exact q 0 H ⟨g, x, c, hs⟩ (But.refl a H) (by decide) (by omega)
    · have hm : ¬ m < 2 := fun z => e (decide_eq_true z)
      refine ⟨_, rfl, _, _, _, _, rfl, rfl, .inl (.inl hs), rfl, _, _, rfl, rfl, _, rfl, ite2 (fun e => ?_) (fun e => ?_)⟩
      · refine ⟨_, rfl, _, _, _, _, rfl, rfl, .inl (.inl hs), rfl, .inl ⟨_, rfl, _, rfl, _, _, rfl, rfl, (by omega), ?_⟩⟩
        refine ⟨_, rfl, _, _, _, _, rfl, rfl, .inl (.inl hs), rfl, _, rfl, _, _, rfl, rfl, ⟨by omega, by omega⟩, ?_⟩
        refine ⟨_, rfl, _, _, _, _, rfl, rfl, hs, rfl, ?_⟩
        refine ⟨_, rfl, ?_⟩
        exact q _ _ ⟨_, _, _, upd_same⟩ (But.upd _) (Int.emod_nonneg _ (by omega)) (Int.emod_lt_of_pos _ (by omega))
      · refine ⟨_, rfl, _, _, _, _, rfl, rfl, .inl (.inl hs), rfl, _, _, rfl, rfl, _, rfl, _, _, _, _, rfl, rfl, hs, rfl, ?_⟩
        refine ⟨_, rfl, _, _, _, _, rfl, rfl, .inl (.inl upd_same), rfl, _, _, rfl, rfl, .inr ⟨by decide, by decide⟩, _, rfl, _, _, _, _, rfl, rfl, .inl (.inl upd_same), rfl, _, _, rfl, rfl, .inr ⟨by decide, by decide⟩, _, _, rfl, rfl, _, _, rfl, rfl, .inl ⟨_, rfl, _, _, rfl, rfl, (by show (0 : Int) < 2147483647; decide), ?_⟩⟩
        refine ⟨_, rfl, _, _, _, _, rfl, rfl, upd_same, rfl, ?_⟩
        refine ⟨_, rfl, _, _, _, _, rfl, rfl, .inl (.inl upd_same), rfl, _, _, rfl, rfl, .inr ⟨by decide, by decide⟩, _, rfl, _, _, _, _, rfl, rfl, .inl (.inl upd_same), rfl, _, _, rfl, rfl, .inr ⟨by decide, by decide⟩, _, _, rfl, rfl, _, _, rfl, rfl, .inl ⟨_, rfl, _, _, rfl, rfl, (by show (0 : Int) < 2147483629; decide), _, _, rfl, rfl, ⟨by decide, by decide⟩, .inl ⟨_, rfl, _, rfl, _, _, rfl, rfl, (by omega), ?_⟩⟩⟩
        exact q _ _ ⟨_, _, _, upd_same⟩ (((But.upd _).trans (But.upd _))) (Int.emod_nonneg _ (by omega)) (Int.emod_lt_of_pos _ (by omega))
theorem ok_law_is_integer (T : Tab K mg) : FnOk P w K mg base CX0 1 T.f_law_is_integer T.d_law_is_integer ["_law_actual"] (sp_law_is_integer K) := by
  refine T.F_law_is_integer.ok sc_law_is_integer (fun vs H Q E h => ?_) (fun cdv A outer s H vs Q E hr h => ?_)
  · obtain ⟨i, rfl, _⟩ := h
    rfl
  · obtain ⟨i, rfl, q⟩ := h
    refine ⟨_, (pss_one (ps_ret (pe_and (pe_callB call_isi (by rfl) T.m_isinstance (by decide +kernel) (pa_cons (pv 0) (pa_cons (pe_bltn (v := .ty "int") (u := .type "int") (by rfl) T.m_int (by decide +kernel) rfl) pa_nil))) (pe_one (pe_not (pe_callB call_isi (by rfl) T.m_isinstance (by decide +kernel) (pa_cons (pv 0) (pa_cons (pe_bltn (v := .ty "bool") (u := .type "bool") (by rfl) T.m_bool (by decide +kernel) rfl) pa_nil)))))))), ?_⟩
    refine ⟨_, rfl, _, _, _, _, _, rfl, .ty "int", .base (.int i), kit_ty (by decide +kernel), true, rfl, iteT ?_⟩
    exact ⟨_, rfl, _, _, _, _, _, rfl, .ty "bool", .base (.int i), kit_ty (r := false) (by decide +kernel), false, rfl, q⟩
theorem ok_label_word (T : Tab K mg) : FnOk P w K mg base CX0 1 T.f_label_word T.d_label_word ["_law_label"] (sp_label_word K) := by
  refine T.F_label_word.ok sc_label_word (fun vs H Q E h => ?_) (fun cdv A outer s H vs Q E hr h => ?_)
  · obtain ⟨a, L, rfl, _⟩ := h
    rfl
  · obtain ⟨a, L, rfl, hp, hL, q⟩ := h
    refine ⟨_, (pss_one (ps_ret (pe_join pe_str (pe_lc (own := [("_law_part", 1)]) (g := gName 1) (by rfl) sc_label_word.nd (pi_tup (pv 0)) (blkOk_by (own := [("_law_part", 1)]) (N := N_label_word) (sc := defScope s_label_word) (by decide +kernel)) (fun _ _ _ _ _ => pg_name (i := 1) sc_label_word.nd rfl (.inl rfl)) (fun _ _ _ _ _ => pts_nil) (fun _ _ _ _ _ => (pe_callTy call_str_int (by rfl) T.m_str (by decide +kernel) (pa_cons (pv 1) pa_nil))))))), ?_⟩
    have s1 := Same.refl H
    refine ⟨⟨_, rfl⟩, _, rfl, a, rfl, ⟨_, hp⟩, fun D nD => ?_⟩
    refine lc_tup (xs := L.map V.int) (fun i H' => Same _ H' ∧ H' D = some (.lst (((L.take i).map fun i => (toString i : Str)).map V.str))) ⟨same_upd nD, upd_same⟩ (fun i H' _ hh => same_seqT hh.1 hp) ?_ ?_
    · rintro i x H' hx ⟨sm, eD⟩
      obtain ⟨n, rfl, hn⟩ : ∃ n, x = V.int n ∧ L[i]? = some n := by
        rw [List.getElem?_map] at hx
        cases e : L[i]? with
        | none => rw [e] at hx; cases hx
        | some n => rw [e] at hx; exact ⟨n, (Option.some.inj hx).symm, rfl⟩
      have hb := hL.2.2 n (List.mem_of_getElem? hn)
      have hl := hL.1
      refine ⟨rfl, ?_⟩
      refine ⟨_, rfl, n, rfl, log_small (by omega), _, eD, ?_, same_put sm nD _, ?_⟩
      · rw [List.length_map, List.length_map, List.length_take]; exact small1000 (by omega)
      · rw [upd_same, List.take_add_one, hn, List.map_append, List.map_append]; rfl
    rintro H' ⟨sm, eD⟩
    rw [List.length_map, List.take_length] at eD
    refine ⟨_, D, _, rfl, rfl, .inl (.inl (.inl eD)), ?_, q H' (s1.trans sm)⟩
    exact num_fit hL
theorem ok_law_read_label (T : Tab K mg) : FnOk P w K mg base CX0 1 T.f_law_read_label T.d_law_read_label ["_law_word"] (sp_law_read_label K) := by
  refine T.F_law_read_label.ok sc_law_read_label (fun vs H Q E h => ?_) (fun cdv A outer s H vs Q E hr h => ?_)
  · obtain ⟨z, rfl, _⟩ := h
    rfl
  · obtain ⟨z, rfl, hz, q⟩ := h
    refine ⟨_, (pss_cons (ps_set (i := 1) sc_law_read_label.nd rfl (.inl rfl) (pe_lst pa_nil))
      (pss_cons (ps_for PassesOwn.never rfl (pi_list (pe_split (pv 0) pe_str)) (pg_name (i := 2) sc_law_read_label.nd rfl (.inl rfl))
      (pss_cons (ps_set (i := 3) sc_law_read_label.nd rfl (.inl rfl) (pe_cmpR op_gt (pe_callB call_len_seq (by rfl) T.m_len PySem.boot_len (pa_cons (pe_lc (own := [("_law_sign", 4)]) (g := gName 4) (by rfl) sc_law_read_label.nd (pi_str (pv 2)) (blkOk_by (own := [("_law_sign", 4)]) (N := N_law_read_label) (sc := defScope s_law_read_label) (by decide +kernel)) (fun _ _ _ _ _ => pg_name (i := 4) sc_law_read_label.nd rfl (.inl rfl)) (fun _ _ _ _ _ => (pts_one (pt_cmpR op_notIn_sign (pv 4) pe_str rfl))) (fun _ _ _ _ _ => (pv 4))) pa_nil)) pe_int (nomark _)))
        (pss_cons (ps_if (PW.pt (pw_or (pt_val (pv 3)) (pw_or (pt_not (pt_chain op_le op_le pe_int (pe_callB call_len_str (by rfl) T.m_len PySem.boot_len (pa_cons (pv 2) pa_nil)) pe_int)) (pw_or1 (PW.pt (pw_and (pt_cmpR op_eq (pe_callB call_len_str (by rfl) T.m_len PySem.boot_len (pa_cons (pv 2) pa_nil)) pe_int (nomark _)) (pw_and1 (pt_cmpR op_eq (pe_ix ix_str (pv 2) pe_int (fun _ _ => rfl)) pe_str (nomark _)))))))))
        (pss_one (ps_ret pe_non))
        pss_nil)
        (pss_one (ps_expr (pe_bm PySem.F.plainAttrs_list PySem.F.slot_list_append PySem.F.type_list_append mt_append (pv 1) (pa_cons (pe_callTy call_int_str (by rfl) T.m_int (by decide +kernel) (pa_cons (pv 2) pa_nil)) pa_nil)))))))
      (pss_one (ps_ret (pe_ifExp (PW.pt (pw_and (pt_cmpR op_le (pe_callB call_len_seq (by rfl) T.m_len PySem.boot_len (pa_cons (pv 1) pa_nil)) pe_int (nomark _)) (pw_and1 (pt_cmpR op_ge (pe_ix ix_list (pv 1) (pe_un un_neg pe_int) (fun _ _ => rfl)) pe_int (nomark _))))) (pe_callTy call_tuple_of (by rfl) T.m_tuple (by decide +kernel) (pa_cons (pv 1) pa_nil)) pe_non))))), ?_⟩
    have hd1 : 1 ≤ ("." : Str).length := by decide +kernel
    have hcnt := split_cnt z "." hd1
    refine ⟨Nat.zero_le _, fun D nD => ?_⟩
    have sD : Same H (upd H D (.lst [])) := same_upd nD
    have eD0 : (upd H D (.lst [])) D = some (.lst []) := upd_same
    generalize upd H D (.lst []) = H0 at sD eD0
    refine ⟨_, rfl, ⟨_, rfl⟩, z, _, rfl, rfl, (by decide +kernel), ?_, fun p np => ?_⟩
    · have e2 : sizeLine = 16777216 := by decide
      omega
    have npD : p ≠ D := (ne_of_none eD0 np).symm
    have ep : (upd H0 p (.lst ((Txt.split z ".").map V.str))) p = some (.lst ((Txt.split z ".").map V.str)) := upd_same
    have s1 := sD.trans (same_upd (o := .lst ((Txt.split z ".").map V.str)) np)
    have eD1 : (upd H0 p (.lst ((Txt.split z ".").map V.str))) D = some (.lst []) := same_upd np _ _ eD0
    generalize upd H0 p (.lst ((Txt.split z ".").map V.str)) = H1 at ep s1 eD1
    refine ⟨p, rfl, ⟨_, .inl (.inl ep)⟩, for_list (xs := (Txt.split z ".").map V.str) (fun i σ' H' => ∃ (L : List Int) (y2 y3 : Option V), σ' = [some (.str z), some (.ref D), y2, y3, none] ∧ Same H H' ∧ H' p = some (.lst ((Txt.split z ".").map V.str)) ∧ H' D = some (.lst (L.map V.int)) ∧ ((Txt.split z ".").take i).map rdI = L.map some) ⟨[], none, none, rfl, s1, ep, eD1, rfl⟩ (fun i σ' H' _ hh => ?_) ?_ ?_⟩
    · obtain ⟨_, _, _, _, _, e, _⟩ := hh
      exact .inl (.inl e)
    · rintro i x σ' Hx hx ⟨L, y2, y3, rfl, sm, eP, eD, eL⟩
      obtain ⟨y, rfl, hy⟩ := get_map hx
      have hmem := List.mem_of_getElem? hy
      have hy1 := split_part z "." hd1 hmem
      have hy2 : y.length ≤ sizeLine := Nat.le_of_lt (small1000 (by omega))
      have hi := (List.getElem?_eq_some_iff.mp hy).1
      have hL : L.length = i := by
        have := congrArg List.length eL
        rw [List.length_map, List.length_map, List.length_take] at this
        omega
      have hlen : y.length = y.cps.toList.length := rfl
      have non : rdI y = none → ∀ H', Same H H' → Q .non H' := fun e H' s => q .non H' s (by
        have : rdL z = none := keep_none (List.mem_map.mpr ⟨y, hmem, e⟩)
        rw [this]; exact .non)
      refine ⟨_, rfl, y, rfl, fun D2 nD2 => ?_⟩
      refine lc_it walk_str (fun i H' => Same Hx H' ∧ ∃ xs : List V, H' D2 = some (.lst xs) ∧ xs.length = (y.cps.toList.take i).countP (fun c => !dg c)) ⟨same_upd nD2, [], upd_same, rfl⟩ (fun _ _ _ _ => trivial) ?_ ?_
      · rintro j x H' H'' hj ⟨sm2, xs, eD2, eb⟩ ⟨rfl, c, hc, rfl⟩
        have hc2 : y.cps.toList[j]? = some c := by
          rw [Array.getElem?_toList]; exact hc
        have hj2 := (List.getElem?_eq_some_iff.mp hc2).1
        refine ⟨rfl, ?_⟩
        have hk : (y.cps.toList.take (j + 1)).countP (fun c => !dg c) = (y.cps.toList.take j).countP (fun c => !dg c) + (if (!dg c) = true then 1 else 0) := by
          rw [List.take_add_one, hc2, List.countP_append]
          congr 1
          show List.countP (fun c => !dg c) [c] = _
          cases h : dg c <;> simp [List.countP_cons, h]
        refine ⟨_, rfl, c, _, rfl, rfl, _, rfl, ite2 (fun e => ?_) (fun e => ?_)⟩
        · rw [dig_in] at e
          refine ⟨_, rfl, _, eD2, ?_, same_put sm2 nD2 _, _, upd_same, ?_⟩
          · rw [eb]
            have := List.countP_le_length (p := fun c => !dg c) (l := y.cps.toList.take j)
            rw [List.length_take] at this
            exact small1000 (by omega)
          · rw [hk, if_pos e, List.length_append, eb]
            rfl
        · rw [dig_in] at e
          refine ⟨sm2, xs, eD2, ?_⟩
          rw [hk, if_neg e, eb]
          rfl
      · rintro H2 ⟨sm2, xs, eD2, eb⟩
        have eb2 : xs.length = y.cps.toList.countP (fun c => !dg c) := by
          rw [eb]
          congr 1
          exact List.take_of_length_le (by rw [Array.length_toList]; exact Nat.le_refl _)
        have s2 := sm.trans sm2
        have eD3 := sm2 _ _ eD
        have eP3 := sm2 _ _ eP
        refine ⟨D2, xs, rfl, .inl (.inl (.inl eD2)), _, _, rfl, rfl, ?_⟩
        have bad : ∀ b : Bool, b = decide ((0 : Int) < (xs.length : Int)) → ((∀ c ∈ y.cps.toList, dg c = true) ∧ b = false) ∨ ((∃ c ∈ y.cps.toList, dg c = false) ∧ b = true) := fun b hb => by
          subst hb
          by_cases h0 : y.cps.toList.countP (fun c => !dg c) = 0
          · refine .inl ⟨fun c hc => ?_, decide_eq_false (by rw [eb2, h0]; decide)⟩
            have := List.countP_eq_zero.mp h0 c hc
            simpa using this
          · refine .inr ⟨?_, decide_eq_true (by rw [eb2]; omega)⟩
            obtain ⟨c, hc, h1⟩ := List.countP_pos_iff.mp (Nat.pos_of_ne_zero h0)
            exact ⟨c, hc, by simpa using h1⟩
        refine ⟨_, rfl, _, rfl, ?_⟩
        rcases bad _ rfl with ⟨hall, hb⟩ | ⟨⟨c, hc, hdc⟩, hb⟩
        · rw [hb]
          refine iteF ?_
          refine ⟨_, rfl, y, rfl, hy2, _, _, rfl, rfl, _, rfl, ite2 (fun e => ?_) (fun e => ?_)⟩
          · have h1 : (1 : Int) ≤ (y.length : Int) := of_decide_eq_true e
            refine ⟨_, _, rfl, rfl, _, rfl, ?_⟩
            by_cases h2 : (y.length : Int) ≤ 2
            · rw [decide_eq_true h2]
              show if (!true) = true then _ else _
              refine iteF ?_
              have tk : ∀ k : Int, rdI y = some k → ((Txt.split z ".").take (i + 1)).map rdI = (L ++ [k]).map some := fun k hk => by
                rw [List.take_add_one, hy, List.map_append, List.map_append, eL]
                congr 1
                show [rdI y] = [some k]
                rw [hk]
              have sN : ∀ o, Same H (upd H2 D o) := same_put s2 nD
              have pP : ∀ o, (upd H2 D o) p = some (.lst ((Txt.split z ".").map V.str)) := fun o => by
                rw [upd_ne npD]
                exact eP3
              have pD : ∀ k : Int, (upd H2 D (.lst (L.map V.int ++ [.int k]))) D = some (.lst ((L ++ [k]).map V.int)) := fun k => by
                rw [upd_same, List.map_append]
                rfl
              have small : (L.map V.int).length < sizeLine := by rw [List.length_map]; exact small1000 (by omega)
              refine ⟨_, rfl, y, rfl, hy2, rfl, _, rfl, ?_⟩
              match e : y.cps.toList with
              | [] => rw [e] at hlen; rw [hlen] at h1; simp at h1
              | a :: b :: c :: r => rw [e] at hlen; simp only [List.length_cons] at hlen; omega
              | [a] =>
                have ha : 48 ≤ a ∧ a ≤ 57 := of_decide_eq_true (hall a (by rw [e]; exact List.mem_singleton.mpr rfl))
                have hn : rdI y = some ((a : Int) - 48) := by
                  unfold rdI
                  rw [e]
                  exact if_pos ha
                rw [decide_eq_false (fun h => by have := V.int.inj h; rw [hlen, e] at this; simp at this)]
                refine ⟨_, rfl, .inl ⟨rfl, _, .inl (.inl eD3)⟩, _, rfl, _, _, rfl, (by rw [str1 e]; exact int1 ha), (by rw [hlen, e]; simp), ?_⟩
                refine ⟨D, _, _, rfl, rfl, eD3, small, L ++ [(a : Int) - 48], _, _, rfl, sN _, pP _, pD _, tk _ hn⟩
              | [a, b] =>
                have ha : 48 ≤ a ∧ a ≤ 57 := of_decide_eq_true (hall a (by rw [e]; simp))
                have hb : 48 ≤ b ∧ b ≤ 57 := of_decide_eq_true (hall b (by rw [e]; simp))
                have hat : atI y.cps.toList (0 : Int) = some a := by rw [e]; rfl
                rw [decide_eq_true (by rw [hlen, e]; rfl)]
                refine ⟨_, rfl, _, _, a, rfl, rfl, hy2, hat, rfl, _, rfl, ?_⟩
                by_cases h48 : a = 48
                · rw [decide_eq_true (show V.str ⟨#[a]⟩ = V.str "0" by rw [zero_eq1]; exact h48)]
                  have hn : rdI y = none := by
                    unfold rdI
                    rw [e]
                    exact if_neg (by omega)
                  exact non hn H2 s2
                · rw [decide_eq_false (show ¬ V.str ⟨#[a]⟩ = V.str "0" by rw [zero_eq1]; exact h48)]
                  have hn : rdI y = some (((a : Int) - 48) * 10 + ((b : Int) - 48)) := by
                    unfold rdI
                    rw [e]
                    exact if_pos (by omega)
                  refine ⟨_, rfl, .inl ⟨rfl, _, .inl (.inl eD3)⟩, _, rfl, _, _, rfl, (by rw [str2 e]; exact int2 ha hb), (by rw [hlen, e]; simp), ?_⟩
                  refine ⟨D, _, _, rfl, rfl, eD3, small, L ++ [((a : Int) - 48) * 10 + ((b : Int) - 48)], _, _, rfl, sN _, pP _, pD _, tk _ hn⟩
            · rw [decide_eq_false h2]
              show if (!false) = true then _ else _
              refine iteT ?_
              have hn : rdI y = none := by
                unfold rdI
                match e : y.cps.toList with
                | [] => rfl
                | [a] => rw [e] at hlen; simp only [List.length_cons, List.length_nil] at hlen; omega
                | [a, b] => rw [e] at hlen; simp only [List.length_cons, List.length_nil] at hlen; omega
                | a :: b :: c :: r => rfl
              exact non hn H2 s2
          · have h1 : ¬ (1 : Int) ≤ (y.length : Int) := fun h => e (decide_eq_true h)
            have hn : rdI y = none := by
              unfold rdI
              match e : y.cps.toList with
              | [] => rfl
              | a :: r => rw [e] at hlen; simp only [List.length_cons] at hlen; omega
            exact ⟨_, rfl, non hn H2 s2⟩
        · rw [hb]
          refine iteT ?_
          have hn : rdI y = none := by
            unfold rdI
            match e : y.cps.toList with
            | [] => rfl
            | [a] =>
              rw [e] at hc
              rw [List.mem_singleton.mp hc] at hdc
              exact if_neg (of_decide_eq_false hdc)
            | [a, b] =>
              refine if_neg (fun h => ?_)
              rw [e] at hc
              have := of_decide_eq_false hdc
              rcases List.mem_cons.mp hc with h1 | h1
              · rw [h1] at this; omega
              · rw [List.mem_singleton.mp h1] at this; omega
            | a :: b :: c :: r => rfl
          exact non hn H2 s2
    · rintro σ' H' ⟨L, y2, y3, rfl, sm, eP, eD, eL⟩
      rw [List.length_map, List.take_length] at eL
      have hLn : L ≠ [] := fun e => split_ne z "." (by rw [e] at eL; exact List.map_eq_nil_iff.mp eL)
      have hk : rdL z = if L.length ≤ 3 ∧ L.getLastD 0 ≠ 0 then some L else none := by
        unfold rdL
        rw [eL, keep_map]
      have hgl : L.getLastD 0 = L.getLast hLn := by
        rw [List.getLastD_eq_getLast?, List.getLast?_eq_getLast hLn]
        rfl
      have hat : atI (L.map V.int) (-1) = some (.int (L.getLast hLn)) := by
        have : L.map V.int = (L.dropLast.map V.int) ++ [V.int (L.getLast hLn)] := by
          rw [← List.map_singleton, ← List.map_append, List.dropLast_concat_getLast]
        rw [this]
        exact atI_last _ _
      have hpos : 0 ≤ L.getLast hLn := by
        have : some (L.getLast hLn) ∈ L.map some := List.mem_map.mpr ⟨_, List.getLast_mem hLn, rfl⟩
        rw [← eL] at this
        exact (rdI_some this).1
      have hl : ((L.map V.int).length : Int) = (L.length : Int) := by rw [List.length_map]
      refine ⟨_, rfl, _, _, rfl, .inl (.inl (.inl eD)), _, _, rfl, rfl, _, rfl, ite2 (fun e => ?_) (fun e => ?_)⟩
      · have h3 : ((L.map V.int).length : Int) ≤ 3 := of_decide_eq_true e
        refine ⟨_, rfl, 1, rfl, _, _, -1, _, rfl, rfl, .inl (.inl eD), hat, _, _, rfl, rfl, _, rfl, ite2 (fun e => ?_) (fun e => ?_)⟩
        · have h1 : (1 : Int) ≤ L.getLast hLn := of_decide_eq_true e
          rw [if_pos ⟨by omega, by omega⟩] at hk
          refine ⟨_, rfl, D, _, rfl, .inl ⟨.inl (.inl eD), fun l nl => ?_⟩⟩
          exact q _ _ (sm.trans (same_upd nl)) (by rw [hk]; exact dpL (.inl (.inl upd_same)))
        · have h1 : ¬ (1 : Int) ≤ L.getLast hLn := fun h => e (decide_eq_true h)
          rw [if_neg (fun h => by omega)] at hk
          exact q .non H' sm (by rw [hk]; exact .non)
      · have h3 : ¬ ((L.map V.int).length : Int) ≤ 3 := fun h => e (decide_eq_true h)
        rw [if_neg (fun h => by omega)] at hk
        exact q .non H' sm (by rw [hk]; exact .non)
theorem ok_is_within (T : Tab K mg) : FnOk P w K mg base CX0 2 T.f_is_within T.d_is_within ["thing", "least", "most"] (sp_is_within K) := by
  refine T.F_is_within.ok sc_is_within (fun vs H Q E h => ?_) (fun cdv A outer s H vs Q E hr h => ?_)
  · obtain ⟨o, l, m, rfl, _⟩ := h
    rfl
  · obtain ⟨o, l, m, rfl, q⟩ := h
    refine ⟨_, (pss_one (ps_ret (pe_and (pe_call (ok_is_integer T) (hr.mono (by decide)) (by rfl) T.g_is_integer T.F_is_integer.kp T.b_is_integer .nil pass0 (pa_cons (pv 0) pa_nil)) (pe_one (pe_chain op_le op_le (pv 1) (pv 0) (pv 2)))))), ?_⟩
    rcases o with _ | i
    · exact ⟨_, rfl, none, rfl, false, rfl, q⟩
    · refine ⟨_, rfl, some i, rfl, true, rfl, iteT ?_⟩
      refine ⟨_, rfl, _, rfl, _, _, rfl, rfl, _, rfl, ite2 (fun e => ?_) (fun e => ?_)⟩
      · have h1 : l ≤ i := of_decide_eq_true e
        refine ⟨_, rfl, _, _, rfl, rfl, ?_⟩
        have : isW l m (some i) = decide (i ≤ m) := by
          show decide (l ≤ i ∧ i ≤ m) = _
          simp [h1]
        rw [this] at q
        exact q
      · have h1 : ¬ l ≤ i := fun h => e (decide_eq_true h)
        have : isW l m (some i) = false := by
          show decide (l ≤ i ∧ i ≤ m) = _
          simp [h1]
        rw [this] at q
        exact q
theorem ok_is_sized (T : Tab K mg) : FnOk P w K mg base CX0 2 T.f_is_sized T.d_is_sized ["thing", "least", "most"] (sp_is_sized K) := by
  refine T.F_is_sized.ok sc_is_sized (fun vs H Q E h => ?_) (fun cdv A outer s H vs Q E hr h => ?_)
  · obtain ⟨a, xs, l, m, rfl, _⟩ := h
    rfl
  · obtain ⟨a, xs, l, m, rfl, hS, q⟩ := h
    refine ⟨_, (pss_one (ps_ret (pe_and (pe_call (ok_is_tuple T) (hr.mono (by decide)) (by rfl) T.g_is_tuple T.F_is_tuple.kp T.b_is_tuple .nil pass0 (pa_cons (pv 0) pa_nil)) (pe_one (pe_chain op_le op_le (pv 1) (pe_callB call_len_seq (by rfl) T.m_len PySem.boot_len (pa_cons (pv 0) pa_nil)) (pv 2)))))), ?_⟩
    refine ⟨_, rfl, a, xs, rfl, hS, fun H1 s1 => ⟨true, rfl, iteT ?_⟩⟩
    have q1 := q H1 s1
    refine ⟨_, rfl, _, rfl, _, _, rfl, same_sq s1 hS, _, _, rfl, rfl, _, rfl, ite2 (fun e => ?_) (fun e => ?_)⟩
    · have h1 : l ≤ (xs.length : Int) := of_decide_eq_true e
      refine ⟨_, rfl, _, _, rfl, rfl, ?_⟩
      have : decide (l ≤ (xs.length : Int) ∧ (xs.length : Int) ≤ m) = decide ((xs.length : Int) ≤ m) := by simp [h1]
      rw [this] at q1
      exact q1
    · have h1 : ¬ l ≤ (xs.length : Int) := fun h => e (decide_eq_true h)
      have : decide (l ≤ (xs.length : Int) ∧ (xs.length : Int) ≤ m) = false := by simp [h1]
      rw [this] at q1
      exact q1
theorem ok_page_word (T : Tab K mg) : FnOk P w K mg base CX0 2 T.f_page_word T.d_page_word ["_law_page"] (sp_page_word K) := by
  refine T.F_page_word.ok sc_page_word (fun vs H Q E h => ?_) (fun cdv A outer s H vs Q E hr h => ?_)
  · obtain ⟨v, p, rfl, _⟩ := h
    rfl
  · obtain ⟨v, p, rfl, hv, hp, q⟩ := h
    refine ⟨_, (pss_one (ps_ret (pe_op op_add_str (pe_call (ok_label_word T) (hr.mono (by decide)) (by rfl) T.g_label_word T.F_label_word.kp T.b_label_word .nil pass0 (pa_cons (pe_ix ix_tup (pv 0) pe_int (fun _ _ => rfl)) pa_nil)) (pe_ifExp (pt_cmpR op_eq (pe_ix ix_tup (pv 0) pe_int (fun _ _ => rfl)) pe_int (nomark _)) pe_str pe_str)))), ?_⟩
    obtain ⟨a, l, rfl, h1, h2⟩ := dP_inv hv
    have l1 := fL_len hp.1
    refine ⟨_, rfl, a, _, 0, .ref l, rfl, rfl, h1, rfl, l, p.1, rfl, h2, hp.1, fun H1 s1 => ?_⟩
    have qq := q H1 s1
    unfold fP at qq
    refine ⟨_, rfl, a, _, 1, .int p.2, rfl, rfl, same_seqT s1 h1, rfl, rfl, _, rfl, ite2 (fun e => ?_) (fun e => ?_)⟩
    · have e1 : p.2 = 0 := V.int.inj (of_decide_eq_true e)
      rw [if_pos e1] at qq
      refine ⟨_, _, rfl, rfl, ?_, qq⟩
      exact Nat.le_of_lt (small1000 (by show _ + 1 ≤ 1000; omega))
    · have e1 : ¬ p.2 = 0 := fun h => e (decide_eq_true (congrArg V.int h))
      rw [if_neg e1] at qq
      refine ⟨_, _, rfl, rfl, ?_, qq⟩
      exact Nat.le_of_lt (small1000 (by show _ + 1 ≤ 1000; omega))
theorem ok_law_read_page (T : Tab K mg) : FnOk P w K mg base CX0 2 T.f_law_read_page T.d_law_read_page ["_law_word"] (sp_law_read_page K) := by
  refine T.F_law_read_page.ok sc_law_read_page (fun vs H Q E h => ?_) (fun cdv A outer s H vs Q E hr h => ?_)
  · obtain ⟨z, rfl, _⟩ := h
    rfl
  · obtain ⟨z, rfl, hz, q⟩ := h
    refine ⟨_, (C8.pss_cut (ps_set (i := 1) sc_law_read_page.nd rfl (.inl rfl) (pe_ifExp (pt_cmpR op_in_seq (pe_slice sl_str (pv 0) (po_some (pe_un un_neg pe_int)) po_none) (pe_tup (pa_cons pe_str (pa_cons pe_str pa_nil))) (by rfl)) (pe_call (ok_law_read_label T) (hr.mono (by decide)) (by rfl) T.g_law_read_label T.F_law_read_label.kp T.b_law_read_label .nil pass0 (pa_cons (pe_slice sl_str (pv 0) po_none (po_some (pe_un un_neg pe_int))) pa_nil)) pe_non))
      (pss_one (ps_ret (pe_ifExp (pt_cmpR op_isN (pv 1) pe_non (nomark _)) pe_non (pe_tup (pa_cons (pv 1) (pa_cons (pe_callTy call_int1 (by rfl) T.m_int (by decide +kernel) (pa_cons (pe_cmpR op_eq (pe_ix ix_str (pv 0) (pe_un un_neg pe_int) (fun _ _ => rfl)) pe_str (nomark _)) pa_nil)) pa_nil))))))), ?_⟩
    have hz2 : z.length ≤ sizeLine := Nat.le_of_lt (small1000 (by omega))
    have lc := cutS_length z none (some (-1))
    refine ⟨fun σ' H' => ∃ v, σ' = [some (.str z), some v] ∧ Same H H' ∧ ((v = .non ∧ rdP z = none) ∨ ∃ c L, z.cps.toList.getLast? = some c ∧ (c = 97 ∨ c = 98) ∧ rdP z = some (L, (c : Int) - 97) ∧ ∃ l, v = .ref l ∧ SqT K H' l (L.map V.int)), ?_, ?_⟩
    · refine ⟨_, rfl, 1, rfl, -1, rfl, z, rfl, hz2, (by show 2 ≤ sizeLine; decide), fun t nt => ?_⟩
      have s1 := same_upd (o := .tup [.str "a", .str "b"]) nt
      refine ⟨t, _, rfl, .inr (.inl (.inl upd_same)), rfl, rfl, _, rfl, ?_⟩
      show if inV (.str (cutS z (some (-1)) none)) [.str "a", .str "b"] = true then _ else _
      rw [ab_in]
      generalize upd H t (.tup [.str "a", .str "b"]) = H1 at s1
      rcases cut_end z with ⟨e0, ec⟩ | ⟨c, e0, ec⟩
      · have hn : rdP z = none := by
          unfold rdP
          rw [e0]
          rfl
        rw [ec, decide_eq_false (by decide +kernel)]
        exact ⟨_, rfl, s1, .inl ⟨rfl, hn⟩⟩
      · by_cases hc : c = 97 ∨ c = 98
        · have hin : cutS z (some (-1)) none = ⟨#[97]⟩ ∨ cutS z (some (-1)) none = ⟨#[98]⟩ := by
            rw [ec]
            rcases hc with rfl | rfl
            · exact .inl rfl
            · exact .inr rfl
          rw [decide_eq_true hin]
          refine iteT ?_
          refine ⟨_, rfl, 1, rfl, -1, rfl, z, rfl, hz2, _, rfl, by omega, fun v H2 s2 dp => ?_⟩
          have hr : rdP z = match rdL (cutS z none (some (-1))) with | some L => some (L, (c : Int) - 97) | none => none := by
            unfold rdP
            rw [e0]
            exact if_pos hc
          cases eL : rdL (cutS z none (some (-1))) with
          | none =>
            rw [eL] at dp hr
            exact ⟨v, rfl, s1.trans s2, .inl ⟨dp_opt dp, hr⟩⟩
          | some L =>
            rw [eL] at dp hr
            obtain ⟨l, rfl, hl⟩ := dL_inv dp
            exact ⟨_, rfl, s1.trans s2, .inr ⟨c, L, e0, hc, hr, l, rfl, hl⟩⟩
        · have hin : ¬ (cutS z (some (-1)) none = ⟨#[97]⟩ ∨ cutS z (some (-1)) none = ⟨#[98]⟩) := by
            rw [ec]
            rintro (h | h)
            · exact hc (.inl (one_inj h))
            · exact hc (.inr (one_inj h))
          have hn : rdP z = none := by
            unfold rdP
            rw [e0]
            exact if_neg hc
          rw [decide_eq_false hin]
          exact ⟨_, rfl, s1, .inl ⟨rfl, hn⟩⟩
    · rintro σ' H1 ⟨v, rfl, s1, ⟨rfl, hn⟩ | ⟨c, L, e0, hc, hr, l, rfl, hl⟩⟩
      · refine ⟨_, rfl, rfl, _, rfl, ite2 (fun _ => ?_) (fun h => absurd (decide_eq_true rfl) h)⟩
        exact q .non H1 s1 (by rw [hn]; exact .non)
      · refine ⟨_, rfl, rfl, _, rfl, ite2 (fun e => absurd (of_decide_eq_true e) (by intro z; cases z)) (fun _ => ?_)⟩
        have hat : atI z.cps.toList (-1) = some c := by
          obtain ⟨r, hr⟩ := List.getLast?_eq_some_iff.mp e0
          rw [hr]
          exact atI_last _ _
        refine ⟨_, rfl, _, rfl, 1, rfl, _, _, c, rfl, rfl, hz2, hat, rfl, .inr ⟨_, rfl, (by show 2 ≤ sizeLine; decide), fun t2 nt2 => ?_⟩⟩
        have s3 := same_upd (o := .tup [.ref l, .int (if decide (V.str ⟨#[c]⟩ = V.str "b") = true then 1 else 0)]) nt2
        refine q (.ref t2) _ (s1.trans s3) ?_
        rw [hr]
        have hk2 : (if decide (V.str ⟨#[c]⟩ = V.str "b") = true then 1 else 0) = (c : Int) - 97 := by
          rcases hc with rfl | rfl
          · rw [if_neg (by decide +kernel)]
            rfl
          · rw [if_pos (by decide +kernel)]
            rfl
        rw [← hk2]
        exact .tup (.inl (.inl upd_same)) (.cons (dpL (same_seqT s3 hl)) (.cons (.int _) .nil))
theorem ok_wide_label (T : Tab K mg) : FnOk P w K mg base CX0 2 T.f_wide_label T.d_wide_label ["_law_source_here"] (sp_wide_label K) := by
  refine T.F_wide_label.ok sc_wide_label (fun vs H Q E h => ?_) (fun cdv A outer s H vs Q E hr h => ?_)
  · obtain ⟨a, rfl, _⟩ := h
    rfl
  · obtain ⟨a, rfl, src, q⟩ := h
    refine ⟨_, (pss_cons (ps_set (i := 1) sc_wide_label.nd rfl (.inl rfl) (pe_lst pa_nil))
      (pss_cons (ps_for PassesOwn.never rfl (pi_range1 (by rfl) T.m_range (pa_cons (pe_op op_add pe_int (pe_call (ok_pick T) (hr.mono (by decide)) (by rfl) T.g_pick T.F_pick.kp T.b_pick .nil pass0 (pa_cons (pv 0) (pa_cons pe_int pa_nil)))) pa_nil)) (pg_name (i := 2) sc_wide_label.nd rfl (.inl rfl))
      (pss_cons (ps_set (i := 3) sc_wide_label.nd rfl (.inl rfl) (pe_call (ok_pick T) (hr.mono (by decide)) (by rfl) T.g_pick T.F_pick.kp T.b_pick .nil pass0 (pa_cons (pv 0) (pa_cons pe_int pa_nil))))
        (pss_one (ps_if (pt_cmpR op_lt (pv 3) pe_int (nomark _))
        (pss_one (ps_expr (pe_bm PySem.F.plainAttrs_list PySem.F.slot_list_append PySem.F.type_list_append mt_append (pv 1) (pa_cons (pe_ix ix_list (pe_lst (pa_cons pe_int (pa_cons pe_int (pa_cons pe_int (pa_cons pe_int (pa_cons pe_int pa_nil)))))) (pv 3) (fun _ _ => rfl)) pa_nil))))
        (pss_one (ps_expr (pe_bm PySem.F.plainAttrs_list PySem.F.slot_list_append PySem.F.type_list_append mt_append (pv 1) (pa_cons (pe_call (ok_pick T) (hr.mono (by decide)) (by rfl) T.g_pick T.F_pick.kp T.b_pick .nil pass0 (pa_cons (pv 0) (pa_cons pe_int pa_nil))) pa_nil))))))))
      (C8.pss_cut (ps_if (pt_cmpR op_eq (pe_ix ix_list (pv 1) (pe_un un_neg pe_int) (fun _ _ => rfl)) pe_int (nomark _))
      (pss_one (ps_asg (pe_op op_add pe_int (pe_call (ok_pick T) (hr.mono (by decide)) (by rfl) T.g_pick T.F_pick.kp T.b_pick .nil pass0 (pa_cons (pv 0) (pa_cons pe_int pa_nil)))) (pg_sub (pv 1) (pe_un un_neg pe_int) set_list)))
      pss_nil)
      (pss_one (ps_ret (pe_callTy call_tuple_of (by rfl) T.m_tuple (by decide +kernel) (pa_cons (pv 1) pa_nil))))))), ?_⟩
    refine ⟨Nat.zero_le _, fun D nD => ?_⟩
    have nDa : D ≠ a := (src.ne nD).symm
    refine ⟨_, rfl, _, _, rfl, src.put nDa.symm _, by decide, by decide, fun n1 H1 s1 b1 p1 p2 => ?_⟩
    have eD1 : H1 D = some (.lst []) := b1 _ _ nDa upd_same
    have bb1 : But a H H1 := (But.of (same_upd nD)).trans b1
    generalize hN : (1 + n1).toNat = N
    have hN1 : 1 ≤ N ∧ N ≤ 3 := by omega
    refine ⟨_, _, rfl, rfl, _, rfl, by omega, by omega, for_range (lo := 0) (n := (1 + n1).toNat) (fun j σ' H' => ∃ (L : List Int) (y2 y3 : Option V), σ' = [some (.ref a), some (.ref D), y2, y3] ∧ Src H' a ∧ But a H H' ∧ H' D = some (.lst (L.map V.int)) ∧ L.length = j ∧ ∀ i ∈ L, 0 ≤ i ∧ i ≤ 99) ⟨[], none, none, rfl, s1, bb1, eD1, rfl, fun _ h => nomatch h⟩ ?_ ?_⟩
    · rintro j σ' H2 hj ⟨L, y2, y3, rfl, s2, b2, eD2, lL, bL⟩
      refine ⟨_, rfl, _, _, rfl, s2, by decide, by decide, fun n4 H4 s4 b4 p3 p4 => ?_⟩
      have eD4 := b4 _ _ nDa eD2
      have b24 := b2.trans b4
      have small : (L.map V.int).length < sizeLine := by rw [List.length_map]; exact small1000 (by omega)
      have ok1 : ∀ v : Int, 0 ≤ v → v ≤ 99 → ∀ i ∈ L ++ [v], 0 ≤ i ∧ i ≤ 99 := fun v h0 h9 i hi => by
        rcases List.mem_append.mp hi with h | h
        · exact bL _ h
        · rw [List.mem_singleton.mp h]; exact ⟨h0, h9⟩
      have l1 : ∀ v : Int, (L ++ [v]).length = j + 1 := fun v => by rw [List.length_append, lL]; rfl
      refine ⟨_, rfl, _, _, rfl, rfl, _, rfl, ite2 (fun e => ?_) (fun e => ?_)⟩
      · have e5 : n4 < 5 := of_decide_eq_true e
        obtain ⟨v, hv, h0, h9⟩ : ∃ v : Int, atI [V.int 0, .int 1, .int 9, .int 10, .int 99] n4 = some (.int v) ∧ 0 ≤ v ∧ v ≤ 99 := by
          have : n4 = 0 ∨ n4 = 1 ∨ n4 = 2 ∨ n4 = 3 ∨ n4 = 4 := by omega
          rcases this with rfl | rfl | rfl | rfl | rfl
          · exact ⟨0, rfl, by decide, by decide⟩
          · exact ⟨1, rfl, by decide, by decide⟩
          · exact ⟨9, rfl, by decide, by decide⟩
          · exact ⟨10, rfl, by decide, by decide⟩
          · exact ⟨99, rfl, by decide, by decide⟩
        refine ⟨_, rfl, .inl ⟨rfl, _, .inl (.inl eD4)⟩, (by show 5 ≤ sizeLine; decide), fun l nl => ?_⟩
        have eD5 := same_upd (o := .lst [V.int 0, .int 1, .int 9, .int 10, .int 99]) nl _ _ eD4
        have nla : l ≠ a := (s4.ne nl).symm
        have nlD : l ≠ D := (ne_of_none eD4 nl).symm
        refine ⟨_, rfl, l, _, n4, .int v, rfl, rfl, .inl (.inl upd_same), hv, ?_⟩
        refine ⟨D, _, _, rfl, rfl, eD5, small, L ++ [v], _, _, rfl, (s4.put nla.symm _).put nDa.symm _, ?_, ?_, l1 v, ok1 v h0 h9⟩
        · exact (b24.trans (But.of (same_upd nl))).put nD _
        · rw [upd_same, List.map_append]; rfl
      · refine ⟨_, rfl, .inl ⟨rfl, _, .inl (.inl eD4)⟩, _, rfl, _, _, rfl, s4, by decide, by decide, fun n5 H5 s5 b5 p5 p6 => ?_⟩
        have eD5 := b5 _ _ nDa eD4
        refine ⟨D, _, _, rfl, rfl, eD5, small, L ++ [n5], _, _, rfl, s5.put nDa.symm _, (b24.trans b5).put nD _, ?_, l1 n5, ok1 n5 p5 (by omega)⟩
        rw [upd_same, List.map_append]; rfl
    · rintro σ' H2 ⟨L, y2, y3, rfl, s2, b2, eD2, lL, bL⟩
      have hne : L ≠ [] := fun e => by rw [e] at lL; simp at lL; omega
      obtain ⟨R, x, rfl⟩ : ∃ R x, L = R ++ [x] := ⟨_, _, (List.dropLast_concat_getLast hne).symm⟩
      have hx := bL x (by simp)
      have lR : (R ++ [x]).length ≤ 3 := by omega
      refine ⟨fun σ' H' => ∃ (L : List Int), σ' = [some (.ref a), some (.ref D), y2, y3] ∧ Src H' a ∧ But a H H' ∧ H' D = some (.lst (L.map V.int)) ∧ okL L, ?_, ?_⟩
      · refine ⟨_, rfl, 1, rfl, D, _, -1, .int x, rfl, rfl, .inl (.inl eD2), at_end R x, rfl, _, rfl, ite2 (fun e => ?_) (fun e => ?_)⟩
        · refine ⟨_, rfl, _, _, rfl, s2, by decide, by decide, fun n5 H5 s5 b5 p5 p6 => ?_⟩
          have eD5 := b5 _ _ nDa eD2
          refine ⟨_, _, rfl, rfl, _, rfl, 1, rfl, D, _, -1, _, rfl, rfl, eD5, ixN_end R x, ?_⟩
          refine ⟨R ++ [1 + n5], rfl, s5.put nDa.symm _, (b2.trans b5).put nD _, ?_, ?_, ?_, ?_⟩
          · rw [upd_same, set_end]
          · rw [List.length_append] at lR ⊢; exact lR
          · rw [List.getLastD_eq_getLast?, List.getLast?_append]
            show (1 + n5 : Int) ≠ 0
            omega
          · intro i hi
            rcases List.mem_append.mp hi with h | h
            · exact bL _ (List.mem_append_left _ h)
            · rw [List.mem_singleton.mp h]; omega
        · have hx0 : x ≠ 0 := fun h => e (decide_eq_true (congrArg V.int h))
          refine ⟨_, rfl, s2, b2, eD2, lR, ?_, bL⟩
          rw [List.getLastD_eq_getLast?, List.getLast?_append]
          exact hx0
      · rintro σ' H3 ⟨L, rfl, s3, b3, eD3, hL⟩
        refine ⟨_, rfl, D, _, rfl, .inl ⟨.inl (.inl eD3), fun l nl => ?_⟩⟩
        have nla : l ≠ a := (s3.ne nl).symm
        exact q l L _ (b3.none nl nla) (s3.put nla.symm _) (b3.trans (But.of (same_upd nl))) upd_same hL
theorem ok_spoilt (T : Tab K mg) : FnOk P w K mg base CX0 2 T.f_spoilt T.d_spoilt ["_law_source_here", "_law_word"] (sp_spoilt K) := by
  refine T.F_spoilt.ok sc_spoilt (fun vs H Q E h => ?_) (fun cdv A outer s H vs Q E hr h => ?_)
  · obtain ⟨a, z, rfl, _⟩ := h
    rfl
  · obtain ⟨a, z, rfl, src, z1, z2, q⟩ := h
    refine ⟨_, (pss_cons (ps_set (i := 2) sc_spoilt.nd rfl (.inl rfl) pe_str)
      (pss_cons (ps_set (i := 3) sc_spoilt.nd rfl (.inl rfl) (pe_call (ok_pick T) (hr.mono (by decide)) (by rfl) T.g_pick T.F_pick.kp T.b_pick .nil pass0 (pa_cons (pv 0) (pa_cons pe_int pa_nil))))
      (pss_cons (ps_set (i := 4) sc_spoilt.nd rfl (.inl rfl) (pe_call (ok_pick T) (hr.mono (by decide)) (by rfl) T.g_pick T.F_pick.kp T.b_pick .nil pass0 (pa_cons (pv 0) (pa_cons (pe_callB call_len_str (by rfl) T.m_len PySem.boot_len (pa_cons (pv 1) pa_nil)) pa_nil))))
      (pss_cons (ps_set (i := 5) sc_spoilt.nd rfl (.inl rfl) (pe_ix ix_str (pv 2) (pe_call (ok_pick T) (hr.mono (by decide)) (by rfl) T.g_pick T.F_pick.kp T.b_pick .nil pass0 (pa_cons (pv 0) (pa_cons pe_int pa_nil))) (fun _ _ => rfl)))
      (pss_cons (ps_if (pt_cmpR op_lt (pv 3) pe_int (nomark _))
      (pss_one (ps_ret (pe_op op_add_str (pe_op op_add_str (pe_slice sl_str (pv 1) po_none (po_some (pv 4))) (pv 5)) (pe_slice sl_str (pv 1) (po_some (pe_op op_add (pv 4) pe_int)) po_none))))
      pss_nil)
      (pss_cons (ps_if (pt_cmpR op_lt (pv 3) pe_int (nomark _))
      (pss_one (ps_ret (pe_op op_add_str (pe_op op_add_str (pe_slice sl_str (pv 1) po_none (po_some (pv 4))) (pv 5)) (pe_slice sl_str (pv 1) (po_some (pv 4)) po_none))))
      pss_nil)
      (pss_cons (ps_if (PW.pt (pw_and (pt_cmpR op_eq (pv 3) pe_int (nomark _)) (pw_and1 (pt_cmpR op_gt (pe_callB call_len_str (by rfl) T.m_len PySem.boot_len (pa_cons (pv 1) pa_nil)) pe_int (nomark _)))))
      (pss_one (ps_ret (pe_op op_add_str (pe_slice sl_str (pv 1) po_none (po_some (pv 4))) (pe_slice sl_str (pv 1) (po_some (pe_op op_add (pv 4) pe_int)) po_none))))
      pss_nil)
      (pss_cons (ps_if (pt_cmpR op_eq (pv 3) pe_int (nomark _))
      (pss_one (ps_ret (pe_op op_add_str (pe_slice sl_str (pv 1) po_none (po_some (pe_op op_add (pv 4) pe_int))) (pe_slice sl_str (pv 1) (po_some (pv 4)) po_none))))
      pss_nil)
      (pss_cons (ps_if (pt_cmpR op_eq (pv 3) pe_int (nomark _))
      (pss_one (ps_ret (pe_op op_add_str (pe_op op_add_str (pe_op op_add_str (pe_slice sl_str (pv 1) po_none (po_some (pv 4))) (pe_slice sl_str (pv 1) (po_some (pe_op op_add (pv 4) pe_int)) (po_some (pe_op op_add (pv 4) pe_int)))) (pe_ix ix_str (pv 1) (pv 4) (fun _ _ => rfl))) (pe_slice sl_str (pv 1) (po_some (pe_op op_add (pv 4) pe_int)) po_none))))
      pss_nil)
      (pss_cons (ps_if (pt_cmpR op_eq (pv 3) pe_int (nomark _))
      (pss_one (ps_ret (pe_op op_add_str (pe_op op_add_str (pv 1) pe_str) (pv 1))))
      pss_nil)
      (pss_cons (ps_if (pt_cmpR op_eq (pv 3) pe_int (nomark _))
      (pss_one (ps_ret (pe_op op_add_str pe_str (pv 1))))
      pss_nil)
      (pss_cons (ps_if (pt_cmpR op_eq (pv 3) pe_int (nomark _))
      (pss_one (ps_ret (pe_op op_add_str (pv 1) pe_str)))
      pss_nil)
      (pss_one (ps_ret (pe_op op_add_str pe_str (pv 1)))))))))))))))), ?_⟩
    have hz2 : z.length ≤ sizeLine := Nat.le_of_lt (small1000 (by omega))
    have ap : ∀ x y : Str, (x ++ y).length = x.length + y.length := fun x y => by
      show (x.cps ++ y.cps).size = _
      rw [Array.size_append]; rfl
    have lc : ∀ c : Nat, (⟨#[c]⟩ : Str).length = 1 := fun _ => rfl
    have ld : ("-" : Str).length = 1 := by decide +kernel
    have l0 : ("0" : Str).length = 1 := by decide +kernel
    refine ⟨_, rfl, _, _, rfl, src, by decide, by decide, fun wy H1 s1 b1 p1 p2 => ?_⟩
    refine ⟨_, rfl, _, rfl, z, rfl, hz2, _, _, rfl, s1, by omega, by omega, fun k H2 s2 b2 p3 p4 => ?_⟩
    refine ⟨_, rfl, _, rfl, _, _, rfl, s2, by decide, by decide, fun m H3 s3 b3 p5 p6 => ?_⟩
    have ls : ("0123456789abcA.-+/" : Str).cps.toList.length = 18 := by decide +kernel
    obtain ⟨c, hc⟩ := at_some ("0123456789abcA.-+/" : Str).cps.toList m p5 (by rw [ls]; exact p6)
    obtain ⟨c2, hc2⟩ := at_some z.cps.toList k p3 p4
    refine ⟨_, m, c, rfl, rfl, (by decide +kernel), hc, ?_⟩
    have q' := fun y => q y H3 s3 ((b1.trans b2).trans b3)
    have S0 := cut_to z k p3 (by omega)
    have S1 := cut_from z (k + 1) (by omega)
    have S2 := cut_from z k p3
    have S3 := cut_to z (k + 1) (by omega) (by omega)
    have S4 := cutS_length z (some (k + 1)) (some (k + 2))
    have S5 := cutS_length z (some (k + 2)) none
    refine ⟨_, rfl, _, _, rfl, rfl, _, rfl, ite2 (fun e => ?_) (fun _ => ?_)⟩
    · refine ⟨_, rfl, _, rfl, _, rfl, z, rfl, hz2, _, rfl, _, _, rfl, rfl, ?_, _, rfl, _, rfl, _, _, rfl, rfl, _, rfl, z, rfl, hz2, _, _, rfl, rfl, ?_, q' _ ?_ ?_⟩ <;> ((try simp only [ap, lc, ld, l0]); first | omega | exact Nat.le_of_lt (small1000 (by omega)))
    refine ⟨_, rfl, _, _, rfl, rfl, _, rfl, ite2 (fun e => ?_) (fun _ => ?_)⟩
    · refine ⟨_, rfl, _, rfl, _, rfl, z, rfl, hz2, _, rfl, _, _, rfl, rfl, ?_, _, rfl, _, rfl, _, rfl, z, rfl, hz2, _, _, rfl, rfl, ?_, q' _ ?_ ?_⟩ <;> ((try simp only [ap, lc, ld, l0]); first | omega | exact Nat.le_of_lt (small1000 (by omega)))
    by_cases h5 : V.int wy = V.int 5 ∧ (1 : Int) < (z.length : Int)
    · refine ⟨_, rfl, rfl, _, rfl, ite2 (fun _ => ?_) (fun h => absurd (decide_eq_true h5.1) h)⟩
      refine ⟨_, rfl, z, rfl, hz2, _, _, rfl, rfl, _, rfl, ite2 (fun _ => ?_) (fun h => absurd (decide_eq_true h5.2) h)⟩
      have h6 := h5.2
      refine ⟨_, rfl, _, rfl, _, rfl, z, rfl, hz2, _, rfl, _, rfl, _, _, rfl, rfl, _, rfl, z, rfl, hz2, _, _, rfl, rfl, ?_, q' _ ?_ ?_⟩ <;> ((try simp only [ap, lc, ld, l0]); first | omega | exact Nat.le_of_lt (small1000 (by omega)))
    by_cases h3 : V.int wy = V.int 5
    · refine ⟨_, rfl, rfl, _, rfl, ite2 (fun _ => ?_) (fun h => absurd (decide_eq_true h3) h)⟩
      refine ⟨_, rfl, z, rfl, hz2, _, _, rfl, rfl, _, rfl, ite2 (fun h => absurd ⟨h3, of_decide_eq_true h⟩ h5) (fun _ => ?_)⟩
      refine ⟨_, rfl, rfl, _, rfl, ite2 (fun e => ?_) (fun _ => ?_)⟩
      · refine ⟨_, rfl, _, rfl, _, _, rfl, rfl, _, rfl, z, rfl, hz2, _, rfl, _, rfl, _, rfl, z, rfl, hz2, _, _, rfl, rfl, ?_, q' _ ?_ ?_⟩ <;> ((try simp only [ap, lc, ld, l0]); first | omega | exact Nat.le_of_lt (small1000 (by omega)))
      refine ⟨_, rfl, rfl, _, rfl, ite2 (fun e => ?_) (fun _ => ?_)⟩
      · refine ⟨_, rfl, _, rfl, _, rfl, z, rfl, hz2, _, rfl, _, rfl, _, _, rfl, rfl, _, rfl, _, rfl, _, _, rfl, rfl, _, rfl, z, rfl, hz2, _, _, rfl, rfl, ?_, _, rfl, _, rfl, z, k, c2, rfl, rfl, hz2, hc2, _, _, rfl, rfl, ?_, _, rfl, _, rfl, _, _, rfl, rfl, _, rfl, z, rfl, hz2, _, _, rfl, rfl, ?_, q' _ ?_ ?_⟩ <;> ((try simp only [ap, lc, ld, l0]); first | omega | exact Nat.le_of_lt (small1000 (by omega)))
      refine ⟨_, rfl, rfl, _, rfl, ite2 (fun e => ?_) (fun _ => ?_)⟩
      · refine ⟨_, rfl, _, _, rfl, rfl, ?_, _, rfl, _, _, rfl, rfl, ?_, q' _ ?_ ?_⟩ <;> ((try simp only [ap, lc, ld, l0]); first | omega | exact Nat.le_of_lt (small1000 (by omega)))
      refine ⟨_, rfl, rfl, _, rfl, ite2 (fun e => ?_) (fun _ => ?_)⟩
      · refine ⟨_, rfl, _, _, rfl, rfl, ?_, q' _ ?_ ?_⟩ <;> ((try simp only [ap, lc, ld, l0]); first | omega | exact Nat.le_of_lt (small1000 (by omega)))
      refine ⟨_, rfl, rfl, _, rfl, ite2 (fun e => ?_) (fun _ => ?_)⟩
      · refine ⟨_, rfl, _, _, rfl, rfl, ?_, q' _ ?_ ?_⟩ <;> ((try simp only [ap, lc, ld, l0]); first | omega | exact Nat.le_of_lt (small1000 (by omega)))
      refine ⟨_, rfl, _, _, rfl, rfl, ?_, q' _ ?_ ?_⟩ <;> ((try simp only [ap, lc, ld, l0]); first | omega | exact Nat.le_of_lt (small1000 (by omega)))
    · refine ⟨_, rfl, rfl, _, rfl, ite2 (fun h => absurd (of_decide_eq_true h) h3) (fun _ => ?_)⟩
      refine ⟨_, rfl, rfl, _, rfl, ite2 (fun e => ?_) (fun _ => ?_)⟩
      · refine ⟨_, rfl, _, rfl, _, _, rfl, rfl, _, rfl, z, rfl, hz2, _, rfl, _, rfl, _, rfl, z, rfl, hz2, _, _, rfl, rfl, ?_, q' _ ?_ ?_⟩ <;> ((try simp only [ap, lc, ld, l0]); first | omega | exact Nat.le_of_lt (small1000 (by omega)))
      refine ⟨_, rfl, rfl, _, rfl, ite2 (fun e => ?_) (fun _ => ?_)⟩
      · refine ⟨_, rfl, _, rfl, _, rfl, z, rfl, hz2, _, rfl, _, rfl, _, _, rfl, rfl, _, rfl, _, rfl, _, _, rfl, rfl, _, rfl, z, rfl, hz2, _, _, rfl, rfl, ?_, _, rfl, _, rfl, z, k, c2, rfl, rfl, hz2, hc2, _, _, rfl, rfl, ?_, _, rfl, _, rfl, _, _, rfl, rfl, _, rfl, z, rfl, hz2, _, _, rfl, rfl, ?_, q' _ ?_ ?_⟩ <;> ((try simp only [ap, lc, ld, l0]); first | omega | exact Nat.le_of_lt (small1000 (by omega)))
      refine ⟨_, rfl, rfl, _, rfl, ite2 (fun e => ?_) (fun _ => ?_)⟩
      · refine ⟨_, rfl, _, _, rfl, rfl, ?_, _, rfl, _, _, rfl, rfl, ?_, q' _ ?_ ?_⟩ <;> ((try simp only [ap, lc, ld, l0]); first | omega | exact Nat.le_of_lt (small1000 (by omega)))
      refine ⟨_, rfl, rfl, _, rfl, ite2 (fun e => ?_) (fun _ => ?_)⟩
      · refine ⟨_, rfl, _, _, rfl, rfl, ?_, q' _ ?_ ?_⟩ <;> ((try simp only [ap, lc, ld, l0]); first | omega | exact Nat.le_of_lt (small1000 (by omega)))
      refine ⟨_, rfl, rfl, _, rfl, ite2 (fun e => ?_) (fun _ => ?_)⟩
      · refine ⟨_, rfl, _, _, rfl, rfl, ?_, q' _ ?_ ?_⟩ <;> ((try simp only [ap, lc, ld, l0]); first | omega | exact Nat.le_of_lt (small1000 (by omega)))
      refine ⟨_, rfl, _, _, rfl, rfl, ?_, q' _ ?_ ?_⟩ <;> ((try simp only [ap, lc, ld, l0]); first | omega | exact Nat.le_of_lt (small1000 (by omega)))
theorem ok_kept_label (T : Tab K mg) : FnOk P w K mg base CX0 3 T.f_kept_label T.d_kept_label ["thing"] (sp_kept_label K) := by
  refine T.F_kept_label.ok sc_kept_label (fun vs H Q E h => ?_) (fun cdv A outer s H vs Q E hr h => ?_)
  · obtain ⟨a, os, rfl, _⟩ := h
    rfl
  · obtain ⟨a, os, rfl, hS, ho, hb, q⟩ := h
    refine ⟨_, (pss_cons (ps_if (pt_not (pt_val (pe_call (ok_is_sized T) (hr.mono (by decide)) (by rfl) T.g_is_sized T.F_is_sized.kp T.b_is_sized .nil pass0 (pa_cons (pv 0) (pa_cons pe_int (pa_cons (pe_glob (v := .int 3) (by rfl) T.c_MOST_PARTS ⟨_, rfl⟩) pa_nil))))))
      (pss_one (ps_ret pe_non))
      pss_nil)
      (pss_cons (ps_if (PW.pt (pw_or (pt_not (pt_val (pe_callB (cr_all rfl) (by rfl) T.m_all (by decide +kernel) (pa_cons (pe_lc (own := [("part", 1)]) (g := gName 1) (by rfl) sc_kept_label.nd (pi_or (pi_list (pv 0)) (pi_tup (pv 0))) (blkOk_by (own := [("part", 1)]) (N := N_kept_label) (sc := defScope s_kept_label) (by decide +kernel)) (fun _ _ _ _ _ => pg_name (i := 1) sc_kept_label.nd rfl (.inl rfl)) (fun _ _ _ _ _ => pts_nil) (fun _ _ _ _ _ => (pe_call (ok_is_within T) (hr.mono (by decide)) (by rfl) T.g_is_within T.F_is_within.kp T.b_is_within .nil pass0 (pa_cons (pv 1) (pa_cons pe_int (pa_cons pe_int pa_nil)))))) pa_nil)))) (pw_or1 (pt_cmpR op_eq (pe_ix (IxR.or ix_list ix_tup) (pv 0) (pe_un un_neg pe_int) (fun _ _ => rfl)) pe_int (nomark _)))))
      (pss_one (ps_ret pe_non))
      pss_nil)
      (pss_one (ps_ret (pe_callTy call_tuple_of (by rfl) T.m_tuple (by decide +kernel) (pa_cons (pv 0) pa_nil)))))), ?_⟩
    have hlo : (os.map optI).length = os.length := List.length_map ..
    refine ⟨_, rfl, a, _, _, _, rfl, hS, fun H1 s1 => ?_⟩
    refine ⟨_, rfl, ?_⟩
    by_cases hsz : (1 : Int) ≤ ((os.map optI).length : Int) ∧ ((os.map optI).length : Int) ≤ 3
    · rw [decide_eq_true hsz]
      have hS' := hS
      replace hS := same_sq s1 hS
      have hall : ∀ bs : List Bool, bs = os.map (isW 0 99) → (bs.all id = true ↔ ∃ L, allSome os = some L) := fun bs hbs => by
        subst hbs
        clear hlo hS hS' hsz q ho
        induction os with
        | nil => exact ⟨fun _ => ⟨[], rfl⟩, fun _ => rfl⟩
        | cons o r ih =>
          have ih' := ih (fun i hi => hb i (List.mem_cons_of_mem _ hi))
          rcases o with _ | i
          · exact ⟨fun h => by simp [isW] at h, fun ⟨L, h⟩ => by cases h⟩
          · have hi := hb i (List.mem_cons_self ..)
            have e1 : ((some i :: r).map (isW 0 99)).all id = (r.map (isW 0 99)).all id := by simp [isW, hi]
            rw [e1, ih']
            constructor
            · rintro ⟨L, h⟩
              exact ⟨i :: L, by unfold allSome; rw [h]⟩
            · rintro ⟨L, h⟩
              unfold allSome at h
              split at h
              · exact ⟨_, by assumption⟩
              · cases h
      have hlen : ∀ L, allSome os = some L → os = L.map some := by
        clear hall hlo hS hS' hsz q ho hb
        induction os with
        | nil => intro L h; injection h with h; subst h; rfl
        | cons o r ih =>
          intro L h
          rcases o with _ | i
          · cases h
          · unfold allSome at h
            split at h
            · rename_i L' e
              injection h with h
              subst h
              rw [ih L' e]
              rfl
            · cases h
      rcases hS with hS | hS
      · refine .inl ⟨_, rfl, a, rfl, ⟨_, hS⟩, fun D nD => ?_⟩
        refine lc_list (xs := os.map optI) (fun i H' => Same H1 H' ∧ ∃ bs : List Bool, H' D = some (.lst (bs.map V.bl)) ∧ bs = (os.take i).map (isW 0 99)) ⟨same_upd nD, [], upd_same, rfl⟩ (fun i H' _ hh => Same.seq hh.1 hS) ?_ ?_
        · rintro i x H' hx ⟨sm, bs, eD, eb⟩
          obtain ⟨o, rfl, hoi⟩ : ∃ o, x = optI o ∧ os[i]? = some o := by
            rw [List.getElem?_map] at hx
            cases e : os[i]? with
            | none => rw [e] at hx; cases hx
            | some o => rw [e] at hx; exact ⟨o, (Option.some.inj hx).symm, rfl⟩
          refine ⟨rfl, ?_⟩
          refine ⟨_, rfl, o, 0, 99, rfl, _, eD, ?_, same_put sm nD _, bs ++ [isW 0 99 o], ?_, ?_⟩
          · rw [List.length_map, eb, List.length_map, List.length_take]
            exact small1000 (by omega)
          · rw [upd_same, List.map_append]; rfl
          · rw [eb, List.take_add_one, hoi, List.map_append]; rfl
        · rintro H' ⟨sm, bs, eD, eb⟩
          have eb2 : bs = os.map (isW 0 99) := by rw [eb, hlo, List.take_length]
          have s2 := s1.trans sm
          refine ⟨D, bs, rfl, .inl (.inl eD), _, rfl, ?_⟩
          by_cases hA : bs.all id = true
          · obtain ⟨L, eL⟩ := (hall bs eb2).mp hA
            have eo := hlen L eL
            rw [hA]
            have hne : L ≠ [] := fun e => by
              rw [eo, e] at hsz
              simp at hsz
            have hLl : L.length ≤ 3 := by
              rw [eo] at hsz
              simp at hsz
              omega
            have hL3 : (os.map optI) = (L.dropLast.map V.int) ++ [V.int (L.getLast hne)] := by
              rw [eo, List.map_map, ← List.map_singleton, ← List.map_append, List.dropLast_concat_getLast]
              rfl
            have hat : atI (os.map optI) (-1) = some (.int (L.getLast hne)) := by
              rw [hL3]
              exact atI_last _ _
            have hgl : L.getLastD 0 = L.getLast hne := by
              rw [List.getLastD_eq_getLast?, List.getLast?_eq_getLast hne]
              rfl
            refine ⟨_, rfl, 1, rfl, .inl ⟨_, _, _, _, rfl, rfl, Same.seq sm hS, hat, rfl, _, rfl, ?_⟩⟩
            by_cases h0 : L.getLast hne = 0
            · have ek : keep os = none := by
                unfold keep
                rw [eL]
                simp only
                rw [if_neg (fun h => h.2 (by rw [hgl]; exact h0))]
              rw [decide_eq_true (congrArg V.int h0)]
              have q' := q .non H' s2 (by rw [ek]; exact .non)
              exact q'
            · have ek : keep os = some L := by
                unfold keep
                rw [eL]
                simp only
                rw [if_pos ⟨hLl, by rw [hgl]; exact h0⟩]
              rw [decide_eq_false (fun h => h0 (V.int.inj h))]
              have eLo : os.map optI = L.map V.int := by rw [eo, List.map_map]; rfl
              refine ⟨_, rfl, _, _, rfl, .inl ⟨Same.seq sm hS, fun l nl => ?_⟩⟩
              have q2 := q (.ref l) _ (s2.trans (same_upd nl)) (by rw [ek]; exact dpL (.inl (.inl (by rw [← eLo]; exact upd_same))))
              exact q2
          · have ek : keep os = none := by
              unfold keep
              cases e : allSome os with
              | none => rfl
              | some L => exact absurd ((hall bs eb2).mpr ⟨L, e⟩) hA
            rw [Bool.not_eq_true] at hA
            rw [hA]
            have q' := q .non H' s2 (by rw [ek]; exact .non)
            exact q'
      · refine .inr ⟨_, rfl, a, rfl, ⟨_, hS⟩, fun D nD => ?_⟩
        refine lc_tup (xs := os.map optI) (fun i H' => Same H1 H' ∧ ∃ bs : List Bool, H' D = some (.lst (bs.map V.bl)) ∧ bs = (os.take i).map (isW 0 99)) ⟨same_upd nD, [], upd_same, rfl⟩ (fun i H' _ hh => same_seqT hh.1 hS) ?_ ?_
        · rintro i x H' hx ⟨sm, bs, eD, eb⟩
          obtain ⟨o, rfl, hoi⟩ : ∃ o, x = optI o ∧ os[i]? = some o := by
            rw [List.getElem?_map] at hx
            cases e : os[i]? with
            | none => rw [e] at hx; cases hx
            | some o => rw [e] at hx; exact ⟨o, (Option.some.inj hx).symm, rfl⟩
          refine ⟨rfl, ?_⟩
          refine ⟨_, rfl, o, 0, 99, rfl, _, eD, ?_, same_put sm nD _, bs ++ [isW 0 99 o], ?_, ?_⟩
          · rw [List.length_map, eb, List.length_map, List.length_take]
            exact small1000 (by omega)
          · rw [upd_same, List.map_append]; rfl
          · rw [eb, List.take_add_one, hoi, List.map_append]; rfl
        · rintro H' ⟨sm, bs, eD, eb⟩
          have eb2 : bs = os.map (isW 0 99) := by rw [eb, hlo, List.take_length]
          have s2 := s1.trans sm
          refine ⟨D, bs, rfl, .inl (.inl eD), _, rfl, ?_⟩
          by_cases hA : bs.all id = true
          · obtain ⟨L, eL⟩ := (hall bs eb2).mp hA
            have eo := hlen L eL
            rw [hA]
            have hne : L ≠ [] := fun e => by
              rw [eo, e] at hsz
              simp at hsz
            have hLl : L.length ≤ 3 := by
              rw [eo] at hsz
              simp at hsz
              omega
            have hL3 : (os.map optI) = (L.dropLast.map V.int) ++ [V.int (L.getLast hne)] := by
              rw [eo, List.map_map, ← List.map_singleton, ← List.map_append, List.dropLast_concat_getLast]
              rfl
            have hat : atI (os.map optI) (-1) = some (.int (L.getLast hne)) := by
              rw [hL3]
              exact atI_last _ _
            have hgl : L.getLastD 0 = L.getLast hne := by
              rw [List.getLastD_eq_getLast?, List.getLast?_eq_getLast hne]
              rfl
            refine ⟨_, rfl, 1, rfl, .inr ⟨_, _, _, _, rfl, rfl, same_seqT sm hS, hat, rfl, _, rfl, ?_⟩⟩
            by_cases h0 : L.getLast hne = 0
            · have ek : keep os = none := by
                unfold keep
                rw [eL]
                simp only
                rw [if_neg (fun h => h.2 (by rw [hgl]; exact h0))]
              rw [decide_eq_true (congrArg V.int h0)]
              have q' := q .non H' s2 (by rw [ek]; exact .non)
              exact q'
            · have ek : keep os = some L := by
                unfold keep
                rw [eL]
                simp only
                rw [if_pos ⟨hLl, by rw [hgl]; exact h0⟩]
              rw [decide_eq_false (fun h => h0 (V.int.inj h))]
              have eLo : os.map optI = L.map V.int := by rw [eo, List.map_map]; rfl
              refine ⟨_, rfl, _, _, rfl, .inr ⟨same_seqT sm hS, ?_⟩⟩
              have q2 := q (.ref a) _ s2 (by rw [ek]; exact dpL (by rw [← eLo]; exact same_seqT sm hS))
              exact q2
          · have ek : keep os = none := by
              unfold keep
              cases e : allSome os with
              | none => rfl
              | some L => exact absurd ((hall bs eb2).mpr ⟨L, e⟩) hA
            rw [Bool.not_eq_true] at hA
            rw [hA]
            have q' := q .non H' s2 (by rw [ek]; exact .non)
            exact q'
    · rw [decide_eq_false hsz]
      have ek : keep os = none := by
        unfold keep
        cases e : allSome os with
        | none => rfl
        | some L =>
          simp only
          have hl : L.length = os.length := by
            clear hlo hS hsz q ho hb
            induction os generalizing L with
            | nil => injection e with e; subst e; rfl
            | cons o r ih =>
              rcases o with _ | i
              · cases e
              · unfold allSome at e
                split at e
                · rename_i L' e'
                  injection e with e
                  subst e
                  rw [List.length_cons, List.length_cons, ih L' e']
                · cases e
          rw [if_neg ?_]
          rintro ⟨h1, h2⟩
          apply hsz
          rw [hlo]
          refine ⟨?_, by omega⟩
          cases L with
          | nil => exact absurd rfl h2
          | cons x r => simp only [List.length_cons] at hl; omega
      have q' := q .non H1 s1 (by rw [ek]; exact .non)
      exact q'
theorem ok_span_word (T : Tab K mg) : FnOk P w K mg base CX0 3 T.f_span_word T.d_span_word ["_law_begin", "_law_last"] (sp_span_word K) := by
  refine T.F_span_word.ok sc_span_word (fun vs H Q E h => ?_) (fun cdv A outer s H vs Q E hr h => ?_)
  · obtain ⟨v, w', p, q', rfl, _⟩ := h
    rfl
  · obtain ⟨v, w', p, q', rfl, hv, hw, hp, hq, q⟩ := h
    refine ⟨_, (pss_one (ps_ret (pe_ifExp (pt_cmpR (op_eqD hr.units) (pv 0) (pv 1) (nomark _)) (pe_call (ok_page_word T) (hr.mono (by decide)) (by rfl) T.g_page_word T.F_page_word.kp T.b_page_word .nil pass0 (pa_cons (pv 0) pa_nil)) (pe_op op_add_str (pe_op op_add_str (pe_call (ok_page_word T) (hr.mono (by decide)) (by rfl) T.g_page_word T.F_page_word.kp T.b_page_word .nil pass0 (pa_cons (pv 0) pa_nil)) pe_str) (pe_call (ok_page_word T) (hr.mono (by decide)) (by rfl) T.g_page_word T.F_page_word.kp T.b_page_word .nil pass0 (pa_cons (pv 1) pa_nil)))))), ?_⟩
    have l1 := fP_len hp
    have l2 := fP_len hq
    have l3 : ("-" : Str).length = 1 := by decide +kernel
    have ap : ∀ x y : Str, (x ++ y).length = x.length + y.length := fun x y => by
      show (x.cps ++ y.cps).size = _
      rw [Array.size_append]; rfl
    refine ⟨_, rfl, _, rfl, dP p, dP q', hv, hw, shaped_pn (pn_P p) (by decide), shaped_pn (pn_P q') (by decide), _, rfl, ?_⟩
    rw [eqv_dP]
    refine ite2 (fun e => ?_) (fun e => ?_)
    · have e1 : p = q' := of_decide_eq_true e
      refine ⟨_, rfl, v, p, rfl, hv, hp, fun H1 s1 => ?_⟩
      have qq := q H1 s1
      unfold fR at qq
      rw [if_pos (by rw [e1])] at qq
      exact qq
    · have e1 : ¬ fP p = fP q' := fun h => e (decide_eq_true (fP_inj hp hq h))
      refine ⟨_, rfl, v, p, rfl, hv, hp, fun H1 s1 => ?_⟩
      refine ⟨_, _, rfl, rfl, ?_, ?_⟩
      · rw [l3]; exact Nat.le_of_lt (small1000 (by omega))
      refine ⟨_, rfl, w', q', rfl, dp_same s1 hw, hq, fun H2 s2 => ?_⟩
      have qq := q H2 (s1.trans s2)
      unfold fR at qq
      rw [if_neg e1] at qq
      refine ⟨_, _, rfl, rfl, ?_, qq⟩
      rw [ap, l3]; exact Nat.le_of_lt (small1000 (by omega))
theorem ok_law_read_range (T : Tab K mg) : FnOk P w K mg base CX0 3 T.f_law_read_range T.d_law_read_range ["_law_token"] (sp_law_read_range K) := by
  refine T.F_law_read_range.ok sc_law_read_range (fun vs H Q E h => ?_) (fun cdv A outer s H vs Q E hr h => ?_)
  · obtain ⟨z, rfl, _⟩ := h
    rfl
  · obtain ⟨z, rfl, hz, q⟩ := h
    refine ⟨_, (pss_cons (ps_setLc (i := 1) (own := [("_law_part", 2)]) (g := gName 2) (by rfl) sc_law_read_range.nd rfl rfl (sw_true rfl rfl rfl (by decide +kernel)) (pi_list (pe_split (pv 0) pe_str)) (blkOk_by (own := [("_law_part", 2)]) (N := N_law_read_range) (sc := defScope s_law_read_range) (by decide +kernel)) (fun _ _ _ _ _ => pg_name (i := 2) sc_law_read_range.nd rfl (.inl rfl)) (fun _ _ _ _ _ => pts_nil) (fun _ _ _ _ _ => (pe_call (ok_law_read_page T) (hr.mono (by decide)) (by rfl) T.g_law_read_page T.F_law_read_page.kp T.b_law_read_page .nil pass0 (pa_cons (pv 2) pa_nil))))
      (pss_one (ps_ret (pe_ifExp (PW.pt (pw_or (pt_cmpR (op_inD (un2 hr)) pe_non (pv 1) (by rfl)) (pw_or1 (pt_cmpR op_gt (pe_callB call_len_seq (by rfl) T.m_len PySem.boot_len (pa_cons (pv 1) pa_nil)) pe_int (nomark _))))) pe_non (pe_tup (pa_cons (pe_ix ix_list (pv 1) pe_int (fun _ _ => rfl)) (pa_cons (pe_ix ix_list (pv 1) (pe_un un_neg pe_int) (fun _ _ => rfl)) pa_nil))))))), ?_⟩
    have hd1 : 1 ≤ ("-" : Str).length := by decide +kernel
    have hcnt := split_cnt z "-" hd1
    refine ⟨_, rfl, ⟨_, rfl⟩, z, _, rfl, rfl, (by decide +kernel), ?_, fun p np => ?_⟩
    · have e2 : sizeLine = 16777216 := by decide
      omega
    refine ⟨p, rfl, ⟨_, .inl (.inl upd_same)⟩, fun D nD => ?_⟩
    have ep : (upd H p (.lst ((Txt.split z "-").map V.str))) p = some (.lst ((Txt.split z "-").map V.str)) := upd_same
    have s1 := same_upd (o := .lst ((Txt.split z "-").map V.str)) np
    generalize upd H p (.lst ((Txt.split z "-").map V.str)) = H1 at nD ep s1
    refine lc_list (xs := (Txt.split z "-").map V.str) (fun i H' => Same H1 H' ∧ ∃ xs, H' D = some (.lst xs) ∧ DpAll K H' xs ((((Txt.split z "-").take i).map rdP).map (oD dP))) ⟨same_upd nD, [], upd_same, .nil⟩ (fun i H' _ hh => .inl (.inl (hh.1 _ _ ep))) ?_ ?_
    · rintro i x H' hx ⟨sm, xs, eD, da⟩
      obtain ⟨y, rfl, hy⟩ := get_map hx
      have hy1 := split_part z "-" hd1 (List.mem_of_getElem? hy)
      have hi := (List.getElem?_eq_some_iff.mp hy).1
      have hlen := dpAll_len da
      rw [List.length_map, List.length_map, List.length_take] at hlen
      refine ⟨rfl, ?_⟩
      refine ⟨_, rfl, y, rfl, by omega, fun v H2 s2 dp => ⟨xs, s2 _ _ eD, small1000 (by omega), same_put (sm.trans s2) nD _, xs ++ [v], upd_same, ?_⟩⟩
      rw [List.take_add_one, hy, List.map_append, List.map_append]
      have e2 := s2 _ _ eD
      refine dpAll_snoc (dpAll_but e2 (But.upd _) (dpAll_same s2 da) fun d hd => ?_) (dp_but e2 (But.upd _) dp ⟨2, pn_oP _⟩)
      obtain ⟨o, _, rfl⟩ := List.mem_map.mp hd
      exact ⟨2, pn_oP o⟩
    · rintro H' ⟨sm, xs, eD, da⟩
      rw [List.length_map, List.take_length] at da
      have s2 := s1.trans sm
      have hlen := dpAll_len da
      rw [List.length_map, List.length_map] at hlen
      have hne := split_ne z "-"
      have hsh : SeqAt.shaped (.list (((Txt.split z "-").map rdP).map (oD dP))) = true := shaped_pnl (n := 2) (fun d hd => by
        obtain ⟨o, _, rfl⟩ := List.mem_map.mp hd
        exact pn_oP o) (by decide)
      have hln : (xs.length : Int) = ((Txt.split z "-").length : Int) := by rw [hlen]
      generalize hps : (Txt.split z "-").map rdP = ps at da hsh
      have hpl : xs.length = ps.length := by rw [← hps, List.length_map]; exact hlen
      have hR : rdR z = rdR2 ps := by rw [rdR_eq, hps]
      have hpne : ps ≠ [] := fun e => hne (List.map_eq_nil_iff.mp (hps.trans e))
      have dl : Dp K H' (.ref D) (.list (ps.map (oD dP))) := .lst (.inl (.inl eD)) da
      by_cases h2 : (2 : Int) < (xs.length : Int)
      · have hn : rdR z = none := by
          rw [hR]
          match ps, hpl with
          | [], _ => rfl
          | [a], h => rw [h] at h2; simp at h2
          | [a, b], h => rw [h] at h2; simp at h2
          | a :: b :: c :: r, _ => cases a <;> cases b <;> rfl
        have q' := q .non H' s2 (by rw [hn]; exact .non)
        refine ⟨_, rfl, _, _, .non, dl, rfl, hsh, _, rfl, ?_⟩
        refine ite2 (fun _ => ?_) (fun _ => ?_)
        · exact q'
        · refine ⟨_, rfl, _, _, rfl, .inl (.inl (.inl eD)), _, _, rfl, rfl, _, rfl, ite2 (fun _ => ?_) (fun h => absurd (decide_eq_true h2) h)⟩
          exact q'
      · have hl2 : ¬ decide ((2 : Int) < (xs.length : Int)) = true := fun h => h2 (of_decide_eq_true h)
        by_cases hN : ps.any (·.isNone) = true
        · have hn : rdR z = none := by
            rw [hR]
            match ps, hN with
            | [], _ => rfl
            | [none], _ => rfl
            | [some p], h => cases h
            | [none, b], _ => rfl
            | [some p, none], _ => rfl
            | [some p, some q], h => cases h
            | none :: b :: c :: r, _ => rfl
            | some a :: none :: c :: r, _ => rfl
            | some a :: some b :: c :: r, _ => rfl
          have q' := q .non H' s2 (by rw [hn]; exact .non)
          refine ⟨_, rfl, _, _, .non, dl, rfl, hsh, _, rfl, ?_⟩
          rw [none_in, hN]
          exact q'
        · rw [Bool.not_eq_true] at hN
          refine ⟨_, rfl, _, _, .non, dl, rfl, hsh, _, rfl, ?_⟩
          rw [none_in, hN]
          refine iteF ?_
          refine ⟨_, rfl, _, _, rfl, .inl (.inl (.inl eD)), _, _, rfl, rfl, _, rfl, ite2 (fun h => absurd h hl2) (fun _ => ?_)⟩
          have fin : ∀ (x y : V) (p p' : Pg), xs[0]? = some x → xs.getLast? = some y → rdR z = some (p, p') → Dp K H' x (dP p) → Dp K H' y (dP p') → ∀ t, H' t = none → Q (.ref t) (upd H' t (.tup [x, y])) := fun x y p p' _ _ er dx dy t nt => q _ _ (s2.trans (same_upd nt)) (by rw [er]; exact .tup (.inl (.inl upd_same)) (.cons (dp_same (same_upd nt) dx) (.cons (dp_same (same_upd nt) dy) .nil)))
          match ps, xs, da, hpl, hN, hR, hpne with
          | [some p], [x], .cons dx .nil, _, _, hR, _ =>
            refine ⟨_, rfl, _, _, 0, x, rfl, rfl, .inl (.inl eD), rfl, _, rfl, 1, rfl, _, _, -1, x, rfl, rfl, .inl (.inl eD), rfl, (by show 2 ≤ sizeLine; decide), fun t nt => ?_⟩
            exact fin x x p p rfl rfl hR dx dx t nt
          | [some p, some p'], [x, y], .cons dx (.cons dy .nil), _, _, hR, _ =>
            refine ⟨_, rfl, _, _, 0, x, rfl, rfl, .inl (.inl eD), rfl, _, rfl, 1, rfl, _, _, -1, y, rfl, rfl, .inl (.inl eD), rfl, (by show 2 ≤ sizeLine; decide), fun t nt => ?_⟩
            exact fin x y p p' rfl rfl hR dx dy t nt
          | [], _, _, _, _, _, hp => exact absurd rfl hp
          | [none], _, _, _, h, _, _ => cases h
          | none :: _ :: _, _, _, _, h, _, _ => cases h
          | some _ :: none :: _, _, _, _, h, _, _ => cases h
          | some _ :: some _ :: _ :: r, xs, _, hl, _, _, _ => exfalso; rw [hl] at h2; simp at h2; omega
theorem ok_two_pages (T : Tab K mg) : FnOk P w K mg base CX0 3 T.f_two_pages T.d_two_pages ["_law_source_here"] (sp_two_pages K) := by
  refine T.F_two_pages.ok sc_two_pages (fun vs H Q E h => ?_) (fun cdv A outer s H vs Q E hr h => ?_)
  · obtain ⟨a, rfl, _⟩ := h
    rfl
  · obtain ⟨a, rfl, src, q⟩ := h
    refine ⟨_, (pss_cons (ps_set (i := 1) sc_two_pages.nd rfl (.inl rfl) (pe_tup (pa_cons (pe_call (ok_wide_label T) (hr.mono (by decide)) (by rfl) T.g_wide_label T.F_wide_label.kp T.b_wide_label .nil pass0 (pa_cons (pv 0) pa_nil)) (pa_cons (pe_call (ok_pick T) (hr.mono (by decide)) (by rfl) T.g_pick T.F_pick.kp T.b_pick .nil pass0 (pa_cons (pv 0) (pa_cons pe_int pa_nil))) pa_nil))))
      (pss_cons (ps_set (i := 2) sc_two_pages.nd rfl (.inl rfl) (pe_call (ok_pick T) (hr.mono (by decide)) (by rfl) T.g_pick T.F_pick.kp T.b_pick .nil pass0 (pa_cons (pv 0) (pa_cons pe_int pa_nil))))
      (pss_cons (ps_if (pt_cmpR op_eq (pv 2) pe_int (nomark _))
      (pss_one (ps_ret (pe_tup (pa_cons (pv 1) (pa_cons (pv 1) pa_nil)))))
      pss_nil)
      (pss_cons (ps_if (pt_cmpR op_eq (pv 2) pe_int (nomark _))
      (pss_one (ps_ret (pe_tup (pa_cons (pv 1) (pa_cons (pe_tup (pa_cons (pe_ix ix_tup (pv 1) pe_int (fun _ _ => rfl)) (pa_cons (pe_op op_sub pe_int (pe_ix ix_tup (pv 1) pe_int (fun _ _ => rfl))) pa_nil))) pa_nil)))))
      pss_nil)
      (pss_cons (ps_if (PW.pt (pw_and (pt_cmpR op_eq (pv 2) pe_int (nomark _)) (pw_and1 (pt_cmpR op_lt (pe_callB call_len_seq (by rfl) T.m_len PySem.boot_len (pa_cons (pe_ix ix_tup (pv 1) pe_int (fun _ _ => rfl)) pa_nil)) pe_int (nomark _)))))
      (pss_one (ps_ret (pe_tup (pa_cons (pv 1) (pa_cons (pe_tup (pa_cons (pe_op op_catA (pe_ix ix_tup (pv 1) pe_int (fun _ _ => rfl)) (pe_tup (pa_cons (pe_op op_add pe_int (pe_call (ok_pick T) (hr.mono (by decide)) (by rfl) T.g_pick T.F_pick.kp T.b_pick .nil pass0 (pa_cons (pv 0) (pa_cons pe_int pa_nil)))) pa_nil))) (pa_cons (pe_call (ok_pick T) (hr.mono (by decide)) (by rfl) T.g_pick T.F_pick.kp T.b_pick .nil pass0 (pa_cons (pv 0) (pa_cons pe_int pa_nil))) pa_nil))) pa_nil)))))
      pss_nil)
      (pss_one (ps_ret (pe_tup (pa_cons (pv 1) (pa_cons (pe_tup (pa_cons (pe_call (ok_wide_label T) (hr.mono (by decide)) (by rfl) T.g_wide_label T.F_wide_label.kp T.b_wide_label .nil pass0 (pa_cons (pv 0) pa_nil)) (pa_cons (pe_call (ok_pick T) (hr.mono (by decide)) (by rfl) T.g_pick T.F_pick.kp T.b_pick .nil pass0 (pa_cons (pv 0) (pa_cons pe_int pa_nil))) pa_nil))) pa_nil)))))))))), ?_⟩
    have z2 : 2 ≤ sizeLine := by decide
    have z1 : 1 ≤ sizeLine := by decide
    have fin : ∀ H' u o1 o2 P1 P2, Src H' a → But a H H' → PT a H' o1 P1 → PT a H' o2 P2 → okP P1 → okP P2 → H' u = none → Q (.ref u) (upd H' u (.tup [.ref o1, .ref o2])) := fun H' u o1 o2 P1 P2 s b h1 h2 k1 k2 nu => by
      have bu : But a H' (upd H' u (.tup [.ref o1, .ref o2])) := But.of (same_upd nu)
      exact q (.ref u) (P1, P2) _ (s.put (s.ne nu) _) (b.trans bu) (.tup (.inl (.inl upd_same)) (.cons (h1.but bu).dp (.cons (h2.but bu).dp .nil))) k1 k2
    have upP : ∀ H' v l L s, Src H' a → H' v = none → l ≠ a → H' l = some (.tup (L.map V.int)) → PT a (upd H' v (.tup [.ref l, .int s])) v (L, s) := fun H' v l L s sc nv nl el =>
      ⟨l, nl, (sc.ne nv).symm, upd_same, same_upd nv _ _ el⟩
    refine ⟨_, rfl, a, rfl, src, fun p L H1 np src1 b1 e1 okl => ?_⟩
    have npa : p ≠ a := by
      obtain ⟨g, x, c, e⟩ := src
      exact (ne_of_none e np).symm
    refine ⟨_, rfl, _, _, rfl, src1, by decide, by decide, fun s H2 s2 b2 p1 p2 => ⟨z2, fun t nt => ?_⟩⟩
    have ep2 := b2 _ _ npa e1
    have sA := s2.put (s2.ne nt) (.tup [.ref p, .int s])
    have nta : t ≠ a := (s2.ne nt).symm
    have bA := (b1.trans b2).trans (But.of (same_upd (o := .tup [.ref p, .int s]) nt))
    have etA : (upd H2 t (.tup [.ref p, .int s])) t = some (.tup [.ref p, .int s]) := upd_same
    have epA := same_upd (o := .tup [.ref p, .int s]) nt _ _ ep2
    generalize upd H2 t (.tup [.ref p, .int s]) = H3 at sA bA etA epA
    refine ⟨_, rfl, _, _, rfl, sA, by decide, by decide, fun wy H4 s4 b4 p3 p4 => ?_⟩
    have et := b4 _ _ nta etA
    have ep := b4 _ _ npa epA
    have b := bA.trans b4
    have P1 : PT a H4 t (L, s) := ⟨p, npa, nta, et, ep⟩
    have k1 : okP (L, s) := ⟨okl, by show s = 0 ∨ s = 1; omega⟩
    have hl : (L.map V.int).length = L.length := List.length_map ..
    have hll := okl.1
    refine ⟨_, rfl, rfl, _, rfl, ite2 (fun e => ?_) (fun e0 => ?_)⟩
    · exact ⟨_, rfl, _, rfl, z2, fun u nu => fin _ u t t _ _ s4 b P1 P1 k1 k1 nu⟩
    refine ⟨_, rfl, rfl, _, rfl, ite2 (fun e => ?_) (fun e1 => ?_)⟩
    · refine ⟨_, rfl, _, rfl, t, _, 0, .ref p, rfl, rfl, .inl (.inl et), rfl, _, rfl, t, _, 1, .int s, rfl, rfl, .inl (.inl et), rfl, _, _, rfl, rfl, z2, fun v nv => ⟨z2, fun u nu => ?_⟩⟩
      have bv : But a H4 (upd H4 v (.tup [.ref p, .int (1 - s)])) := But.of (same_upd nv)
      exact fin _ u t v (L, s) (L, 1 - s) (s4.put (s4.ne nv) _) (b.trans bv) (P1.but bv) (upP _ _ _ _ _ s4 nv npa ep) k1 ⟨okl, by show 1 - s = 0 ∨ 1 - s = 1; omega⟩ nu
    by_cases h2 : V.int wy = V.int 2 ∧ ((L.map V.int).length : Int) < 3
    · refine ⟨_, rfl, rfl, _, rfl, ite2 (fun _ => ?_) (fun h => absurd (decide_eq_true h2.1) h)⟩
      refine ⟨_, rfl, t, _, 0, .ref p, rfl, rfl, .inl (.inl et), rfl, _, _, rfl, .inr (.inl (.inl ep)), _, _, rfl, rfl, _, rfl, ite2 (fun _ => ?_) (fun h => absurd (decide_eq_true h2.2) h)⟩
      refine ⟨_, rfl, _, rfl, t, _, 0, .ref p, rfl, rfl, .inl (.inl et), rfl, _, rfl, _, _, rfl, s4, by decide, by decide, fun m H5 s5 b5 p5 p6 => ⟨_, _, rfl, rfl, z1, fun g ng => ?_⟩⟩
      have ep5 := b5 _ _ npa ep
      have bg : But a H5 (upd H5 g (.tup [.int (1 + m)])) := But.of (same_upd ng)
      have sg := s5.put (s5.ne ng) (.tup [.int (1 + m)])
      have eg : (upd H5 g (.tup [.int (1 + m)])) g = some (.tup [.int (1 + m)]) := upd_same
      have epg := bg _ _ npa ep5
      have P5 := (P1.but b5).but bg
      have bb := (b.trans b5).trans bg
      generalize upd H5 g (.tup [.int (1 + m)]) = H6 at bg sg eg epg P5 bb
      refine ⟨p, g, _, _, rfl, rfl, .inl (.inl epg), .inl (.inl eg), ?_, fun h => absurd (List.map_eq_nil_iff.mp h) (okL_ne okl), fun _ h => (nomatch h), fun _ _ r nr => ?_⟩
      · exact Nat.le_of_lt (small1000 (by rw [hl]; show L.length + 1 ≤ 1000; omega))
      have br : But a H6 (upd H6 r (.tup (L.map V.int ++ [.int (1 + m)]))) := But.of (same_upd nr)
      have sr := sg.put (sg.ne nr) (.tup (L.map V.int ++ [.int (1 + m)]))
      have nra : r ≠ a := (sg.ne nr).symm
      have er : (upd H6 r (.tup (L.map V.int ++ [.int (1 + m)]))) r = some (.tup ((L ++ [1 + m]).map V.int)) := by rw [upd_same, List.map_append]; rfl
      have P6 := P5.but br
      have b6 := bb.trans br
      generalize upd H6 r (.tup (L.map V.int ++ [.int (1 + m)])) = H7 at br sr er P6 b6
      refine ⟨_, rfl, _, _, rfl, sr, by decide, by decide, fun m2 H8 s8 b8 p7 p8 => ⟨z2, fun v nv => ⟨z2, fun u nu => ?_⟩⟩⟩
      have bv : But a H8 (upd H8 v (.tup [.ref r, .int m2])) := But.of (same_upd nv)
      refine fin _ u t v (L, s) (L ++ [1 + m], m2) (s8.put (s8.ne nv) _) ((b6.trans b8).trans bv) ((P6.but b8).but bv) (upP _ _ _ _ _ s8 nv nra (b8 _ _ nra er)) k1 ⟨⟨?_, ?_, ?_⟩, ?_⟩ nu
      · show (L ++ [1 + m]).length ≤ 3
        rw [List.length_append]
        have := h2.2
        show L.length + 1 ≤ 3
        omega
      · show (L ++ [1 + m]).getLastD 0 ≠ 0
        rw [List.getLastD_eq_getLast?, List.getLast?_append]
        show (1 + m : Int) ≠ 0
        omega
      · intro i hi
        rcases List.mem_append.mp hi with h | h
        · exact okl.2.2 _ h
        · rw [List.mem_singleton.mp h]; omega
      · show m2 = 0 ∨ m2 = 1
        omega
    by_cases h3 : V.int wy = V.int 2
    · refine ⟨_, rfl, rfl, _, rfl, ite2 (fun _ => ?_) (fun h => absurd (decide_eq_true h3) h)⟩
      refine ⟨_, rfl, t, _, 0, .ref p, rfl, rfl, .inl (.inl et), rfl, _, _, rfl, .inr (.inl (.inl ep)), _, _, rfl, rfl, _, rfl, ite2 (fun h => absurd ⟨h3, of_decide_eq_true h⟩ h2) (fun _ => ?_)⟩
      refine ⟨_, rfl, _, rfl, a, rfl, s4, fun r L2 H5 nr5 s5 b5 e5 ok5 => ?_⟩
      have nra : r ≠ a := by
        obtain ⟨g, x, c, e⟩ := s4
        exact (ne_of_none e nr5).symm
      refine ⟨_, rfl, _, _, rfl, s5, by decide, by decide, fun m2 H8 s8 b8 p7 p8 => ⟨z2, fun v nv => ⟨z2, fun u nu => ?_⟩⟩⟩
      have bv : But a H8 (upd H8 v (.tup [.ref r, .int m2])) := But.of (same_upd nv)
      exact fin _ u t v (L, s) (L2, m2) (s8.put (s8.ne nv) _) (((b.trans b5).trans b8).trans bv) (((P1.but b5).but b8).but bv) (upP _ _ _ _ _ s8 nv nra (b8 _ _ nra e5)) k1 ⟨ok5, by show m2 = 0 ∨ m2 = 1; omega⟩ nu
    · refine ⟨_, rfl, rfl, _, rfl, ite2 (fun h => absurd (of_decide_eq_true h) h3) (fun _ => ?_)⟩
      refine ⟨_, rfl, _, rfl, a, rfl, s4, fun r L2 H5 nr5 s5 b5 e5 ok5 => ?_⟩
      have nra : r ≠ a := by
        obtain ⟨g, x, c, e⟩ := s4
        exact (ne_of_none e nr5).symm
      refine ⟨_, rfl, _, _, rfl, s5, by decide, by decide, fun m2 H8 s8 b8 p7 p8 => ⟨z2, fun v nv => ⟨z2, fun u nu => ?_⟩⟩⟩
      have bv : But a H8 (upd H8 v (.tup [.ref r, .int m2])) := But.of (same_upd nv)
      exact fin _ u t v (L, s) (L2, m2) (s8.put (s8.ne nv) _) (((b.trans b5).trans b8).trans bv) (((P1.but b5).but b8).but bv) (upP _ _ _ _ _ s8 nv nra (b8 _ _ nra e5)) k1 ⟨ok5, by show m2 = 0 ∨ m2 = 1; omega⟩ nu
theorem ok_judged_label (T : Tab K mg) : FnOk P w K mg base CX0 4 T.f_judged_label T.d_judged_label ["thing"] (sp_judged_label K) := by
  refine T.F_judged_label.ok sc_judged_label (fun vs H Q E h => ?_) (fun cdv A outer s H vs Q E hr h => ?_)
  · obtain ⟨a, L, rfl, _⟩ := h
    rfl
  · obtain ⟨a, L, rfl, hS, hL, q⟩ := h
    refine ⟨_, (pss_cons (ps_set (i := 1) sc_judged_label.nd rfl (.inl rfl) (pe_call (ok_kept_label T) (hr.mono (by decide)) (by rfl) T.g_kept_label T.F_kept_label.kp T.b_kept_label .nil pass0 (pa_cons (pv 0) pa_nil)))
      (pss_cons (ps_if (pt_cmpR op_isN (pv 1) pe_non (nomark _))
      (pss_one ps_never)
      pss_nil)
      (pss_one (ps_ret (pv 1))))), ?_⟩
    refine ⟨_, rfl, a, L.map some, rfl, (by rw [optI_map]; exact hS), ?_, fun i hi => some_bound hL hi, fun v H1 s1 dp => ?_⟩
    · rw [List.length_map]; have := hL.1; omega
    rw [keep_ok hL] at dp
    obtain ⟨p, rfl, hp⟩ := dL_inv dp
    refine ⟨_, rfl, rfl, _, rfl, ite2 (fun e => absurd (of_decide_eq_true e) (by intro z; cases z)) (fun _ => ?_)⟩
    exact ⟨_, rfl, q p H1 s1 hp⟩
theorem ok_read_label (T : Tab K mg) : FnOk P w K mg base CX0 4 T.f_read_label T.d_read_label ["word"] (sp_read_label K) := by
  refine T.F_read_label.ok sc_read_label (fun vs H Q E h => ?_) (fun cdv A outer s H vs Q E hr h => ?_)
  · obtain ⟨z, rfl, _⟩ := h
    rfl
  · obtain ⟨z, rfl, hz, q⟩ := h
    refine ⟨_, (pss_one (ps_ret (pe_call (ok_kept_label T) (hr.mono (by decide)) (by rfl) T.g_kept_label T.F_kept_label.kp T.b_kept_label .nil pass0 (pa_cons (pe_lc (own := [("part", 1)]) (g := gName 1) (by rfl) sc_read_label.nd (pi_list (pe_split (pv 0) pe_str)) (blkOk_by (own := [("part", 1)]) (N := N_read_label) (sc := defScope s_read_label) (by decide +kernel)) (fun _ _ _ _ _ => pg_name (i := 1) sc_read_label.nd rfl (.inl rfl)) (fun _ _ _ _ _ => pts_nil) (fun _ _ _ _ _ => (pe_call (ok_read_integer T) (hr.mono (by decide)) (by rfl) T.g_read_integer T.F_read_integer.kp T.b_read_integer .nil pass0 (pa_cons (pv 1) (pa_cons pe_int (pa_cons pe_int pa_nil)))))) pa_nil)))), ?_⟩
    have hd1 : 1 ≤ ("." : Str).length := by decide +kernel
    have hcnt := split_cnt z "." hd1
    refine ⟨_, rfl, ⟨_, rfl⟩, z, _, rfl, rfl, (by decide +kernel), ?_, fun p np => ?_⟩
    · have e2 : sizeLine = 16777216 := by decide
      omega
    refine ⟨p, rfl, ⟨_, .inl (.inl upd_same)⟩, fun D nD => ?_⟩
    have ep : (upd H p (.lst ((Txt.split z ".").map V.str))) p = some (.lst ((Txt.split z ".").map V.str)) := upd_same
    have s1 := same_upd (o := .lst ((Txt.split z ".").map V.str)) np
    generalize upd H p (.lst ((Txt.split z ".").map V.str)) = H1 at nD ep s1
    refine lc_list (xs := (Txt.split z ".").map V.str) (fun i H' => Same H1 H' ∧ H' D = some (.lst ((((Txt.split z ".").take i).map rdI).map optI))) ⟨same_upd nD, upd_same⟩ (fun i H' _ hh => .inl (.inl (hh.1 _ _ ep))) ?_ ?_
    · rintro i x H' hx ⟨sm, eD⟩
      obtain ⟨y, rfl, hy⟩ := get_map hx
      have hy1 := split_part z "." hd1 (List.mem_of_getElem? hy)
      have hi := (List.getElem?_eq_some_iff.mp hy).1
      refine ⟨rfl, ?_⟩
      refine ⟨_, rfl, y, rfl, by omega, fun H2 s2 => ⟨_, s2 _ _ eD, ?_, same_put (sm.trans s2) nD _, ?_⟩⟩
      · rw [List.length_map, List.length_map, List.length_take]; exact small1000 (by omega)
      · rw [upd_same, List.take_add_one, hy, List.map_append, List.map_append]; rfl
    · rintro H' ⟨sm, eD⟩
      rw [List.length_map, List.take_length] at eD
      refine ⟨D, _, rfl, .inl (.inl (.inl eD)), ?_, fun i hi => rdI_some hi, fun v H2 s2 dp => q v H2 ((s1.trans sm).trans s2) dp⟩
      rw [List.length_map]
      omega
theorem ok_write_label (T : Tab K mg) : FnOk P w K mg base CX0 5 T.f_write_label T.d_write_label ["label"] (sp_write_label K) := by
  refine T.F_write_label.ok sc_write_label (fun vs H Q E h => ?_) (fun cdv A outer s H vs Q E hr h => ?_)
  · obtain ⟨a, L, rfl, _⟩ := h
    rfl
  · obtain ⟨a, L, rfl, hS, hL, q⟩ := h
    refine ⟨_, (pss_one (ps_ret (pe_join pe_str (pe_lc (own := [("part", 1)]) (g := gName 1) (by rfl) sc_write_label.nd (pi_tup (pe_call (ok_judged_label T) (hr.mono (by decide)) (by rfl) T.g_judged_label T.F_judged_label.kp T.b_judged_label .nil pass0 (pa_cons (pv 0) pa_nil))) (blkOk_by (own := [("part", 1)]) (N := N_write_label) (sc := defScope s_write_label) (by decide +kernel)) (fun _ _ _ _ _ => pg_name (i := 1) sc_write_label.nd rfl (.inl rfl)) (fun _ _ _ _ _ => pts_nil) (fun _ _ _ _ _ => (pe_callTy call_str_int (by rfl) T.m_str (by decide +kernel) (pa_cons (pv 1) pa_nil))))))), ?_⟩
    refine ⟨⟨_, rfl⟩, _, rfl, a, L, rfl, hS, hL, fun p H1 s1 hp => ?_⟩
    refine ⟨p, rfl, ⟨_, hp⟩, fun D nD => ?_⟩
    refine lc_tup (xs := L.map V.int) (fun i H' => Same _ H' ∧ H' D = some (.lst (((L.take i).map fun i => (toString i : Str)).map V.str))) ⟨same_upd nD, upd_same⟩ (fun i H' _ hh => same_seqT hh.1 hp) ?_ ?_
    · rintro i x H' hx ⟨sm, eD⟩
      obtain ⟨n, rfl, hn⟩ : ∃ n, x = V.int n ∧ L[i]? = some n := by
        rw [List.getElem?_map] at hx
        cases e : L[i]? with
        | none => rw [e] at hx; cases hx
        | some n => rw [e] at hx; exact ⟨n, (Option.some.inj hx).symm, rfl⟩
      have hb := hL.2.2 n (List.mem_of_getElem? hn)
      have hl := hL.1
      refine ⟨rfl, ?_⟩
      refine ⟨_, rfl, n, rfl, log_small (by omega), _, eD, ?_, same_put sm nD _, ?_⟩
      · rw [List.length_map, List.length_map, List.length_take]; exact small1000 (by omega)
      · rw [upd_same, List.take_add_one, hn, List.map_append, List.map_append]; rfl
    rintro H' ⟨sm, eD⟩
    rw [List.length_map, List.take_length] at eD
    refine ⟨_, D, _, rfl, rfl, .inl (.inl (.inl eD)), ?_, q H' (s1.trans sm)⟩
    exact num_fit hL
theorem ok_read_page (T : Tab K mg) : FnOk P w K mg base CX0 5 T.f_read_page T.d_read_page ["word"] (sp_read_page K) := by
  refine T.F_read_page.ok sc_read_page (fun vs H Q E h => ?_) (fun cdv A outer s H vs Q E hr h => ?_)
  · obtain ⟨z, rfl, _⟩ := h
    rfl
  · obtain ⟨z, rfl, hz, q⟩ := h
    refine ⟨_, (pss_cons (ps_if (pt_cmpR op_notIn_seq (pe_slice sl_str (pv 0) (po_some (pe_un un_neg pe_int)) po_none) (pe_tup (pa_cons pe_str (pa_cons pe_str pa_nil))) (by rfl))
      (pss_one (ps_ret pe_non))
      pss_nil)
      (pss_cons (ps_set (i := 1) sc_read_page.nd rfl (.inl rfl) (pe_call (ok_read_label T) (hr.mono (by decide)) (by rfl) T.g_read_label T.F_read_label.kp T.b_read_label .nil pass0 (pa_cons (pe_slice sl_str (pv 0) po_none (po_some (pe_un un_neg pe_int))) pa_nil)))
      (pss_one (ps_ret (pe_ifExp (pt_cmpR op_isN (pv 1) pe_non (nomark _)) pe_non (pe_tup (pa_cons (pv 1) (pa_cons (pe_bmS PySem.F.plainAttrs_str PySem.F.slot_str_index PySem.F.type_str_index (mt_indexX rfl takes_none5) (pe_glob (v := .str "ab") (by rfl) T.c_SIDES ⟨_, rfl⟩) (pa_cons (pe_slice sl_str (pv 0) (po_some (pe_un un_neg pe_int)) po_none) pa_nil)) pa_nil)))))))), ?_⟩
    have hz2 : z.length ≤ sizeLine := Nat.le_of_lt (small1000 (by omega))
    have lc := cutS_length z none (some (-1))
    refine ⟨_, rfl, 1, rfl, -1, rfl, z, rfl, hz2, (by show 2 ≤ sizeLine; decide), fun t nt => ?_⟩
    have s1 := same_upd (o := .tup [.str "a", .str "b"]) nt
    refine ⟨t, _, rfl, .inr (.inl (.inl upd_same)), rfl, rfl, _, rfl, ?_⟩
    show if (!inV (.str (cutS z (some (-1)) none)) [.str "a", .str "b"]) = true then _ else _
    rw [ab_in]
    generalize upd H t (.tup [.str "a", .str "b"]) = H1 at s1
    rcases cut_end z with ⟨e0, ec⟩ | ⟨c, e0, ec⟩
    · have hn : rdP z = none := by
        unfold rdP
        rw [e0]
        rfl
      rw [ec, decide_eq_false (by decide +kernel)]
      have q' := q .non H1 s1 (by rw [hn]; exact .non)
      exact q'
    · by_cases hc : c = 97 ∨ c = 98
      · have hin : cutS z (some (-1)) none = ⟨#[97]⟩ ∨ cutS z (some (-1)) none = ⟨#[98]⟩ := by
          rw [ec]
          rcases hc with rfl | rfl
          · exact .inl rfl
          · exact .inr rfl
        rw [decide_eq_true hin]
        show if (!true) = true then _ else _
        refine iteF ?_
        refine ⟨_, rfl, 1, rfl, -1, rfl, z, rfl, hz2, _, rfl, by omega, fun v H2 s2 dp => ?_⟩
        have hr : rdP z = match rdL (cutS z none (some (-1))) with | some L => some (L, (c : Int) - 97) | none => none := by
          unfold rdP
          rw [e0]
          exact if_pos hc
        cases eL : rdL (cutS z none (some (-1))) with
        | none =>
          rw [eL] at dp hr
          have ev := dp_opt dp
          subst ev
          refine ⟨_, rfl, rfl, _, rfl, ite2 (fun _ => ?_) (fun h => absurd (decide_eq_true rfl) h)⟩
          exact q .non H2 (s1.trans s2) (by rw [hr]; exact .non)
        | some L =>
          rw [eL] at dp hr
          obtain ⟨l, rfl, hl⟩ := dL_inv dp
          refine ⟨_, rfl, rfl, _, rfl, ite2 (fun e => absurd (of_decide_eq_true e) (by intro z; cases z)) (fun _ => ?_)⟩
          refine ⟨_, rfl, rfl, _, rfl, 1, rfl, -1, rfl, z, rfl, hz2, _, _, rfl, rfl, fun k hk => ?_, fun hk => ?_⟩
          · refine ⟨(by show 2 ≤ sizeLine; decide), fun t2 nt2 => ?_⟩
            have s3 := same_upd (o := .tup [.ref l, .int (k : Nat)]) nt2
            refine q (.ref t2) _ ((s1.trans s2).trans s3) ?_
            rw [hr]
            have hk2 : (k : Int) = (c : Int) - 97 := by
              rw [ec] at hk
              rcases hc with rfl | rfl
              · have : Txt.index0 "ab" (⟨#[97]⟩ : Str) = some 0 := by decide +kernel
                rw [this] at hk
                injection hk with hk
                subst hk
                rfl
              · have : Txt.index0 "ab" (⟨#[98]⟩ : Str) = some 1 := by decide +kernel
                rw [this] at hk
                injection hk with hk
                subst hk
                rfl
            rw [← hk2]
            exact .tup (.inl (.inl upd_same)) (.cons (dpL (same_seqT s3 hl)) (.cons (.int _) .nil))
          · exfalso
            rw [ec] at hk
            rcases hc with rfl | rfl <;> revert hk <;> decide +kernel
      · have hin : ¬ (cutS z (some (-1)) none = ⟨#[97]⟩ ∨ cutS z (some (-1)) none = ⟨#[98]⟩) := by
          rw [ec]
          rintro (h | h)
          · exact hc (.inl (one_inj h))
          · exact hc (.inr (one_inj h))
        have hn : rdP z = none := by
          unfold rdP
          rw [e0]
          exact if_neg hc
        rw [decide_eq_false hin]
        have q' := q .non H1 s1 (by rw [hn]; exact .non)
        exact q'
theorem ok_as_lists (T : Tab K mg) : ∀ n, FnOk P w K mg base CX0 (n + 1) T.f_as_lists T.d_as_lists ["_law_thing"] (sp_as_lists K n)
  | 0 => ⟨fun vs H Q E h => by
      obtain ⟨x, d, rfl, _⟩ := h
      rfl, fun A outer s H args us vs Q E hr h0 hb hv h => by
      obtain ⟨x, d, _, _, hp, _⟩ := h
      exact hp.elim⟩
  | n + 1 => by
    have IH := ok_as_lists T n
    refine T.F_as_lists.ok sc_as_lists (fun vs H Q E h => ?_) (fun cdv A outer s H vs Q E hr h => ?_)
    · obtain ⟨x, d, rfl, _⟩ := h
      rfl
    · obtain ⟨x, d, rfl, hx, hp, q⟩ := h
      refine ⟨_, (pss_cons (ps_if (pt_val (pe_callB call_isi (by rfl) T.m_isinstance (by decide +kernel) (pa_cons (pv 0) (pa_cons (pe_bltn (v := .ty "tuple") (u := .type "tuple") (by rfl) T.m_tuple (by decide +kernel) rfl) pa_nil))))
      (pss_one (ps_ret (pe_lc (own := [("_law_part", 1)]) (g := gName 1) (by rfl) sc_as_lists.nd (pi_tup (pv 0)) (blkOk_by (own := [("_law_part", 1)]) (N := N_as_lists) (sc := defScope s_as_lists) (by decide +kernel)) (fun _ _ _ _ _ => pg_name (i := 1) sc_as_lists.nd rfl (.inl rfl)) (fun _ _ _ _ _ => pts_nil) (fun _ _ _ _ _ => (pe_call IH (hr.mono (by omega)) (by rfl) T.g_as_lists T.F_as_lists.kp T.b_as_lists .nil pass0 (pa_cons (pv 1) pa_nil))))))
      pss_nil)
      (pss_one (ps_ret (pv 0)))), ?_⟩
      cases hx with
      | bl b => exact hp.elim
      | lst _ _ => exact hp.elim
      | non => exact hp.elim
      | str z => exact hp.elim
      | int i =>
        refine ⟨_, rfl, _, _, _, _, _, rfl, .ty "tuple", .base (.int i), kit_ty (r := false) (by decide +kernel), false, rfl, iteF ?_⟩
        exact ⟨_, rfl, q _ H (Same.refl H) (.int i)⟩
      | tup hb db =>
        rename_i b ys ds
        have l2 := dpAll_len db
        have hdl := hp.1
        have tl : ∀ es : List PyData, toLs es = es.map toL := fun es => by
          induction es with
          | nil => rfl
          | cons d r ih => show toL d :: toLs r = _; rw [ih]; rfl
        refine ⟨_, rfl, _, _, _, _, _, rfl, .ty "tuple", ty_T hb, kit_ty (by decide +kernel), true, rfl, iteT ?_⟩
        refine ⟨_, rfl, b, rfl, ⟨_, hb⟩, fun D nD => ?_⟩
        refine lc_tup (xs := ys) (fun i H' => Same H H' ∧ ∃ xs, H' D = some (.lst xs) ∧ FdAll (upd H D (.lst [])) H' xs ((ds.take i).map toL)) ⟨same_upd nD, [], upd_same, .nil⟩ (fun i H' _ hh => same_seqT hh.1 hb) ?_ ?_
        · rintro i x H' hx ⟨sm, xs, eD, da⟩
          obtain ⟨d, ed, dd⟩ := dpAll_get db hx
          have hi := (List.getElem?_eq_some_iff.mp ed).1
          have hlen := fdAll_len da
          rw [List.length_map, List.length_take] at hlen
          refine ⟨rfl, ?_⟩
          refine ⟨_, rfl, x, d, rfl, dp_same sm dd, hp.2 _ (List.mem_of_getElem? ed), fun v H2 s2 fd => ⟨xs, s2 _ _ eD, small1000 (by omega), same_put (sm.trans s2) nD _, xs ++ [v], upd_same, ?_⟩⟩
          have nn : ∀ a, (upd H D (.lst [])) a = none → a ≠ D := fun a h e => by
            rw [e, upd_same] at h
            cases h
          rw [List.take_add_one, ed, List.map_append]
          refine fdAll_snoc (fdAll_to (fun a o n e => ⟨n, by rw [upd_ne (nn a n)]; exact s2 _ _ e⟩) da) (fd_to (fun a o n e => ?_) fd)
          have nD2 : a ≠ D := fun e1 => by
            rw [e1, eD] at n
            cases n
          refine ⟨?_, by rw [upd_ne nD2]; exact e⟩
          rw [upd_ne nD2]
          cases e2 : H a with
          | none => rfl
          | some o2 => rw [sm _ _ e2] at n; cases n
        · rintro H' ⟨sm, xs, eD, da⟩
          rw [l2, List.take_length] at da
          refine q _ H' sm ?_
          show Fd H H' (.ref D) (.list (toLs ds))
          rw [tl]
          refine .lst eD nD (fdAll_to (fun a o n e => ⟨?_, e⟩) da)
          cases e2 : H a with
          | none => rfl
          | some o2 =>
            rw [same_upd nD _ _ e2] at n
            cases n
theorem ok_write_page (T : Tab K mg) : FnOk P w K mg base CX0 6 T.f_write_page T.d_write_page ["page"] (sp_write_page K) := by
  refine T.F_write_page.ok sc_write_page (fun vs H Q E h => ?_) (fun cdv A outer s H vs Q E hr h => ?_)
  · obtain ⟨v, p, rfl, _⟩ := h
    rfl
  · obtain ⟨v, p, rfl, ⟨a, l, rfl, hS, hL⟩, ⟨okl, hs⟩, q⟩ := h
    refine ⟨_, (pss_cons (ps_asg (pv 0) (pg_or (pg_tup (by rfl) (pgs_cons (pg_name (i := 1) sc_write_page.nd rfl (.inl rfl)) (pgs_cons (pg_name (i := 2) sc_write_page.nd rfl (.inl rfl)) pgs_nil))) (pg_unl (by rfl) (pgs_cons (pg_name (i := 1) sc_write_page.nd rfl (.inl rfl)) (pgs_cons (pg_name (i := 2) sc_write_page.nd rfl (.inl rfl)) pgs_nil)))))
      (pss_one (ps_ret (pe_op op_add_str (pe_call (ok_write_label T) (hr.mono (by decide)) (by rfl) T.g_write_label T.F_write_label.kp T.b_write_label .nil pass0 (pa_cons (pv 1) pa_nil)) (pe_ix ix_str (pe_glob (v := .str "ab") (by rfl) T.c_SIDES ⟨_, rfl⟩) (pv 2) (fun _ _ => rfl)))))), ?_⟩
    have fin : ∀ H1, Same H H1 → ∃ i c, V.int p.2 = .int i ∧ ("ab" : Str).length ≤ sizeLine ∧ atI ("ab" : Str).cps.toList i = some c ∧ fL p.1 ++ (⟨#[c]⟩ : Str) = fP p := fun H1 _ => by
      obtain ⟨L, s⟩ := p
      rcases hs with h | h
      · have h : s = 0 := h
        subst h
        exact ⟨0, 97, rfl, by decide +kernel, by decide +kernel, rfl⟩
      · have h : s = 1 := h
        subst h
        exact ⟨1, 98, rfl, by decide +kernel, by decide +kernel, rfl⟩
    have hlen := fL_len okl
    rcases hS with hS | hS
    · refine ⟨_, rfl, .inr ⟨a, _, rfl, hS, rfl, _, _, rfl, _, _, rfl, rfl, ?_⟩⟩
      refine ⟨_, rfl, l, p.1, rfl, hL, okl, fun H1 s1 => ?_⟩
      obtain ⟨i, c, e1, e2, e3, e4⟩ := fin H1 s1
      refine ⟨_, rfl, _, i, c, rfl, e1, e2, e3, _, _, rfl, rfl, ?_, ?_⟩
      · exact Nat.le_of_lt (small1000 (by show _ + 1 ≤ 1000; omega))
      · rw [e4]; exact q H1 s1
    · refine ⟨_, rfl, .inl ⟨a, _, rfl, hS, rfl, _, _, rfl, _, _, rfl, rfl, ?_⟩⟩
      refine ⟨_, rfl, l, p.1, rfl, hL, okl, fun H1 s1 => ?_⟩
      obtain ⟨i, c, e1, e2, e3, e4⟩ := fin H1 s1
      refine ⟨_, rfl, _, i, c, rfl, e1, e2, e3, _, _, rfl, rfl, ?_, ?_⟩
      · exact Nat.le_of_lt (small1000 (by show _ + 1 ≤ 1000; omega))
      · rw [e4]; exact q H1 s1
theorem ok_read_range (T : Tab K mg) : FnOk P w K mg base CX0 6 T.f_read_range T.d_read_range ["token"] (sp_read_range K) := by
  refine T.F_read_range.ok sc_read_range (fun vs H Q E h => ?_) (fun cdv A outer s H vs Q E hr h => ?_)
  · obtain ⟨z, rfl, _⟩ := h
    rfl
  · obtain ⟨z, rfl, hz, q⟩ := h
    refine ⟨_, (pss_cons (ps_setLc (i := 1) (own := [("word", 2)]) (g := gName 2) (by rfl) sc_read_range.nd rfl rfl (sw_true rfl rfl rfl (by decide +kernel)) (pi_list (pe_split (pv 0) pe_str)) (blkOk_by (own := [("word", 2)]) (N := N_read_range) (sc := defScope s_read_range) (by decide +kernel)) (fun _ _ _ _ _ => pg_name (i := 2) sc_read_range.nd rfl (.inl rfl)) (fun _ _ _ _ _ => pts_nil) (fun _ _ _ _ _ => (pe_call (ok_read_page T) (hr.mono (by decide)) (by rfl) T.g_read_page T.F_read_page.kp T.b_read_page .nil pass0 (pa_cons (pv 2) pa_nil))))
      (pss_one (ps_ret (pe_ifExp (PW.pt (pw_or (pt_cmpR op_gt (pe_callB call_len_seq (by rfl) T.m_len PySem.boot_len (pa_cons (pv 1) pa_nil)) pe_int (nomark _)) (pw_or1 (pt_cmpR (op_inD (un2 hr)) pe_non (pv 1) (by rfl))))) pe_non (pe_tup (pa_cons (pe_ix ix_list (pv 1) pe_int (fun _ _ => rfl)) (pa_cons (pe_ix ix_list (pv 1) (pe_un un_neg pe_int) (fun _ _ => rfl)) pa_nil))))))), ?_⟩
    have hd1 : 1 ≤ ("-" : Str).length := by decide +kernel
    have hcnt := split_cnt z "-" hd1
    refine ⟨_, rfl, ⟨_, rfl⟩, z, _, rfl, rfl, (by decide +kernel), ?_, fun p np => ?_⟩
    · have e2 : sizeLine = 16777216 := by decide
      omega
    refine ⟨p, rfl, ⟨_, .inl (.inl upd_same)⟩, fun D nD => ?_⟩
    have ep : (upd H p (.lst ((Txt.split z "-").map V.str))) p = some (.lst ((Txt.split z "-").map V.str)) := upd_same
    have s1 := same_upd (o := .lst ((Txt.split z "-").map V.str)) np
    generalize upd H p (.lst ((Txt.split z "-").map V.str)) = H1 at nD ep s1
    refine lc_list (xs := (Txt.split z "-").map V.str) (fun i H' => Same H1 H' ∧ ∃ xs, H' D = some (.lst xs) ∧ DpAll K H' xs ((((Txt.split z "-").take i).map rdP).map (oD dP))) ⟨same_upd nD, [], upd_same, .nil⟩ (fun i H' _ hh => .inl (.inl (hh.1 _ _ ep))) ?_ ?_
    · rintro i x H' hx ⟨sm, xs, eD, da⟩
      obtain ⟨y, rfl, hy⟩ := get_map hx
      have hy1 := split_part z "-" hd1 (List.mem_of_getElem? hy)
      have hi := (List.getElem?_eq_some_iff.mp hy).1
      have hlen := dpAll_len da
      rw [List.length_map, List.length_map, List.length_take] at hlen
      refine ⟨rfl, ?_⟩
      refine ⟨_, rfl, y, rfl, by omega, fun v H2 s2 dp => ⟨xs, s2 _ _ eD, small1000 (by omega), same_put (sm.trans s2) nD _, xs ++ [v], upd_same, ?_⟩⟩
      rw [List.take_add_one, hy, List.map_append, List.map_append]
      have e2 := s2 _ _ eD
      refine dpAll_snoc (dpAll_but e2 (But.upd _) (dpAll_same s2 da) fun d hd => ?_) (dp_but e2 (But.upd _) dp ⟨2, pn_oP _⟩)
      obtain ⟨o, _, rfl⟩ := List.mem_map.mp hd
      exact ⟨2, pn_oP o⟩
    · rintro H' ⟨sm, xs, eD, da⟩
      rw [List.length_map, List.take_length] at da
      have s2 := s1.trans sm
      have hlen := dpAll_len da
      rw [List.length_map, List.length_map] at hlen
      have hne := split_ne z "-"
      have hsh : SeqAt.shaped (.list (((Txt.split z "-").map rdP).map (oD dP))) = true := shaped_pnl (n := 2) (fun d hd => by
        obtain ⟨o, _, rfl⟩ := List.mem_map.mp hd
        exact pn_oP o) (by decide)
      have hln : (xs.length : Int) = ((Txt.split z "-").length : Int) := by rw [hlen]
      generalize hps : (Txt.split z "-").map rdP = ps at da hsh
      have hpl : xs.length = ps.length := by rw [← hps, List.length_map]; exact hlen
      have hR : rdR z = rdR2 ps := by rw [rdR_eq, hps]
      have hpne : ps ≠ [] := fun e => hne (List.map_eq_nil_iff.mp (hps.trans e))
      have dl : Dp K H' (.ref D) (.list (ps.map (oD dP))) := .lst (.inl (.inl eD)) da
      by_cases h2 : (2 : Int) < (xs.length : Int)
      · have hn : rdR z = none := by
          rw [hR]
          match ps, hpl with
          | [], _ => rfl
          | [a], h => rw [h] at h2; simp at h2
          | [a, b], h => rw [h] at h2; simp at h2
          | a :: b :: c :: r, _ => cases a <;> cases b <;> rfl
        have q' := q .non H' s2 (by rw [hn]; exact .non)
        refine ⟨_, rfl, _, _, rfl, .inl (.inl (.inl eD)), _, _, rfl, rfl, _, rfl, ite2 (fun _ => ?_) (fun h => absurd (decide_eq_true h2) h)⟩
        exact q'
      · have hl2 : ¬ decide ((2 : Int) < (xs.length : Int)) = true := fun h => h2 (of_decide_eq_true h)
        by_cases hN : ps.any (·.isNone) = true
        · have hn : rdR z = none := by
            rw [hR]
            match ps, hN with
            | [], _ => rfl
            | [none], _ => rfl
            | [some p], h => cases h
            | [none, b], _ => rfl
            | [some p, none], _ => rfl
            | [some p, some q], h => cases h
            | none :: b :: c :: r, _ => rfl
            | some a :: none :: c :: r, _ => rfl
            | some a :: some b :: c :: r, _ => rfl
          have q' := q .non H' s2 (by rw [hn]; exact .non)
          refine ⟨_, rfl, _, _, rfl, .inl (.inl (.inl eD)), _, _, rfl, rfl, _, rfl, ite2 (fun h => absurd h hl2) (fun _ => ?_)⟩
          refine ⟨_, rfl, _, _, .non, dl, rfl, hsh, _, rfl, ?_⟩
          rw [none_in, hN]
          exact q'
        · rw [Bool.not_eq_true] at hN
          refine ⟨_, rfl, _, _, rfl, .inl (.inl (.inl eD)), _, _, rfl, rfl, _, rfl, ite2 (fun h => absurd h hl2) (fun _ => ?_)⟩
          refine ⟨_, rfl, _, _, .non, dl, rfl, hsh, _, rfl, ?_⟩
          rw [none_in, hN]
          have fin : ∀ (x y : V) (p p' : Pg), xs[0]? = some x → xs.getLast? = some y → rdR z = some (p, p') → Dp K H' x (dP p) → Dp K H' y (dP p') → ∀ t, H' t = none → Q (.ref t) (upd H' t (.tup [x, y])) := fun x y p p' _ _ er dx dy t nt => q _ _ (s2.trans (same_upd nt)) (by rw [er]; exact .tup (.inl (.inl upd_same)) (.cons (dp_same (same_upd nt) dx) (.cons (dp_same (same_upd nt) dy) .nil)))
          match ps, xs, da, hpl, hN, hR, hpne with
          | [some p], [x], .cons dx .nil, _, _, hR, _ =>
            refine ⟨_, rfl, _, _, 0, x, rfl, rfl, .inl (.inl eD), rfl, _, rfl, 1, rfl, _, _, -1, x, rfl, rfl, .inl (.inl eD), rfl, (by show 2 ≤ sizeLine; decide), fun t nt => ?_⟩
            exact fin x x p p rfl rfl hR dx dx t nt
          | [some p, some p'], [x, y], .cons dx (.cons dy .nil), _, _, hR, _ =>
            refine ⟨_, rfl, _, _, 0, x, rfl, rfl, .inl (.inl eD), rfl, _, rfl, 1, rfl, _, _, -1, y, rfl, rfl, .inl (.inl eD), rfl, (by show 2 ≤ sizeLine; decide), fun t nt => ?_⟩
            exact fin x y p p' rfl rfl hR dx dy t nt
          | [], _, _, _, _, _, hp => exact absurd rfl hp
          | [none], _, _, _, h, _, _ => cases h
          | none :: _ :: _, _, _, _, h, _, _ => cases h
          | some _ :: none :: _, _, _, _, h, _, _ => cases h
          | some _ :: some _ :: _ :: r, xs, _, hl, _, _, _ => exfalso; rw [hl] at h2; simp at h2; omega
theorem ok_same (T : Tab K mg) : ∀ n, FnOk P w K mg base CX0 (n + 2) T.f_same T.d_same ["_law_actual", "_law_due"] (sp_same K n)
  | 0 => ⟨fun vs H Q E h => by
      obtain ⟨x, y, d, rfl, _⟩ := h
      rfl, fun A outer s H args us vs Q E hr h0 hb hv h => by
      obtain ⟨x, y, d, _, _, _, hp, _⟩ := h
      exact hp.elim⟩
  | n + 1 => by
    have IH := ok_same T n
    refine T.F_same.ok sc_same (fun vs H Q E h => ?_) (fun cdv A outer s H vs Q E hr h => ?_)
    · obtain ⟨x, y, d, rfl, _⟩ := h
      rfl
    · obtain ⟨x, y, d, rfl, hx, hy, hp, q⟩ := h
      refine ⟨_, (pss_cons (ps_if (pt_val (pe_callB call_isi (by rfl) T.m_isinstance (by decide +kernel) (pa_cons (pv 1) (pa_cons (pe_bltn (v := .ty "tuple") (u := .type "tuple") (by rfl) T.m_tuple (by decide +kernel) rfl) pa_nil))))
      (pss_cons (ps_if (PW.pt (pw_or (pt_not (pt_val (pe_callB call_isi (by rfl) T.m_isinstance (by decide +kernel) (pa_cons (pv 0) (pa_cons (pe_bltn (v := .ty "tuple") (u := .type "tuple") (by rfl) T.m_tuple (by decide +kernel) rfl) pa_nil))))) (pw_or1 (pt_cmpR op_ne (pe_callB call_len_seq (by rfl) T.m_len PySem.boot_len (pa_cons (pv 0) pa_nil)) (pe_callB call_len_seq (by rfl) T.m_len PySem.boot_len (pa_cons (pv 1) pa_nil)) (nomark _)))))
        (pss_one (ps_ret pe_bl))
        pss_nil)
        (pss_cons (ps_for PassesOwn.never rfl (pi_range1 (by rfl) T.m_range (pa_cons (pe_callB call_len_seq (by rfl) T.m_len PySem.boot_len (pa_cons (pv 1) pa_nil)) pa_nil)) (pg_name (i := 2) sc_same.nd rfl (.inl rfl))
        (pss_one (ps_if (pt_not (pt_val (pe_call IH (hr.mono (by omega)) (by rfl) T.g_same T.F_same.kp T.b_same .nil pass0 (pa_cons (pe_ix ix_tup (pv 0) (pv 2) (fun _ _ => rfl)) (pa_cons (pe_ix ix_tup (pv 1) (pv 2) (fun _ _ => rfl)) pa_nil)))))
          (pss_one (ps_ret pe_bl))
          pss_nil)))
        (pss_one (ps_ret pe_bl))))
      pss_nil)
      (pss_cons (ps_if (pt_cmpR op_isN (pv 1) pe_non (nomark _))
      (pss_one (ps_ret (pe_cmpR op_isN (pv 0) pe_non (nomark _))))
      pss_nil)
      (pss_cons (ps_if (pt_val (pe_callB call_isi (by rfl) T.m_isinstance (by decide +kernel) (pa_cons (pv 1) (pa_cons (pe_bltn (v := .ty "str") (u := .type "str") (by rfl) T.m_str (by decide +kernel) rfl) pa_nil))))
      (pss_one (ps_ret (pe_and (pe_callB call_isi (by rfl) T.m_isinstance (by decide +kernel) (pa_cons (pv 0) (pa_cons (pe_bltn (v := .ty "str") (u := .type "str") (by rfl) T.m_str (by decide +kernel) rfl) pa_nil))) (pe_one (pe_cmpR op_eq (pv 0) (pv 1) (nomark _))))))
      pss_nil)
      (pss_one (ps_ret (pe_and (pe_call (ok_law_is_integer T) (hr.mono (by omega)) (by rfl) T.g_law_is_integer T.F_law_is_integer.kp T.b_law_is_integer .nil pass0 (pa_cons (pv 0) pa_nil)) (pe_one (pe_cmpR op_eq (pv 0) (pv 1) (nomark _))))))))), ?_⟩
      cases hy with
      | bl b => exact hp.elim
      | lst _ _ => exact hp.elim
      | non =>
        cases hx
        refine ⟨_, rfl, _, _, _, _, _, rfl, .ty "tuple", .base .non, kit_ty (r := false) (by decide +kernel), false, rfl, iteF ?_⟩
        refine ⟨_, rfl, rfl, _, rfl, ite2 (fun _ => ?_) (fun e => absurd (decide_eq_true rfl) e)⟩
        refine ⟨_, rfl, rfl, ?_⟩
        rw [decide_eq_true rfl]
        exact q
      | str z =>
        cases hx
        refine ⟨_, rfl, _, _, _, _, _, rfl, .ty "tuple", .base (.str z), kit_ty (r := false) (by decide +kernel), false, rfl, iteF ?_⟩
        refine ⟨_, rfl, rfl, _, rfl, ite2 (fun e => absurd (of_decide_eq_true e) (by intro z; cases z)) (fun _ => ?_)⟩
        refine ⟨_, rfl, _, _, _, _, _, rfl, .ty "str", .base (.str z), kit_ty (by decide +kernel), true, rfl, iteT ?_⟩
        refine ⟨_, rfl, _, _, _, _, _, rfl, .ty "str", .base (.str z), kit_ty (by decide +kernel), true, rfl, iteT ?_⟩
        refine ⟨_, rfl, _, rfl, rfl, ?_⟩
        rw [decide_eq_true rfl]
        exact q
      | int i =>
        cases hx
        refine ⟨_, rfl, _, _, _, _, _, rfl, .ty "tuple", .base (.int i), kit_ty (r := false) (by decide +kernel), false, rfl, iteF ?_⟩
        refine ⟨_, rfl, rfl, _, rfl, ite2 (fun e => absurd (of_decide_eq_true e) (by intro z; cases z)) (fun _ => ?_)⟩
        refine ⟨_, rfl, _, _, _, _, _, rfl, .ty "str", .base (.int i), kit_ty (r := false) (by decide +kernel), false, rfl, iteF ?_⟩
        refine ⟨_, rfl, i, rfl, true, rfl, iteT ?_⟩
        refine ⟨_, rfl, _, rfl, rfl, ?_⟩
        rw [decide_eq_true rfl]
        exact q
      | tup hb db =>
        rename_i b ys ds
        cases hx with
        | tup ha da =>
          rename_i a xs
          have hdl := hp.1
          have l1 := dpAll_len da
          have l2 := dpAll_len db
          refine ⟨_, rfl, _, _, _, _, _, rfl, .ty "tuple", ty_T hb, kit_ty (by decide +kernel), true, rfl, iteT ?_⟩
          refine ⟨_, rfl, _, _, _, _, _, rfl, .ty "tuple", ty_T ha, kit_ty (by decide +kernel), true, rfl, iteF ?_⟩
          refine ⟨_, rfl, a, xs, rfl, .inr ha, _, rfl, b, ys, rfl, .inr hb, rfl, _, rfl, ?_⟩
          rw [decide_eq_true (show V.int (xs.length : Int) = V.int (ys.length : Int) by rw [l1, l2])]
          refine iteF ?_
          refine ⟨_, rfl, b, ys, rfl, .inr hb, _, rfl, by omega, by omega, for_range (lo := 0) (n := ys.length) (fun j σ' H' => ∃ y2, σ' = [some (.ref a), some (.ref b), y2] ∧ H' = H) ⟨none, rfl, rfl⟩ ?_ ?_⟩
          · rintro j σ' H' hj ⟨y2, rfl, rfl⟩
            have hd := List.getElem?_eq_getElem (l := ds) (show j < ds.length by omega)
            obtain ⟨u, eu, du⟩ := dpAll_get2 da hd
            obtain ⟨v, ev, dv⟩ := dpAll_get2 db hd
            refine ⟨_, rfl, _, rfl, a, xs, _, u, rfl, rfl, ha, at_of' (by omega) eu, _, rfl, _, rfl, b, ys, _, v, rfl, rfl, hb, at_of' (by omega) ev, u, v, _, rfl, du, dv, hp.2 _ (List.getElem_mem _), _, rfl, iteF ?_⟩
            exact ⟨_, rfl, rfl⟩
          · rintro σ' H' ⟨y2, rfl, rfl⟩
            exact q
theorem ok_span_token (T : Tab K mg) : FnOk P w K mg base CX0 7 T.f_span_token T.d_span_token ["first", "last"] (sp_span_token K) := by
  refine T.F_span_token.ok sc_span_token (fun vs H Q E h => ?_) (fun cdv A outer s H vs Q E hr h => ?_)
  · obtain ⟨v, w', p, q', rfl, _⟩ := h
    rfl
  · obtain ⟨v, w', p, q', rfl, hp, hq, op, oq, q⟩ := h
    refine ⟨_, (pss_cons (ps_set (i := 2) sc_span_token.nd rfl (.inl rfl) (pe_call (ok_write_page T) (hr.mono (by decide)) (by rfl) T.g_write_page T.F_write_page.kp T.b_write_page .nil pass0 (pa_cons (pv 0) pa_nil)))
      (pss_cons (ps_set (i := 3) sc_span_token.nd rfl (.inl rfl) (pe_call (ok_write_page T) (hr.mono (by decide)) (by rfl) T.g_write_page T.F_write_page.kp T.b_write_page .nil pass0 (pa_cons (pv 1) pa_nil)))
      (pss_one (ps_ret (pe_ifExp (pt_cmpR op_eq (pv 2) (pv 3) (nomark _)) (pv 2) (pe_joined (PJ.cons (pe_fmt (pv 2)) (PJ.cons pe_str (PJ.cons (pe_fmt (pv 3)) PJ.nil))))))))), ?_⟩
    refine ⟨_, rfl, v, p, rfl, hp, op, fun H1 s1 => ?_⟩
    refine ⟨_, rfl, w', q', rfl, pageAt_same s1 hq, oq, fun H2 s2 => ?_⟩
    have s12 := s1.trans s2
    have l1 := fP_len op
    have l2 := fP_len oq
    have l3 : ("-" : Str).length = 1 := by decide +kernel
    have ap : ∀ x y : Str, (x ++ y).length = x.length + y.length := fun x y => by
      show (x.cps ++ y.cps).size = _
      rw [Array.size_append]; rfl
    have qq := q H2 s12
    unfold fR at qq
    refine ⟨_, rfl, _, rfl, rfl, _, rfl, ?_⟩
    by_cases h : fP p = fP q'
    · rw [if_pos h] at qq
      rw [decide_eq_true (congrArg V.str h)]
      exact ⟨_, rfl, qq⟩
    · rw [if_neg h] at qq
      rw [decide_eq_false (fun e => h (V.str.inj e))]
      have e0 : Str.empty ++ fP p = fP p := Str.empty_append _
      refine ⟨_, rfl, .inl ⟨_, rfl, Nat.le_of_lt (small1000 (by omega)), _, rfl, ?_, ?_⟩⟩
      · rw [e0]; exact Nat.le_of_lt (small1000 (by omega))
      rw [e0]
      refine ⟨_, rfl, ?_, ?_⟩
      · rw [ap, l3]; exact Nat.le_of_lt (small1000 (by omega))
      refine ⟨_, rfl, .inl ⟨_, rfl, Nat.le_of_lt (small1000 (by omega)), _, rfl, ?_, qq⟩⟩
      rw [ap, ap, l3]; exact Nat.le_of_lt (small1000 (by omega))
theorem ok_write_range (T : Tab K mg) : FnOk P w K mg base CX0 8 T.f_write_range T.d_write_range ["pair"] (sp_write_range K) := by
  refine T.F_write_range.ok sc_write_range (fun vs H Q E h => ?_) (fun cdv A outer s H vs Q E hr h => ?_)
  · obtain ⟨a, v, w', p, q', rfl, _⟩ := h
    rfl
  · obtain ⟨a, v, w', p, q', rfl, hS, hp, hq, op, oq, q⟩ := h
    refine ⟨_, (pss_cons (ps_asg (pv 0) (pg_or (pg_tup (by rfl) (pgs_cons (pg_name (i := 1) sc_write_range.nd rfl (.inl rfl)) (pgs_cons (pg_name (i := 2) sc_write_range.nd rfl (.inl rfl)) pgs_nil))) (pg_unl (by rfl) (pgs_cons (pg_name (i := 1) sc_write_range.nd rfl (.inl rfl)) (pgs_cons (pg_name (i := 2) sc_write_range.nd rfl (.inl rfl)) pgs_nil)))))
      (pss_one (ps_ret (pe_call (ok_span_token T) (hr.mono (by decide)) (by rfl) T.g_span_token T.F_span_token.kp T.b_span_token .nil pass0 (pa_cons (pv 1) (pa_cons (pv 2) pa_nil)))))), ?_⟩
    rcases hS with hS | hS
    · refine ⟨_, rfl, .inr ⟨a, _, rfl, hS, rfl, _, _, rfl, _, _, rfl, rfl, ?_⟩⟩
      exact ⟨_, rfl, _, rfl, v, w', p, q', rfl, hp, hq, op, oq, q⟩
    · refine ⟨_, rfl, .inl ⟨a, _, rfl, hS, rfl, _, _, rfl, _, _, rfl, rfl, ?_⟩⟩
      exact ⟨_, rfl, _, rfl, v, w', p, q', rfl, hp, hq, op, oq, q⟩
theorem ok_law (T : Tab K mg) : FnOk P w K mg base CX0 9 T.f_law T.d_law ["_law_script"] (sp_law K) := by
  refine T.F_law.ok sc_law (fun vs H Q E h => ?_) (fun cdv A outer s H vs Q E hr h => ?_)
  · obtain ⟨a, ns, rfl, _⟩ := h
    rfl
  · obtain ⟨a, ns, rfl, hS, hlen, q⟩ := h
    refine ⟨_, (pss_cons (ps_set (i := 1) sc_law.nd rfl (.inl rfl) (pe_lst pa_nil))
      (pss_cons (ps_for PassesOwn.never rfl (pi_range1 (by rfl) T.m_range (pa_cons (pe_callB (call_min2 rfl) (by rfl) T.m_min (by decide +kernel) (pa_cons (pe_callB (call_max2 rfl) (by rfl) T.m_max (by decide +kernel) (pa_cons (pe_callB call_len_seq (by rfl) T.m_len PySem.boot_len (pa_cons (pv 0) pa_nil)) (pa_cons pe_int pa_nil))) (pa_cons pe_int pa_nil))) pa_nil)) (pg_name (i := 2) sc_law.nd rfl (.inl rfl))
      (pss_cons (ps_set (i := 3) sc_law.nd rfl (.inl rfl) (pe_call (ok_source T) (hr.mono (by decide)) (by rfl) T.g_source T.F_source.kp T.b_source .nil pass0 (pa_cons (pv 0) (pa_cons (pv 2) pa_nil))))
        (pss_cons (ps_set (i := 4) sc_law.nd rfl (.inl rfl) (pe_call (ok_two_pages T) (hr.mono (by decide)) (by rfl) T.g_two_pages T.F_two_pages.kp T.b_two_pages .nil pass0 (pa_cons (pv 3) pa_nil)))
        (pss_cons (ps_set (i := 5) sc_law.nd rfl (.inl rfl) (pe_call (ok_span_word T) (hr.mono (by decide)) (by rfl) T.g_span_word T.F_span_word.kp T.b_span_word .nil pass0 (pa_cons (pe_ix ix_tup (pv 4) pe_int (fun _ _ => rfl)) (pa_cons (pe_ix ix_tup (pv 4) pe_int (fun _ _ => rfl)) pa_nil))))
        (pss_cons (ps_set (i := 6) sc_law.nd rfl (.inl rfl) (pe_call (ok_as_lists T 4) (hr.mono (by decide)) (by rfl) T.g_as_lists T.F_as_lists.kp T.b_as_lists .nil pass0 (pa_cons (pv 4) pa_nil)))
        (pss_cons (ps_if (PW.pt (pw_or (pt_not (pt_val (pe_call (ok_same T 4) (hr.mono (by decide)) (by rfl) T.g_same T.F_same.kp T.b_same .nil pass0 (pa_cons (pe_call (ok_write_range T) (hr.mono (by decide)) (by rfl) T.g_write_range T.F_write_range.kp T.b_write_range .nil pass0 (pa_cons (pv 6) pa_nil)) (pa_cons (pv 5) pa_nil))))) (pw_or1 (pt_cmpR (op_neD hr.units) (pv 6) (pe_call (ok_as_lists T 4) (hr.mono (by decide)) (by rfl) T.g_as_lists T.F_as_lists.kp T.b_as_lists .nil pass0 (pa_cons (pv 4) pa_nil)) (nomark _)))))
        (pss_one (ps_ret pe_bl))
        pss_nil)
        (pss_cons (ps_if (PW.pt (pw_or (pt_not (pt_val (pe_call (ok_same T 4) (hr.mono (by decide)) (by rfl) T.g_same T.F_same.kp T.b_same .nil pass0 (pa_cons (pe_call (ok_write_range T) (hr.mono (by decide)) (by rfl) T.g_write_range T.F_write_range.kp T.b_write_range .nil pass0 (pa_cons (pv 4) pa_nil)) (pa_cons (pv 5) pa_nil))))) (pw_or1 (pt_not (pt_val (pe_call (ok_same T 4) (hr.mono (by decide)) (by rfl) T.g_same T.F_same.kp T.b_same .nil pass0 (pa_cons (pe_call (ok_read_range T) (hr.mono (by decide)) (by rfl) T.g_read_range T.F_read_range.kp T.b_read_range .nil pass0 (pa_cons (pv 5) pa_nil)) (pa_cons (pv 4) pa_nil))))))))
        (pss_one (ps_ret pe_bl))
        pss_nil)
        (pss_cons (ps_set (i := 7) sc_law.nd rfl (.inl rfl) (pe_op op_add_str (pe_op op_add_str (pe_call (ok_page_word T) (hr.mono (by decide)) (by rfl) T.g_page_word T.F_page_word.kp T.b_page_word .nil pass0 (pa_cons (pe_ix ix_tup (pv 4) pe_int (fun _ _ => rfl)) pa_nil)) pe_str) (pe_call (ok_page_word T) (hr.mono (by decide)) (by rfl) T.g_page_word T.F_page_word.kp T.b_page_word .nil pass0 (pa_cons (pe_ix ix_tup (pv 4) pe_int (fun _ _ => rfl)) pa_nil))))
        (pss_cons (ps_if (pt_not (pt_val (pe_call (ok_same T 4) (hr.mono (by decide)) (by rfl) T.g_same T.F_same.kp T.b_same .nil pass0 (pa_cons (pe_call (ok_read_range T) (hr.mono (by decide)) (by rfl) T.g_read_range T.F_read_range.kp T.b_read_range .nil pass0 (pa_cons (pv 7) pa_nil)) (pa_cons (pe_tup (pa_cons (pe_ix ix_tup (pv 4) pe_int (fun _ _ => rfl)) (pa_cons (pe_ix ix_tup (pv 4) pe_int (fun _ _ => rfl)) pa_nil))) pa_nil)))))
        (pss_one (ps_ret pe_bl))
        pss_nil)
        (pss_cons (ps_for PassesOwn.never rfl (pi_range1 (by rfl) T.m_range (pa_cons (pe_call (ok_pick T) (hr.mono (by decide)) (by rfl) T.g_pick T.F_pick.kp T.b_pick .nil pass0 (pa_cons (pv 3) (pa_cons pe_int pa_nil))) pa_nil)) (pg_name (i := 8) sc_law.nd rfl (.inl rfl))
        (pss_one (ps_set (i := 5) sc_law.nd rfl (.inl rfl) (pe_call (ok_spoilt T) (hr.mono (by decide)) (by rfl) T.g_spoilt T.F_spoilt.kp T.b_spoilt .nil pass0 (pa_cons (pv 3) (pa_cons (pv 5) pa_nil))))))
        (pss_cons (ps_if (pt_not (pt_val (pe_call (ok_same T 4) (hr.mono (by decide)) (by rfl) T.g_same T.F_same.kp T.b_same .nil pass0 (pa_cons (pe_call (ok_read_range T) (hr.mono (by decide)) (by rfl) T.g_read_range T.F_read_range.kp T.b_read_range .nil pass0 (pa_cons (pv 5) pa_nil)) (pa_cons (pe_call (ok_law_read_range T) (hr.mono (by decide)) (by rfl) T.g_law_read_range T.F_law_read_range.kp T.b_law_read_range .nil pass0 (pa_cons (pv 5) pa_nil)) pa_nil)))))
        (pss_one (ps_ret pe_bl))
        pss_nil)
        (pss_one (ps_expr (pe_bm PySem.F.plainAttrs_list PySem.F.slot_list_append PySem.F.type_list_append mt_append (pv 1) (pa_cons (pv 5) pa_nil)))))))))))))))
      (pss_cons (ps_for PassesOwn.never rfl (pi_list (pv 1)) (pg_name (i := 5) sc_law.nd rfl (.inl rfl))
      (pss_one (ps_if (pt_not (pt_val (pe_call (ok_same T 4) (hr.mono (by decide)) (by rfl) T.g_same T.F_same.kp T.b_same .nil pass0 (pa_cons (pe_call (ok_read_range T) (hr.mono (by decide)) (by rfl) T.g_read_range T.F_read_range.kp T.b_read_range .nil pass0 (pa_cons (pv 5) pa_nil)) (pa_cons (pe_call (ok_law_read_range T) (hr.mono (by decide)) (by rfl) T.g_law_read_range T.F_law_read_range.kp T.b_law_read_range .nil pass0 (pa_cons (pv 5) pa_nil)) pa_nil)))))
        (pss_one (ps_ret pe_bl))
        pss_nil)))
      (pss_one (ps_ret pe_bl))))), ?_⟩
    have z2 : 2 ≤ sizeLine := by decide
    refine ⟨Nat.zero_le _, fun D ns0 => ?_⟩
    have s0 : Same H (upd H D (.lst [])) := same_upd ns0
    have hn : ((ns.map V.int).length : Int) ≤ 63 := by rw [List.length_map]; omega
    refine ⟨_, rfl, _, _, rfl, .inl (s0.seq hS), _, _, rfl, _, _, rfl, _, rfl, ?_, ?_, for_range (lo := 0) (fun j σ' H' => ∃ (ws : List Str) (y2 y3 y4 y5 y6 y7 y8 : Option V), σ' = [some (.ref a), some (.ref D), y2, y3, y4, y5, y6, y7, y8] ∧ Same H H' ∧ H' D = some (.lst (ws.map V.str)) ∧ ws.length = j ∧ ∀ z ∈ ws, z.length ≤ 175) ⟨[], none, none, none, none, none, none, none, rfl, s0, upd_same, rfl, fun _ h => nomatch h⟩ ?_ ?_⟩
    · split <;> split <;> omega
    · split <;> split <;> omega
    · rintro j σ' Hx hj ⟨ws, y2, y3, y4, y5, y6, y7, y8, rfl, smh, eD, lw, good⟩
      have hj2 : j < 64 := by
        split at hj <;> split at hj <;> omega
      refine ⟨_, rfl, _, rfl, a, ns, j, ?_, smh.seq hS, fun p0 H1 sm1 n0 src => ?_⟩
      · show [V.ref a, V.int (0 + (j : Int))] = [V.ref a, V.int (j : Int)]
        rw [Int.zero_add]
      have nD : D ≠ p0 := ne_of_none eD n0
      refine ⟨_, rfl, p0, rfl, src, fun v r H2 src2 b2 dp2 ok1 ok2 => ?_⟩
      have eD2 := b2 _ _ nD (sm1 _ _ eD)
      have x2 : Same Hx H2 := b2.same n0 sm1
      have kl1 := ok1.1.1
      have kl2 := ok2.1.1
      obtain ⟨t, x, y, rfl, ht, hx, hy⟩ := dR_inv dp2
      have lf := fR_len ok1 ok2
      refine ⟨_, rfl, t, _, 0, x, rfl, rfl, ht, rfl, _, rfl, t, _, 1, y, rfl, rfl, ht, rfl, x, y, r.1, r.2, rfl, hx, hy, ok1, ok2, fun H3 s3 => ?_⟩
      refine ⟨_, rfl, .ref t, dR r, rfl, dp_same s3 dp2, pt_R kl1 kl2, fun u H4 s4 fd => ?_⟩
      have s34 := s3.trans s4
      obtain ⟨ua, ux, uy, rfl, hu, hux, huy⟩ := fd_R (K := K) fd
      refine ⟨_, rfl, ua, ux, uy, r.1, r.2, rfl, .inl (.inl (.inl hu)), hux, huy, ok1, ok2, fun H5 s5 => ?_⟩
      have s35 := s34.trans s5
      refine ⟨_, rfl, .str (fR r.1 r.2), .str (fR r.1 r.2), .str (fR r.1 r.2), rfl, .str _, .str _, trivial, _, rfl, iteF ?_⟩
      refine ⟨_, rfl, _, rfl, .ref t, dR r, rfl, dp_same s35 dp2, pt_R kl1 kl2, fun u2 H6 s6 fd2 => ?_⟩
      have s36 := s35.trans s6
      refine ⟨toL (dR r), toL (dR r), dp_same (s5.trans s6) (fd_dp fd), fd_dp fd2, shaped_R r, shaped_R r, _, rfl, ?_⟩
      rw [eqv_R]
      refine iteF ?_
      refine ⟨_, rfl, t, x, y, r.1, r.2, rfl, .inr (same_seqT s36 ht), pageAt_of (dp_same s36 hx), pageAt_of (dp_same s36 hy), ok1, ok2, fun H7 s7 => ?_⟩
      have s37 := s36.trans s7
      refine ⟨_, rfl, .str (fR r.1 r.2), .str (fR r.1 r.2), .str (fR r.1 r.2), rfl, .str _, .str _, trivial, _, rfl, iteF ?_⟩
      refine ⟨_, rfl, fR r.1 r.2, rfl, by omega, fun v8 H8 s8 dp8 => ?_⟩
      have s38 := s37.trans s8
      rw [rdR_fR ok1 ok2] at dp8
      refine ⟨_, rfl, v8, .ref t, dR r, rfl, dp8, dp_same s38 dp2, pl_R kl1 kl2, _, rfl, iteF ?_⟩
      have l2 := fP_len ok2
      have l3 : ("-" : Str).length = 1 := by decide +kernel
      have ap : ∀ x y : Str, (x ++ y).length = x.length + y.length := fun x y => by
        show (x.cps ++ y.cps).size = _
        rw [Array.size_append]; rfl
      refine ⟨_, rfl, t, _, 1, y, rfl, rfl, same_seqT s38 ht, rfl, y, r.2, rfl, dp_same s38 hy, ok2, fun H9 s9 => ?_⟩
      have s39 := s38.trans s9
      refine ⟨_, _, rfl, rfl, ?_, _, rfl, t, _, 1, y, rfl, rfl, same_seqT s39 ht, rfl, y, r.2, rfl, dp_same s39 hy, ok2, fun H10 s10 => ?_⟩
      · rw [l3]; exact Nat.le_of_lt (small1000 (by omega))
      have s310 := s39.trans s10
      refine ⟨_, _, rfl, rfl, ?_, ?_⟩
      · rw [ap, l3]; exact Nat.le_of_lt (small1000 (by omega))
      refine ⟨_, rfl, fP r.2 ++ "-" ++ fP r.2, rfl, (by rw [ap, ap, l3]; omega), fun v11 H11 s11 dp11 => ?_⟩
      rw [rdR_two ok2 ok2] at dp11
      have s311 := s310.trans s11
      refine ⟨_, rfl, t, _, 1, y, rfl, rfl, same_seqT s311 ht, rfl, _, rfl, t, _, 1, y, rfl, rfl, same_seqT s311 ht, rfl, z2, fun g ng => ?_⟩
      have sg := same_upd (o := .tup [y, y]) ng
      have s312 := s311.trans sg
      refine ⟨v11, .ref g, dR (r.2, r.2), rfl, dp_same sg dp11, .tup (.inl (.inl upd_same)) (.cons (dp_same s312 hy) (.cons (dp_same s312 hy) .nil)), pl_R kl2 kl2, _, rfl, iteF ?_⟩
      have eD12 := s312 _ _ eD2
      have src12 : Src (upd H11 g (.tup [y, y])) p0 := by
        obtain ⟨g1, g2, g3, e⟩ := src2
        exact ⟨g1, g2, g3, s312 _ _ e⟩
      have b12 : But p0 H1 (upd H11 g (.tup [y, y])) := b2.trans (But.of s312)
      generalize upd H11 g (.tup [y, y]) = H12 at eD12 src12 b12
      refine ⟨_, rfl, _, _, rfl, src12, by decide, by decide, fun m H13 s13 b13 p1 p2 => ?_⟩
      have eD13 := b13 _ _ nD eD12
      refine ⟨_, rfl, by omega, by omega, for_range (lo := 0) (n := m.toNat) (fun i σ' H' => ∃ (z : Str) (y8 : Option V), σ' = [some (.ref a), some (.ref D), some (.int (0 + (j : Int))), some (.ref p0), some (.ref t), some (.str z), some (.ref ua), some (.str (fP r.2 ++ "-" ++ fP r.2)), y8] ∧ Src H' p0 ∧ But p0 H1 H' ∧ H' D = some (.lst (ws.map V.str)) ∧ 1 ≤ z.length ∧ (i = 0 → z.length ≤ 19) ∧ (i = 1 → z.length ≤ 58) ∧ z.length ≤ 175) ⟨fR r.1 r.2, _, rfl, s13, b12.trans b13, eD13, lf.1, fun _ => lf.2, fun h => absurd h (by decide), by omega⟩ ?_ ?_⟩
      · rintro i σ' H14 hi ⟨z, y8, rfl, s14, b14, eD14, h1, h2, h3, h4⟩
        refine ⟨_, rfl, _, rfl, p0, z, rfl, s14, h1, by omega, fun y' H15 s15 b15 g1 g2 => ?_⟩
        refine ⟨y', _, rfl, s15, b14.trans b15, b15 _ _ nD eD14, g1, fun h => absurd h (by omega), fun h => ?_, ?_⟩
        · have := h2 (by omega)
          omega
        · have : i = 0 ∨ i = 1 := by omega
          rcases this with h | h
          · have := h2 h; omega
          · have := h3 h; omega
      · rintro σ' H14 ⟨z, y8, rfl, s14, b14, eD14, h1, h2, h3, h4⟩
        refine ⟨_, rfl, z, rfl, by omega, fun v16 H16 s16 dp16 => ?_⟩
        refine ⟨_, rfl, z, rfl, by omega, fun v17 H17 s17 dp17 => ?_⟩
        refine ⟨v16, v17, oD dR (rdR z), rfl, dp_same s17 dp16, dp17, pl_rd z, _, rfl, iteF ?_⟩
        have eD17 := s17 _ _ (s16 _ _ eD14)
        have x17 : Same Hx H17 := (b14.trans (But.of (s16.trans s17))).same n0 sm1
        refine ⟨_, rfl, .inl ⟨rfl, _, .inl (.inl eD17)⟩, _, rfl, D, _, _, rfl, rfl, eD17, (by rw [List.length_map]; exact small1000 (by omega)), ws ++ [z], _, _, _, _, _, _, _, rfl, ?_, ?_, ?_, ?_⟩
        · exact same_put (smh.trans x17) ns0 _
        · rw [upd_same, List.map_append]; rfl
        · rw [List.length_append, lw]; rfl
        · intro w' hw
          rcases List.mem_append.mp hw with h | h
          · exact good _ h
          · rw [List.mem_singleton.mp h]; exact h4
    · rintro σ' Hx ⟨ws, y2, y3, y4, y5, y6, y7, y8, rfl, smh, eD, lw, good⟩
      refine ⟨_, rfl, D, rfl, ⟨_, .inl (.inl eD)⟩, for_list (xs := ws.map V.str) (fun i σ' H' => ∃ (y5 : Option V), σ' = [some (.ref a), some (.ref D), y2, y3, y4, y5, y6, y7, y8] ∧ H' D = some (.lst (ws.map V.str))) ⟨y5, rfl, eD⟩ (fun i σ' H' _ hh => ?_) ?_ ?_⟩
      · obtain ⟨_, _, e⟩ := hh
        exact .inl (.inl e)
      · rintro i x σ' H' hx ⟨y5', rfl, eD'⟩
        obtain ⟨z, rfl, hz⟩ := get_map hx
        have hl := good _ (List.mem_of_getElem? hz)
        refine ⟨_, rfl, z, rfl, by omega, fun v16 H16 s16 dp16 => ?_⟩
        refine ⟨_, rfl, z, rfl, by omega, fun v17 H17 s17 dp17 => ?_⟩
        refine ⟨v16, v17, oD dR (rdR z), rfl, dp_same s17 dp16, dp17, pl_rd z, _, rfl, iteF ?_⟩
        exact ⟨_, rfl, s17 _ _ (s16 _ _ eD')⟩
      · rintro σ' H' ⟨y5', rfl, eD'⟩
        exact q H'
end
theorem all_mk {l : PySem.W.OpenLaw} {w : World} {K : PySem.W.Frag} {h : Heap} {mg : Str → Option Value} {fa f0 f1 f2 f3 f4 f5 f6 f7 f8 f9 f10 f11 f12 f13 f14 f15 f16 f17 f18 f19 f20 f21 f22 f23 f24 f25 f26 f27 f28 : Addr} (X : K.In h) (G : h.Ns mainGlobals mg) (hfa : mg "law" = some (.ref fa))
    {od0 an0 od1 an1 od2 an2 od3 an3 od4 an4 od5 an5 od6 an6 od7 an7 od8 an8 od9 an9 od10 an10 od11 an11 od12 an12 od13 an13 od14 an14 od15 an15 od16 an16 od17 an17 od18 an18 od19 an19 od20 an20 od21 an21 od22 an22 od23 an23 od24 an24 od25 an25 od26 an26 od27 an27 od28 an28 : Option Addr} {sl0 sl1 sl2 sl3 sl4 sl5 sl6 sl7 sl8 sl9 sl10 sl11 sl12 sl13 sl14 sl15 sl16 sl17 sl18 sl19 sl20 sl21 sl22 sl23 sl24 sl25 sl26 sl27 sl28 : Array (Option Value)} {oc0 kV0 dc0 pm0 cd0 ct0 oc1 kV1 dc1 pm1 cd1 ct1 oc2 kV2 dc2 pm2 cd2 ct2 oc3 kV3 dc3 pm3 cd3 ct3 oc4 kV4 dc4 pm4 cd4 ct4 oc5 kV5 dc5 pm5 cd5 ct5 oc6 kV6 dc6 pm6 cd6 ct6 oc7 kV7 dc7 pm7 cd7 ct7 oc8 kV8 dc8 pm8 cd8 ct8 oc9 kV9 dc9 pm9 cd9 ct9 oc10 kV10 dc10 pm10 cd10 ct10 oc11 kV11 dc11 pm11 cd11 ct11 oc12 kV12 dc12 pm12 cd12 ct12 oc13 kV13 dc13 pm13 cd13 ct13 oc14 kV14 dc14 pm14 cd14 ct14 oc15 kV15 dc15 pm15 cd15 ct15 oc16 kV16 dc16 pm16 cd16 ct16 oc17 kV17 dc17 pm17 cd17 ct17 oc18 kV18 dc18 pm18 cd18 ct18 oc19 kV19 dc19 pm19 cd19 ct19 oc20 kV20 dc20 pm20 cd20 ct20 oc21 kV21 dc21 pm21 cd21 ct21 oc22 kV22 dc22 pm22 cd22 ct22 oc23 kV23 dc23 pm23 cd23 ct23 oc24 kV24 dc24 pm24 cd24 ct24 oc25 kV25 dc25 pm25 cd25 ct25 oc26 kV26 dc26 pm26 cd26 ct26 oc27 kV27 dc27 pm27 cd27 ct27 oc28 kV28 dc28 pm28 cd28 ct28 : Value}
    (a0 : PySem.W.nsIn K mainGlobals "is_integer" = some (some (.ref f0))) (l0 : K.lookup f0 = some ⟨oc0, od0, .func (PySem.W.fnOf "is_integer" "is_integer" (defArgs s_is_integer) (defBody s_is_integer) (defScope s_is_integer) .none kV0 dc0 pm0 an0 cd0 ct0), sl0⟩) (c0 : PySem.W.codeIn K cd0 "is_integer" = true) (k0 : PySem.W.keepIn K (.ref f0) = true)
    (a1 : PySem.W.nsIn K mainGlobals "is_within" = some (some (.ref f1))) (l1 : K.lookup f1 = some ⟨oc1, od1, .func (PySem.W.fnOf "is_within" "is_within" (defArgs s_is_within) (defBody s_is_within) (defScope s_is_within) .none kV1 dc1 pm1 an1 cd1 ct1), sl1⟩) (c1 : PySem.W.codeIn K cd1 "is_within" = true) (k1 : PySem.W.keepIn K (.ref f1) = true)
    (a2 : PySem.W.nsIn K mainGlobals "is_tuple" = some (some (.ref f2))) (l2 : K.lookup f2 = some ⟨oc2, od2, .func (PySem.W.fnOf "is_tuple" "is_tuple" (defArgs s_is_tuple) (defBody s_is_tuple) (defScope s_is_tuple) .none kV2 dc2 pm2 an2 cd2 ct2), sl2⟩) (c2 : PySem.W.codeIn K cd2 "is_tuple" = true) (k2 : PySem.W.keepIn K (.ref f2) = true)
    (a3 : PySem.W.nsIn K mainGlobals "is_sized" = some (some (.ref f3))) (l3 : K.lookup f3 = some ⟨oc3, od3, .func (PySem.W.fnOf "is_sized" "is_sized" (defArgs s_is_sized) (defBody s_is_sized) (defScope s_is_sized) .none kV3 dc3 pm3 an3 cd3 ct3), sl3⟩) (c3 : PySem.W.codeIn K cd3 "is_sized" = true) (k3 : PySem.W.keepIn K (.ref f3) = true)
    (a4 : PySem.W.nsIn K mainGlobals "read_integer" = some (some (.ref f4))) (l4 : K.lookup f4 = some ⟨oc4, od4, .func (PySem.W.fnOf "read_integer" "read_integer" (defArgs s_read_integer) (defBody s_read_integer) (defScope s_read_integer) .none kV4 dc4 pm4 an4 cd4 ct4), sl4⟩) (c4 : PySem.W.codeIn K cd4 "read_integer" = true) (k4 : PySem.W.keepIn K (.ref f4) = true)
    (a5 : PySem.W.nsIn K mainGlobals "kept_label" = some (some (.ref f5))) (l5 : K.lookup f5 = some ⟨oc5, od5, .func (PySem.W.fnOf "kept_label" "kept_label" (defArgs s_kept_label) (defBody s_kept_label) (defScope s_kept_label) .none kV5 dc5 pm5 an5 cd5 ct5), sl5⟩) (c5 : PySem.W.codeIn K cd5 "kept_label" = true) (k5 : PySem.W.keepIn K (.ref f5) = true)
    (a6 : PySem.W.nsIn K mainGlobals "judged_label" = some (some (.ref f6))) (l6 : K.lookup f6 = some ⟨oc6, od6, .func (PySem.W.fnOf "judged_label" "judged_label" (defArgs s_judged_label) (defBody s_judged_label) (defScope s_judged_label) .none kV6 dc6 pm6 an6 cd6 ct6), sl6⟩) (c6 : PySem.W.codeIn K cd6 "judged_label" = true) (k6 : PySem.W.keepIn K (.ref f6) = true)
    (a7 : PySem.W.nsIn K mainGlobals "write_label" = some (some (.ref f7))) (l7 : K.lookup f7 = some ⟨oc7, od7, .func (PySem.W.fnOf "write_label" "write_label" (defArgs s_write_label) (defBody s_write_label) (defScope s_write_label) .none kV7 dc7 pm7 an7 cd7 ct7), sl7⟩) (c7 : PySem.W.codeIn K cd7 "write_label" = true) (k7 : PySem.W.keepIn K (.ref f7) = true)
    (a8 : PySem.W.nsIn K mainGlobals "read_label" = some (some (.ref f8))) (l8 : K.lookup f8 = some ⟨oc8, od8, .func (PySem.W.fnOf "read_label" "read_label" (defArgs s_read_label) (defBody s_read_label) (defScope s_read_label) .none kV8 dc8 pm8 an8 cd8 ct8), sl8⟩) (c8 : PySem.W.codeIn K cd8 "read_label" = true) (k8 : PySem.W.keepIn K (.ref f8) = true)
    (a9 : PySem.W.nsIn K mainGlobals "write_page" = some (some (.ref f9))) (l9 : K.lookup f9 = some ⟨oc9, od9, .func (PySem.W.fnOf "write_page" "write_page" (defArgs s_write_page) (defBody s_write_page) (defScope s_write_page) .none kV9 dc9 pm9 an9 cd9 ct9), sl9⟩) (c9 : PySem.W.codeIn K cd9 "write_page" = true) (k9 : PySem.W.keepIn K (.ref f9) = true)
    (a10 : PySem.W.nsIn K mainGlobals "read_page" = some (some (.ref f10))) (l10 : K.lookup f10 = some ⟨oc10, od10, .func (PySem.W.fnOf "read_page" "read_page" (defArgs s_read_page) (defBody s_read_page) (defScope s_read_page) .none kV10 dc10 pm10 an10 cd10 ct10), sl10⟩) (c10 : PySem.W.codeIn K cd10 "read_page" = true) (k10 : PySem.W.keepIn K (.ref f10) = true)
    (a11 : PySem.W.nsIn K mainGlobals "span_token" = some (some (.ref f11))) (l11 : K.lookup f11 = some ⟨oc11, od11, .func (PySem.W.fnOf "span_token" "span_token" (defArgs s_span_token) (defBody s_span_token) (defScope s_span_token) .none kV11 dc11 pm11 an11 cd11 ct11), sl11⟩) (c11 : PySem.W.codeIn K cd11 "span_token" = true) (k11 : PySem.W.keepIn K (.ref f11) = true)
    (a12 : PySem.W.nsIn K mainGlobals "write_range" = some (some (.ref f12))) (l12 : K.lookup f12 = some ⟨oc12, od12, .func (PySem.W.fnOf "write_range" "write_range" (defArgs s_write_range) (defBody s_write_range) (defScope s_write_range) .none kV12 dc12 pm12 an12 cd12 ct12), sl12⟩) (c12 : PySem.W.codeIn K cd12 "write_range" = true) (k12 : PySem.W.keepIn K (.ref f12) = true)
    (a13 : PySem.W.nsIn K mainGlobals "read_range" = some (some (.ref f13))) (l13 : K.lookup f13 = some ⟨oc13, od13, .func (PySem.W.fnOf "read_range" "read_range" (defArgs s_read_range) (defBody s_read_range) (defScope s_read_range) .none kV13 dc13 pm13 an13 cd13 ct13), sl13⟩) (c13 : PySem.W.codeIn K cd13 "read_range" = true) (k13 : PySem.W.keepIn K (.ref f13) = true)
    (a14 : PySem.W.nsIn K mainGlobals "_law_source" = some (some (.ref f14))) (l14 : K.lookup f14 = some ⟨oc14, od14, .func (PySem.W.fnOf "_law_source" "_law_source" (defArgs s_source) (defBody s_source) (defScope s_source) .none kV14 dc14 pm14 an14 cd14 ct14), sl14⟩) (c14 : PySem.W.codeIn K cd14 "_law_source" = true) (k14 : PySem.W.keepIn K (.ref f14) = true)
    (a15 : PySem.W.nsIn K mainGlobals "_law_pick" = some (some (.ref f15))) (l15 : K.lookup f15 = some ⟨oc15, od15, .func (PySem.W.fnOf "_law_pick" "_law_pick" (defArgs s_pick) (defBody s_pick) (defScope s_pick) .none kV15 dc15 pm15 an15 cd15 ct15), sl15⟩) (c15 : PySem.W.codeIn K cd15 "_law_pick" = true) (k15 : PySem.W.keepIn K (.ref f15) = true)
    (a16 : PySem.W.nsIn K mainGlobals "_law_is_integer" = some (some (.ref f16))) (l16 : K.lookup f16 = some ⟨oc16, od16, .func (PySem.W.fnOf "_law_is_integer" "_law_is_integer" (defArgs s_law_is_integer) (defBody s_law_is_integer) (defScope s_law_is_integer) .none kV16 dc16 pm16 an16 cd16 ct16), sl16⟩) (c16 : PySem.W.codeIn K cd16 "_law_is_integer" = true) (k16 : PySem.W.keepIn K (.ref f16) = true)
    (a17 : PySem.W.nsIn K mainGlobals "_law_label_word" = some (some (.ref f17))) (l17 : K.lookup f17 = some ⟨oc17, od17, .func (PySem.W.fnOf "_law_label_word" "_law_label_word" (defArgs s_label_word) (defBody s_label_word) (defScope s_label_word) .none kV17 dc17 pm17 an17 cd17 ct17), sl17⟩) (c17 : PySem.W.codeIn K cd17 "_law_label_word" = true) (k17 : PySem.W.keepIn K (.ref f17) = true)
    (a18 : PySem.W.nsIn K mainGlobals "_law_page_word" = some (some (.ref f18))) (l18 : K.lookup f18 = some ⟨oc18, od18, .func (PySem.W.fnOf "_law_page_word" "_law_page_word" (defArgs s_page_word) (defBody s_page_word) (defScope s_page_word) .none kV18 dc18 pm18 an18 cd18 ct18), sl18⟩) (c18 : PySem.W.codeIn K cd18 "_law_page_word" = true) (k18 : PySem.W.keepIn K (.ref f18) = true)
    (a19 : PySem.W.nsIn K mainGlobals "_law_span_word" = some (some (.ref f19))) (l19 : K.lookup f19 = some ⟨oc19, od19, .func (PySem.W.fnOf "_law_span_word" "_law_span_word" (defArgs s_span_word) (defBody s_span_word) (defScope s_span_word) .none kV19 dc19 pm19 an19 cd19 ct19), sl19⟩) (c19 : PySem.W.codeIn K cd19 "_law_span_word" = true) (k19 : PySem.W.keepIn K (.ref f19) = true)
    (a20 : PySem.W.nsIn K mainGlobals "_law_read_label" = some (some (.ref f20))) (l20 : K.lookup f20 = some ⟨oc20, od20, .func (PySem.W.fnOf "_law_read_label" "_law_read_label" (defArgs s_law_read_label) (defBody s_law_read_label) (defScope s_law_read_label) .none kV20 dc20 pm20 an20 cd20 ct20), sl20⟩) (c20 : PySem.W.codeIn K cd20 "_law_read_label" = true) (k20 : PySem.W.keepIn K (.ref f20) = true)
    (a21 : PySem.W.nsIn K mainGlobals "_law_read_page" = some (some (.ref f21))) (l21 : K.lookup f21 = some ⟨oc21, od21, .func (PySem.W.fnOf "_law_read_page" "_law_read_page" (defArgs s_law_read_page) (defBody s_law_read_page) (defScope s_law_read_page) .none kV21 dc21 pm21 an21 cd21 ct21), sl21⟩) (c21 : PySem.W.codeIn K cd21 "_law_read_page" = true) (k21 : PySem.W.keepIn K (.ref f21) = true)
    (a22 : PySem.W.nsIn K mainGlobals "_law_read_range" = some (some (.ref f22))) (l22 : K.lookup f22 = some ⟨oc22, od22, .func (PySem.W.fnOf "_law_read_range" "_law_read_range" (defArgs s_law_read_range) (defBody s_law_read_range) (defScope s_law_read_range) .none kV22 dc22 pm22 an22 cd22 ct22), sl22⟩) (c22 : PySem.W.codeIn K cd22 "_law_read_range" = true) (k22 : PySem.W.keepIn K (.ref f22) = true)
    (a23 : PySem.W.nsIn K mainGlobals "_law_same" = some (some (.ref f23))) (l23 : K.lookup f23 = some ⟨oc23, od23, .func (PySem.W.fnOf "_law_same" "_law_same" (defArgs s_same) (defBody s_same) (defScope s_same) .none kV23 dc23 pm23 an23 cd23 ct23), sl23⟩) (c23 : PySem.W.codeIn K cd23 "_law_same" = true) (k23 : PySem.W.keepIn K (.ref f23) = true)
    (a24 : PySem.W.nsIn K mainGlobals "_law_as_lists" = some (some (.ref f24))) (l24 : K.lookup f24 = some ⟨oc24, od24, .func (PySem.W.fnOf "_law_as_lists" "_law_as_lists" (defArgs s_as_lists) (defBody s_as_lists) (defScope s_as_lists) .none kV24 dc24 pm24 an24 cd24 ct24), sl24⟩) (c24 : PySem.W.codeIn K cd24 "_law_as_lists" = true) (k24 : PySem.W.keepIn K (.ref f24) = true)
    (a25 : PySem.W.nsIn K mainGlobals "_law_wide_label" = some (some (.ref f25))) (l25 : K.lookup f25 = some ⟨oc25, od25, .func (PySem.W.fnOf "_law_wide_label" "_law_wide_label" (defArgs s_wide_label) (defBody s_wide_label) (defScope s_wide_label) .none kV25 dc25 pm25 an25 cd25 ct25), sl25⟩) (c25 : PySem.W.codeIn K cd25 "_law_wide_label" = true) (k25 : PySem.W.keepIn K (.ref f25) = true)
    (a26 : PySem.W.nsIn K mainGlobals "_law_two_pages" = some (some (.ref f26))) (l26 : K.lookup f26 = some ⟨oc26, od26, .func (PySem.W.fnOf "_law_two_pages" "_law_two_pages" (defArgs s_two_pages) (defBody s_two_pages) (defScope s_two_pages) .none kV26 dc26 pm26 an26 cd26 ct26), sl26⟩) (c26 : PySem.W.codeIn K cd26 "_law_two_pages" = true) (k26 : PySem.W.keepIn K (.ref f26) = true)
    (a27 : PySem.W.nsIn K mainGlobals "_law_spoilt" = some (some (.ref f27))) (l27 : K.lookup f27 = some ⟨oc27, od27, .func (PySem.W.fnOf "_law_spoilt" "_law_spoilt" (defArgs s_spoilt) (defBody s_spoilt) (defScope s_spoilt) .none kV27 dc27 pm27 an27 cd27 ct27), sl27⟩) (c27 : PySem.W.codeIn K cd27 "_law_spoilt" = true) (k27 : PySem.W.keepIn K (.ref f27) = true)
    (a28 : PySem.W.nsIn K mainGlobals "law" = some (some (.ref f28))) (l28 : K.lookup f28 = some ⟨oc28, od28, .func (PySem.W.fnOf "law" "law" (defArgs s_law) (defBody s_law) (defScope s_law) .none kV28 dc28 pm28 an28 cd28 ct28), sl28⟩) (c28 : PySem.W.codeIn K cd28 "law" = true) (k28 : PySem.W.keepIn K (.ref f28) = true)
    {t_DIGITS : Tok} (v_DIGITS : PySem.W.nsIn K mainGlobals "DIGITS" = some (some (.str "0123456789" t_DIGITS)))
    {t_MOST_PARTS : Tok} (v_MOST_PARTS : PySem.W.nsIn K mainGlobals "MOST_PARTS" = some (some (.int 3 t_MOST_PARTS)))
    {t_SIDES : Tok} (v_SIDES : PySem.W.nsIn K mainGlobals "SIDES" = some (some (.str "ab" t_SIDES)))
    (z_abs : PySem.W.nsIn K mainGlobals "abs" = some none)
    (z_all : PySem.W.nsIn K mainGlobals "all" = some none)
    (z_bool : PySem.W.nsIn K mainGlobals "bool" = some none)
    (z_int : PySem.W.nsIn K mainGlobals "int" = some none)
    (z_isinstance : PySem.W.nsIn K mainGlobals "isinstance" = some none)
    (z_len : PySem.W.nsIn K mainGlobals "len" = some none)
    (z_list : PySem.W.nsIn K mainGlobals "list" = some none)
    (z_max : PySem.W.nsIn K mainGlobals "max" = some none)
    (z_min : PySem.W.nsIn K mainGlobals "min" = some none)
    (z_range : PySem.W.nsIn K mainGlobals "range" = some none)
    (z_str : PySem.W.nsIn K mainGlobals "str" = some none)
    (z_sum : PySem.W.nsIn K mainGlobals "sum" = some none)
    (z_tuple : PySem.W.nsIn K mainGlobals "tuple" = some none)
    : ∃ fd : FuncData, (∀ (s : Shared) (v : Value), BindsTo s fd ⟨[v], []⟩ [("_law_script", v)]) ∧ ∀ base : Heap, K.In base → base.Ns mainGlobals mg → FnOk l.prog w K mg base CX0 9 fa fd ["_law_script"] (sp_law K) := by
  have e := hfa.symm.trans (PySem.W.mg_of X G a28)
  cases e
  have F0 := fun_mk (st := s_is_integer) l0 c0 k0
  have b0 := F0.binds (ps := ["thing"]) fun _ _ _ _ _ _ us hl => match us, hl with | [_], _ => rfl
  have F1 := fun_mk (st := s_is_within) l1 c1 k1
  have b1 := F1.binds (ps := ["thing", "least", "most"]) fun _ _ _ _ _ _ us hl => match us, hl with | [_, _, _], _ => rfl
  have F2 := fun_mk (st := s_is_tuple) l2 c2 k2
  have b2 := F2.binds (ps := ["thing"]) fun _ _ _ _ _ _ us hl => match us, hl with | [_], _ => rfl
  have F3 := fun_mk (st := s_is_sized) l3 c3 k3
  have b3 := F3.binds (ps := ["thing", "least", "most"]) fun _ _ _ _ _ _ us hl => match us, hl with | [_, _, _], _ => rfl
  have F4 := fun_mk (st := s_read_integer) l4 c4 k4
  have b4 := F4.binds (ps := ["word", "least", "most"]) fun _ _ _ _ _ _ us hl => match us, hl with | [_, _, _], _ => rfl
  have F5 := fun_mk (st := s_kept_label) l5 c5 k5
  have b5 := F5.binds (ps := ["thing"]) fun _ _ _ _ _ _ us hl => match us, hl with | [_], _ => rfl
  have F6 := fun_mk (st := s_judged_label) l6 c6 k6
  have b6 := F6.binds (ps := ["thing"]) fun _ _ _ _ _ _ us hl => match us, hl with | [_], _ => rfl
  have F7 := fun_mk (st := s_write_label) l7 c7 k7
  have b7 := F7.binds (ps := ["label"]) fun _ _ _ _ _ _ us hl => match us, hl with | [_], _ => rfl
  have F8 := fun_mk (st := s_read_label) l8 c8 k8
  have b8 := F8.binds (ps := ["word"]) fun _ _ _ _ _ _ us hl => match us, hl with | [_], _ => rfl
  have F9 := fun_mk (st := s_write_page) l9 c9 k9
  have b9 := F9.binds (ps := ["page"]) fun _ _ _ _ _ _ us hl => match us, hl with | [_], _ => rfl
  have F10 := fun_mk (st := s_read_page) l10 c10 k10
  have b10 := F10.binds (ps := ["word"]) fun _ _ _ _ _ _ us hl => match us, hl with | [_], _ => rfl
  have F11 := fun_mk (st := s_span_token) l11 c11 k11
  have b11 := F11.binds (ps := ["first", "last"]) fun _ _ _ _ _ _ us hl => match us, hl with | [_, _], _ => rfl
  have F12 := fun_mk (st := s_write_range) l12 c12 k12
  have b12 := F12.binds (ps := ["pair"]) fun _ _ _ _ _ _ us hl => match us, hl with | [_], _ => rfl
  have F13 := fun_mk (st := s_read_range) l13 c13 k13
  have b13 := F13.binds (ps := ["token"]) fun _ _ _ _ _ _ us hl => match us, hl with | [_], _ => rfl
  have F14 := fun_mk (st := s_source) l14 c14 k14
  have b14 := F14.binds (ps := ["_law_script", "_law_k"]) fun _ _ _ _ _ _ us hl => match us, hl with | [_, _], _ => rfl
  have F15 := fun_mk (st := s_pick) l15 c15 k15
  have b15 := F15.binds (ps := ["_law_source_here", "_law_many"]) fun _ _ _ _ _ _ us hl => match us, hl with | [_, _], _ => rfl
  have F16 := fun_mk (st := s_law_is_integer) l16 c16 k16
  have b16 := F16.binds (ps := ["_law_actual"]) fun _ _ _ _ _ _ us hl => match us, hl with | [_], _ => rfl
  have F17 := fun_mk (st := s_label_word) l17 c17 k17
  have b17 := F17.binds (ps := ["_law_label"]) fun _ _ _ _ _ _ us hl => match us, hl with | [_], _ => rfl
  have F18 := fun_mk (st := s_page_word) l18 c18 k18
  have b18 := F18.binds (ps := ["_law_page"]) fun _ _ _ _ _ _ us hl => match us, hl with | [_], _ => rfl
  have F19 := fun_mk (st := s_span_word) l19 c19 k19
  have b19 := F19.binds (ps := ["_law_begin", "_law_last"]) fun _ _ _ _ _ _ us hl => match us, hl with | [_, _], _ => rfl
  have F20 := fun_mk (st := s_law_read_label) l20 c20 k20
  have b20 := F20.binds (ps := ["_law_word"]) fun _ _ _ _ _ _ us hl => match us, hl with | [_], _ => rfl
  have F21 := fun_mk (st := s_law_read_page) l21 c21 k21
  have b21 := F21.binds (ps := ["_law_word"]) fun _ _ _ _ _ _ us hl => match us, hl with | [_], _ => rfl
  have F22 := fun_mk (st := s_law_read_range) l22 c22 k22
  have b22 := F22.binds (ps := ["_law_token"]) fun _ _ _ _ _ _ us hl => match us, hl with | [_], _ => rfl
  have F23 := fun_mk (st := s_same) l23 c23 k23
  have b23 := F23.binds (ps := ["_law_actual", "_law_due"]) fun _ _ _ _ _ _ us hl => match us, hl with | [_, _], _ => rfl
  have F24 := fun_mk (st := s_as_lists) l24 c24 k24
  have b24 := F24.binds (ps := ["_law_thing"]) fun _ _ _ _ _ _ us hl => match us, hl with | [_], _ => rfl
  have F25 := fun_mk (st := s_wide_label) l25 c25 k25
  have b25 := F25.binds (ps := ["_law_source_here"]) fun _ _ _ _ _ _ us hl => match us, hl with | [_], _ => rfl
  have F26 := fun_mk (st := s_two_pages) l26 c26 k26
  have b26 := F26.binds (ps := ["_law_source_here"]) fun _ _ _ _ _ _ us hl => match us, hl with | [_], _ => rfl
  have F27 := fun_mk (st := s_spoilt) l27 c27 k27
  have b27 := F27.binds (ps := ["_law_source_here", "_law_word"]) fun _ _ _ _ _ _ us hl => match us, hl with | [_, _], _ => rfl
  have F28 := fun_mk (st := s_law) l28 c28 k28
  have b28 := F28.binds (ps := ["_law_script"]) fun _ _ _ _ _ _ us hl => match us, hl with | [_], _ => rfl
  let T : Tab K mg := ⟨_, _, F0, b0, PySem.W.mg_of X G a0, _, _, F1, b1, PySem.W.mg_of X G a1, _, _, F2, b2, PySem.W.mg_of X G a2, _, _, F3, b3, PySem.W.mg_of X G a3, _, _, F4, b4, PySem.W.mg_of X G a4, _, _, F5, b5, PySem.W.mg_of X G a5, _, _, F6, b6, PySem.W.mg_of X G a6, _, _, F7, b7, PySem.W.mg_of X G a7, _, _, F8, b8, PySem.W.mg_of X G a8, _, _, F9, b9, PySem.W.mg_of X G a9, _, _, F10, b10, PySem.W.mg_of X G a10, _, _, F11, b11, PySem.W.mg_of X G a11, _, _, F12, b12, PySem.W.mg_of X G a12, _, _, F13, b13, PySem.W.mg_of X G a13, _, _, F14, b14, PySem.W.mg_of X G a14, _, _, F15, b15, PySem.W.mg_of X G a15, _, _, F16, b16, PySem.W.mg_of X G a16, _, _, F17, b17, PySem.W.mg_of X G a17, _, _, F18, b18, PySem.W.mg_of X G a18, _, _, F19, b19, PySem.W.mg_of X G a19, _, _, F20, b20, PySem.W.mg_of X G a20, _, _, F21, b21, PySem.W.mg_of X G a21, _, _, F22, b22, PySem.W.mg_of X G a22, _, _, F23, b23, PySem.W.mg_of X G a23, _, _, F24, b24, PySem.W.mg_of X G a24, _, _, F25, b25, PySem.W.mg_of X G a25, _, _, F26, b26, PySem.W.mg_of X G a26, _, _, F27, b27, PySem.W.mg_of X G a27, _, _, F28, b28, PySem.W.mg_of X G a28, _, PySem.W.mg_of X G v_DIGITS, _, PySem.W.mg_of X G v_MOST_PARTS, _, PySem.W.mg_of X G v_SIDES, PySem.W.mg_none_of X G z_abs, PySem.W.mg_none_of X G z_all, PySem.W.mg_none_of X G z_bool, PySem.W.mg_none_of X G z_int, PySem.W.mg_none_of X G z_isinstance, PySem.W.mg_none_of X G z_len, PySem.W.mg_none_of X G z_list, PySem.W.mg_none_of X G z_max, PySem.W.mg_none_of X G z_min, PySem.W.mg_none_of X G z_range, PySem.W.mg_none_of X G z_str, PySem.W.mg_none_of X G z_sum, PySem.W.mg_none_of X G z_tuple⟩
  exact ⟨PySem.W.fnOf "law" "law" (defArgs s_law) (defBody s_law) (defScope s_law) .none kV28 dc28 pm28 an28 cd28 ct28, fun s v => .of_eq rfl, fun base _ _ => ok_law T⟩
end K34
open PySem PySem.W PyProof.Rows
set_option maxRecDepth 100000 in
set_option maxHeartbeats 0 in
theorem PySem.Challenge.cw_afterleaves_k34_ranges_written_holds : PySem.Challenge.rw_afterleaves_k34_ranges_written.Holds := by
  w_on; o_law; k_head; (case hw => w_witness2)
  k_fill
  refine L2.walk_of (l := PySem.Challenge.rw_afterleaves_k34_ranges_written) (n := 63) (k := 9) (x := "_law_script") (CX := fun _ => L2.CX0) (sp := fun w => K34.sp_law _) rfl (by decide) rfl ⟨rfl, by decide, by decide⟩ (fun w h Y => PySem.W.kIn_of Y) ?F (fun _ _ a ns hl _ hS => ⟨a, ns, rfl, hS, hl, fun _ => rfl⟩) (fun _ _ _ _ _ h => h)
  case F =>
    intro w mg fa h KX G hmg
    refine' K34.all_mk KX G hmg ?a0 ?l0 ?c0 ?k0 ?a1 ?l1 ?c1 ?k1 ?a2 ?l2 ?c2 ?k2 ?a3 ?l3 ?c3 ?k3 ?a4 ?l4 ?c4 ?k4 ?a5 ?l5 ?c5 ?k5 ?a6 ?l6 ?c6 ?k6 ?a7 ?l7 ?c7 ?k7 ?a8 ?l8 ?c8 ?k8 ?a9 ?l9 ?c9 ?k9 ?a10 ?l10 ?c10 ?k10 ?a11 ?l11 ?c11 ?k11 ?a12 ?l12 ?c12 ?k12 ?a13 ?l13 ?c13 ?k13 ?a14 ?l14 ?c14 ?k14 ?a15 ?l15 ?c15 ?k15 ?a16 ?l16 ?c16 ?k16 ?a17 ?l17 ?c17 ?k17 ?a18 ?l18 ?c18 ?k18 ?a19 ?l19 ?c19 ?k19 ?a20 ?l20 ?c20 ?k20 ?a21 ?l21 ?c21 ?k21 ?a22 ?l22 ?c22 ?k22 ?a23 ?l23 ?c23 ?k23 ?a24 ?l24 ?c24 ?k24 ?a25 ?l25 ?c25 ?k25 ?a26 ?l26 ?c26 ?k26 ?a27 ?l27 ?c27 ?k27 ?a28 ?l28 ?c28 ?k28 ?v_DIGITS ?v_MOST_PARTS ?v_SIDES ?z_abs ?z_all ?z_bool ?z_int ?z_isinstance ?z_len ?z_list ?z_max ?z_min ?z_range ?z_str ?z_sum ?z_tuple
    (case a0 => k_is)
    (case l0 => k_is)
    (case c0 => k_is)
    (case k0 => k_is)
    (case a1 => k_is)
    (case l1 => k_is)
    (case c1 => k_is)
    (case k1 => k_is)
    (case a2 => k_is)
    (case l2 => k_is)
    (case c2 => k_is)
    (case k2 => k_is)
    (case a3 => k_is)
    (case l3 => k_is)
    (case c3 => k_is)
    (case k3 => k_is)
    (case a4 => k_is)
    (case l4 => k_is)
    (case c4 => k_is)
    (case k4 => k_is)
    (case a5 => k_is)
    (case l5 => k_is)
    (case c5 => k_is)
    (case k5 => k_is)
    (case a6 => k_is)
    (case l6 => k_is)
    (case c6 => k_is)
    (case k6 => k_is)
    (case a7 => k_is)
    (case l7 => k_is)
    (case c7 => k_is)
    (case k7 => k_is)
    (case a8 => k_is)
    (case l8 => k_is)
    (case c8 => k_is)
    (case k8 => k_is)
    (case a9 => k_is)
    (case l9 => k_is)
    (case c9 => k_is)
    (case k9 => k_is)
    (case a10 => k_is)
    (case l10 => k_is)
    (case c10 => k_is)
    (case k10 => k_is)
    (case a11 => k_is)
    (case l11 => k_is)
    (case c11 => k_is)
    (case k11 => k_is)
    (case a12 => k_is)
    (case l12 => k_is)
    (case c12 => k_is)
    (case k12 => k_is)
    (case a13 => k_is)
    (case l13 => k_is)
    (case c13 => k_is)
    (case k13 => k_is)
    (case a14 => k_is)
    (case l14 => k_is)
    (case c14 => k_is)
    (case k14 => k_is)
    (case a15 => k_is)
    (case l15 => k_is)
    (case c15 => k_is)
    (case k15 => k_is)
    (case a16 => k_is)
    (case l16 => k_is)
    (case c16 => k_is)
    (case k16 => k_is)
    (case a17 => k_is)
    (case l17 => k_is)
    (case c17 => k_is)
    (case k17 => k_is)
    (case a18 => k_is)
    (case l18 => k_is)
    (case c18 => k_is)
    (case k18 => k_is)
    (case a19 => k_is)
    (case l19 => k_is)
    (case c19 => k_is)
    (case k19 => k_is)
    (case a20 => k_is)
    (case l20 => k_is)
    (case c20 => k_is)
    (case k20 => k_is)
    (case a21 => k_is)
    (case l21 => k_is)
    (case c21 => k_is)
    (case k21 => k_is)
    (case a22 => k_is)
    (case l22 => k_is)
    (case c22 => k_is)
    (case k22 => k_is)
    (case a23 => k_is)
    (case l23 => k_is)
    (case c23 => k_is)
    (case k23 => k_is)
    (case a24 => k_is)
    (case l24 => k_is)
    (case c24 => k_is)
    (case k24 => k_is)
    (case a25 => k_is)
    (case l25 => k_is)
    (case c25 => k_is)
    (case k25 => k_is)
    (case a26 => k_is)
    (case l26 => k_is)
    (case c26 => k_is)
    (case k26 => k_is)
    (case a27 => k_is)
    (case l27 => k_is)
    (case c27 => k_is)
    (case k27 => k_is)
    (case a28 => k_is)
    (case l28 => k_is)
    (case c28 => k_is)
    (case k28 => k_is)
    (case v_DIGITS => k_is)
    (case v_MOST_PARTS => k_is)
    (case v_SIDES => k_is)
    (case z_abs => k_is)
    (case z_all => k_is)
    (case z_bool => k_is)
    (case z_int => k_is)
    (case z_isinstance => k_is)
    (case z_len => k_is)
    (case z_list => k_is)
    (case z_max => k_is)
    (case z_min => k_is)
    (case z_range => k_is)
    (case z_str => k_is)
    (case z_sum => k_is)
    (case z_tuple => k_is)

import PyProof.Rows.All
import Wide.All
import OpenK.AllK
import Wide.FinOn
import HandS.ForMost
import HandS.Codes
import HandS.IsInst
import HandS.Walk
import HandS.DeepEq
import HandS.TupAny
import HandS.Deep
import HandS.FStr
import HandS.StrMore
import HandS.TryMany
import HandS.NoneIn
import HandS.ForExc
import HandS.ExcInit
import HandS.ExcField
import HandS.ExcIs
import KE.KExcIs
import KE.KRevSl
import PyProof.StrLawsRepr
import HandS.Flow
import PySem.Challenge.RW_afterleaves_k01_labels_between
set_option Elab.async false
set_option linter.all false
set_option maxRecDepth 100000
set_option maxHeartbeats 4000000
namespace K01
open PySem PySem.Spec PyProof.Rows L2
/-! ### the text -/
def topS (i : Nat) : Stmt := PySem.Challenge.pw_afterleaves_k01_labels_between.main.body.getD i (.Pass ⟨0, 0, 0, 0⟩)
abbrev s_BadLabel_init : Stmt := inClass (topS 4) 0
abbrev N_BadLabel_init : List Str := ["self", "label"]
theorem sc_BadLabel_init : FnScope N_BadLabel_init ["self", "label"] (defScope s_BadLabel_init) := ⟨rfl, rfl, rfl, by decide +kernel, rfl, by decide +kernel, by decide +kernel⟩
abbrev s_is_integer : Stmt := topS 7
abbrev N_is_integer : List Str := ["thing"]
theorem sc_is_integer : FnScope N_is_integer ["thing"] (defScope s_is_integer) := ⟨rfl, rfl, rfl, by decide +kernel, rfl, by decide +kernel, by decide +kernel⟩
abbrev s_is_within : Stmt := topS 8
abbrev N_is_within : List Str := ["thing", "least", "most"]
theorem sc_is_within : FnScope N_is_within ["thing", "least", "most"] (defScope s_is_within) := ⟨rfl, rfl, rfl, by decide +kernel, rfl, by decide +kernel, by decide +kernel⟩
abbrev s_is_tuple : Stmt := topS 9
abbrev N_is_tuple : List Str := ["thing"]
theorem sc_is_tuple : FnScope N_is_tuple ["thing"] (defScope s_is_tuple) := ⟨rfl, rfl, rfl, by decide +kernel, rfl, by decide +kernel, by decide +kernel⟩
abbrev s_is_sized : Stmt := topS 10
abbrev N_is_sized : List Str := ["thing", "least", "most"]
theorem sc_is_sized : FnScope N_is_sized ["thing", "least", "most"] (defScope s_is_sized) := ⟨rfl, rfl, rfl, by decide +kernel, rfl, by decide +kernel, by decide +kernel⟩
abbrev s_kept_label : Stmt := topS 13
abbrev N_kept_label : List Str := ["thing", "part"]
theorem sc_kept_label : FnScope N_kept_label ["thing"] (defScope s_kept_label) := ⟨rfl, rfl, rfl, by decide +kernel, rfl, by decide +kernel, by decide +kernel⟩
abbrev s_judged_label : Stmt := topS 14
abbrev N_judged_label : List Str := ["thing", "label"]
theorem sc_judged_label : FnScope N_judged_label ["thing"] (defScope s_judged_label) := ⟨rfl, rfl, rfl, by decide +kernel, rfl, by decide +kernel, by decide +kernel⟩
abbrev s_between : Stmt := topS 15
abbrev N_between : List Str := ["low", "high", "count", "label"]
theorem sc_between : FnScope N_between ["low", "high"] (defScope s_between) := ⟨rfl, rfl, rfl, by decide +kernel, rfl, by decide +kernel, by decide +kernel⟩
abbrev s_least_above : Stmt := topS 16
abbrev N_least_above : List Str := ["low", "count", "parts", "number", "part", "label", "_"]
theorem sc_least_above : FnScope N_least_above ["low", "count"] (defScope s_least_above) := ⟨rfl, rfl, rfl, by decide +kernel, rfl, by decide +kernel, by decide +kernel⟩
abbrev s_source : Stmt := topS 18
abbrev N_source : List Str := ["_law_script", "_law_k", "_law_cell", "_law_number", "_law_great"]
theorem sc_source : FnScope N_source ["_law_script", "_law_k"] (defScope s_source) := ⟨rfl, rfl, rfl, by decide +kernel, rfl, by decide +kernel, by decide +kernel⟩
abbrev s_pick : Stmt := topS 19
abbrev N_pick : List Str := ["_law_source_here", "_law_many", "_law_taken"]
theorem sc_pick : FnScope N_pick ["_law_source_here", "_law_many"] (defScope s_pick) := ⟨rfl, rfl, rfl, by decide +kernel, rfl, by decide +kernel, by decide +kernel⟩
abbrev s_law_is_integer : Stmt := topS 20
abbrev N_law_is_integer : List Str := ["_law_actual"]
theorem sc_law_is_integer : FnScope N_law_is_integer ["_law_actual"] (defScope s_law_is_integer) := ⟨rfl, rfl, rfl, by decide +kernel, rfl, by decide +kernel, by decide +kernel⟩
abbrev s_figure : Stmt := topS 21
abbrev N_figure : List Str := ["_law_source_here", "_law_least_here", "_law_way"]
theorem sc_figure : FnScope N_figure ["_law_source_here", "_law_least_here"] (defScope s_figure) := ⟨rfl, rfl, rfl, by decide +kernel, rfl, by decide +kernel, by decide +kernel⟩
abbrev s_label : Stmt := topS 22
abbrev N_label : List Str := ["_law_source_here", "_law_size", "_law_parts", "_law_step"]
theorem sc_label : FnScope N_label ["_law_source_here"] (defScope s_label) := ⟨rfl, rfl, rfl, by decide +kernel, rfl, by decide +kernel, by decide +kernel⟩
abbrev s_behind : Stmt := topS 23
abbrev N_behind : List Str := ["_law_source_here", "_law_low", "_law_way"]
theorem sc_behind : FnScope N_behind ["_law_source_here", "_law_low"] (defScope s_behind) := ⟨rfl, rfl, rfl, by decide +kernel, rfl, by decide +kernel, by decide +kernel⟩
abbrev s_two : Stmt := topS 24
abbrev N_two : List Str := ["_law_source_here", "_law_low", "_law_high", "_law_way"]
theorem sc_two : FnScope N_two ["_law_source_here"] (defScope s_two) := ⟨rfl, rfl, rfl, by decide +kernel, rfl, by decide +kernel, by decide +kernel⟩
abbrev s_odd : Stmt := topS 25
abbrev N_odd : List Str := ["_law_source_here", "_law_label_here", "_law_way", "_law_at", "_law_part"]
theorem sc_odd : FnScope N_odd ["_law_source_here", "_law_label_here"] (defScope s_odd) := ⟨rfl, rfl, rfl, by decide +kernel, rfl, by decide +kernel, by decide +kernel⟩
abbrev s_least : Stmt := topS 26
abbrev N_least : List Str := ["_law_low", "_law_size", "_law_number", "_law_step", "_law_parts"]
theorem sc_least : FnScope N_least ["_law_low", "_law_size"] (defScope s_least) := ⟨rfl, rfl, rfl, by decide +kernel, rfl, by decide +kernel, by decide +kernel⟩
abbrev s_due : Stmt := topS 27
abbrev N_due : List Str := ["_law_low", "_law_high", "_law_start", "_law_size", "_law_label_here"]
theorem sc_due : FnScope N_due ["_law_low", "_law_high"] (defScope s_due) := ⟨rfl, rfl, rfl, by decide +kernel, rfl, by decide +kernel, by decide +kernel⟩
abbrev s_is_label : Stmt := topS 28
abbrev N_is_label : List Str := ["_law_actual", "_law_due_here", "_law_part"]
theorem sc_is_label : FnScope N_is_label ["_law_actual", "_law_due_here"] (defScope s_is_label) := ⟨rfl, rfl, rfl, by decide +kernel, rfl, by decide +kernel, by decide +kernel⟩
abbrev s_asked : Stmt := topS 29
abbrev N_asked : List Str := ["_law_low", "_law_high", "_law_due_here", "_law_actual", "e", "_law_kinds"]
theorem sc_asked : FnScope N_asked ["_law_low", "_law_high", "_law_due_here"] (defScope s_asked) := ⟨rfl, rfl, rfl, by decide +kernel, rfl, by decide +kernel, by decide +kernel⟩
abbrev s_refused : Stmt := topS 30
abbrev N_refused : List Str := ["_law_low", "_law_high", "_law_thing", "e", "_law_kinds"]
theorem sc_refused : FnScope N_refused ["_law_low", "_law_high", "_law_thing"] (defScope s_refused) := ⟨rfl, rfl, rfl, by decide +kernel, rfl, by decide +kernel, by decide +kernel⟩
abbrev s_refused_as_base : Stmt := topS 31
abbrev N_refused_as_base : List Str := ["_law_low", "_law_high", "e"]
theorem sc_refused_as_base : FnScope N_refused_as_base ["_law_low", "_law_high"] (defScope s_refused_as_base) := ⟨rfl, rfl, rfl, by decide +kernel, rfl, by decide +kernel, by decide +kernel⟩
abbrev s_listed : Stmt := topS 32
abbrev N_listed : List Str := ["_law_label_here"]
theorem sc_listed : FnScope N_listed ["_law_label_here"] (defScope s_listed) := ⟨rfl, rfl, rfl, by decide +kernel, rfl, by decide +kernel, by decide +kernel⟩
abbrev s_lists_asked : Stmt := topS 33
abbrev N_lists_asked : List Str := ["_law_low", "_law_high", "_law_due_here", "_law_one", "_law_other"]
theorem sc_lists_asked : FnScope N_lists_asked ["_law_low", "_law_high", "_law_due_here"] (defScope s_lists_asked) := ⟨rfl, rfl, rfl, by decide +kernel, rfl, by decide +kernel, by decide +kernel⟩
abbrev s_law : Stmt := topS 34
abbrev N_law : List Str := ["_law_script", "_law_seen", "_law_k", "_law_source_here", "_law_low", "_law_high", "_law_due_here", "_law_label_here", "_law_odd_here", "_law_other", "_law_one"]
theorem sc_law : FnScope N_law ["_law_script"] (defScope s_law) := ⟨rfl, rfl, rfl, by decide +kernel, rfl, by decide +kernel, by decide +kernel⟩
structure Tab (K : PySem.W.Frag) (mg : Str → Option Value) where
  C_AfterError : Addr
  C_BadForm : Addr
  C_NotThere : Addr
  C_BadLabel : Addr
  C_NoRoom : Addr
  f_BadLabel_init : Addr
  d_BadLabel_init : FuncData
  F_BadLabel_init : Fun K "__init__" "BadLabel.__init__" s_BadLabel_init f_BadLabel_init d_BadLabel_init
  b_BadLabel_init : Binds K d_BadLabel_init ["self", "label"] []
  g_BadLabel_init : PySem.W.findIn K (.ref C_BadLabel) "__init__" = some (some (.ref f_BadLabel_init))
  f_is_integer : Addr
  d_is_integer : FuncData
  F_is_integer : Fun K "is_integer" "is_integer" s_is_integer f_is_integer d_is_integer
  b_is_integer : Binds K d_is_integer ["thing"] []
  g_is_integer : mg "is_integer" = some (.ref f_is_integer)
  f_is_within : Addr
  d_is_within : FuncData
  F_is_within : Fun K "is_within" "is_within" s_is_within f_is_within d_is_within
  b_is_within : Binds K d_is_within ["thing", "least", "most"] []
  g_is_within : mg "is_within" = some (.ref f_is_within)
  f_is_tuple : Addr
  d_is_tuple : FuncData
  F_is_tuple : Fun K "is_tuple" "is_tuple" s_is_tuple f_is_tuple d_is_tuple
  b_is_tuple : Binds K d_is_tuple ["thing"] []
  g_is_tuple : mg "is_tuple" = some (.ref f_is_tuple)
  f_is_sized : Addr
  d_is_sized : FuncData
  F_is_sized : Fun K "is_sized" "is_sized" s_is_sized f_is_sized d_is_sized
  b_is_sized : Binds K d_is_sized ["thing", "least", "most"] []
  g_is_sized : mg "is_sized" = some (.ref f_is_sized)
  f_kept_label : Addr
  d_kept_label : FuncData
  F_kept_label : Fun K "kept_label" "kept_label" s_kept_label f_kept_label d_kept_label
  b_kept_label : Binds K d_kept_label ["thing"] []
  g_kept_label : mg "kept_label" = some (.ref f_kept_label)
  f_judged_label : Addr
  d_judged_label : FuncData
  F_judged_label : Fun K "judged_label" "judged_label" s_judged_label f_judged_label d_judged_label
  b_judged_label : Binds K d_judged_label ["thing"] []
  g_judged_label : mg "judged_label" = some (.ref f_judged_label)
  f_between : Addr
  d_between : FuncData
  F_between : Fun K "between" "between" s_between f_between d_between
  b_between : Binds K d_between ["low", "high"] []
  g_between : mg "between" = some (.ref f_between)
  f_least_above : Addr
  d_least_above : FuncData
  F_least_above : Fun K "_least_above" "_least_above" s_least_above f_least_above d_least_above
  b_least_above : Binds K d_least_above ["low", "count"] []
  g_least_above : mg "_least_above" = some (.ref f_least_above)
  f_source : Addr
  d_source : FuncData
  F_source : Fun K "_law_source" "_law_source" s_source f_source d_source
  b_source : Binds K d_source ["_law_script", "_law_k"] []
  g_source : mg "_law_source" = some (.ref f_source)
  f_pick : Addr
  d_pick : FuncData
  F_pick : Fun K "_law_pick" "_law_pick" s_pick f_pick d_pick
  b_pick : Binds K d_pick ["_law_source_here", "_law_many"] []
  g_pick : mg "_law_pick" = some (.ref f_pick)
  f_law_is_integer : Addr
  d_law_is_integer : FuncData
  F_law_is_integer : Fun K "_law_is_integer" "_law_is_integer" s_law_is_integer f_law_is_integer d_law_is_integer
  b_law_is_integer : Binds K d_law_is_integer ["_law_actual"] []
  g_law_is_integer : mg "_law_is_integer" = some (.ref f_law_is_integer)
  f_figure : Addr
  d_figure : FuncData
  F_figure : Fun K "_law_figure" "_law_figure" s_figure f_figure d_figure
  b_figure : Binds K d_figure ["_law_source_here", "_law_least_here"] []
  g_figure : mg "_law_figure" = some (.ref f_figure)
  f_label : Addr
  d_label : FuncData
  F_label : Fun K "_law_label" "_law_label" s_label f_label d_label
  b_label : Binds K d_label ["_law_source_here"] []
  g_label : mg "_law_label" = some (.ref f_label)
  f_behind : Addr
  d_behind : FuncData
  F_behind : Fun K "_law_behind" "_law_behind" s_behind f_behind d_behind
  b_behind : Binds K d_behind ["_law_source_here", "_law_low"] []
  g_behind : mg "_law_behind" = some (.ref f_behind)
  f_two : Addr
  d_two : FuncData
  F_two : Fun K "_law_two" "_law_two" s_two f_two d_two
  b_two : Binds K d_two ["_law_source_here"] []
  g_two : mg "_law_two" = some (.ref f_two)
  f_odd : Addr
  d_odd : FuncData
  F_odd : Fun K "_law_odd" "_law_odd" s_odd f_odd d_odd
  b_odd : Binds K d_odd ["_law_source_here", "_law_label_here"] []
  g_odd : mg "_law_odd" = some (.ref f_odd)
  f_least : Addr
  d_least : FuncData
  F_least : Fun K "_law_least" "_law_least" s_least f_least d_least
  b_least : Binds K d_least ["_law_low", "_law_size"] []
  g_least : mg "_law_least" = some (.ref f_least)
  f_due : Addr
  d_due : FuncData
  F_due : Fun K "_law_due" "_law_due" s_due f_due d_due
  b_due : Binds K d_due ["_law_low", "_law_high"] []
  g_due : mg "_law_due" = some (.ref f_due)
  f_is_label : Addr
  d_is_label : FuncData
  F_is_label : Fun K "_law_is_label" "_law_is_label" s_is_label f_is_label d_is_label
  b_is_label : Binds K d_is_label ["_law_actual", "_law_due_here"] []
  g_is_label : mg "_law_is_label" = some (.ref f_is_label)
  f_asked : Addr
  d_asked : FuncData
  F_asked : Fun K "_law_asked" "_law_asked" s_asked f_asked d_asked
  b_asked : Binds K d_asked ["_law_low", "_law_high", "_law_due_here"] []
  g_asked : mg "_law_asked" = some (.ref f_asked)
  f_refused : Addr
  d_refused : FuncData
  F_refused : Fun K "_law_refused" "_law_refused" s_refused f_refused d_refused
  b_refused : Binds K d_refused ["_law_low", "_law_high", "_law_thing"] []
  g_refused : mg "_law_refused" = some (.ref f_refused)
  f_refused_as_base : Addr
  d_refused_as_base : FuncData
  F_refused_as_base : Fun K "_law_refused_as_base" "_law_refused_as_base" s_refused_as_base f_refused_as_base d_refused_as_base
  b_refused_as_base : Binds K d_refused_as_base ["_law_low", "_law_high"] []
  g_refused_as_base : mg "_law_refused_as_base" = some (.ref f_refused_as_base)
  f_listed : Addr
  d_listed : FuncData
  F_listed : Fun K "_law_listed" "_law_listed" s_listed f_listed d_listed
  b_listed : Binds K d_listed ["_law_label_here"] []
  g_listed : mg "_law_listed" = some (.ref f_listed)
  f_lists_asked : Addr
  d_lists_asked : FuncData
  F_lists_asked : Fun K "_law_lists_asked" "_law_lists_asked" s_lists_asked f_lists_asked d_lists_asked
  b_lists_asked : Binds K d_lists_asked ["_law_low", "_law_high", "_law_due_here"] []
  g_lists_asked : mg "_law_lists_asked" = some (.ref f_lists_asked)
  f_law : Addr
  d_law : FuncData
  F_law : Fun K "law" "law" s_law f_law d_law
  b_law : Binds K d_law ["_law_script"] []
  g_law : mg "law" = some (.ref f_law)
  cg_AfterError : mg "AfterError" = some (.ref C_AfterError)
  cg_BadForm : mg "BadForm" = some (.ref C_BadForm)
  cg_NotThere : mg "NotThere" = some (.ref C_NotThere)
  cg_BadLabel : mg "BadLabel" = some (.ref C_BadLabel)
  cg_NoRoom : mg "NoRoom" = some (.ref C_NoRoom)
  x_NoRoom : PySem.W.excIn K C_NoRoom [.type "ValueError", .type "Exception", .type "BaseException", .type "object"] "ValueError.__new__" = true
  k_NoRoom : PySem.W.keepIn K (.ref C_NoRoom) = true
  t_NoRoom : PySem.W.typeIn K (.ref C_NoRoom) = some (.type "type")
  hg_NoRoom : PySem.W.findIn K (.ref C_NoRoom) "__getattribute__" = some (some (.builtin "BaseException.__getattribute__"))
  hk_NoRoom : PySem.W.findIn K (.ref C_NoRoom) "__getattr__" = some none
  hs_NoRoom : PySem.W.subIn K (.ref C_NoRoom) (.type "BaseException") = some true
  hd_NoRoom : PySem.W.hasDictIn K C_NoRoom = true
  ha_NoRoom : PySem.W.findIn K (.ref C_NoRoom) "__class__" = some (some (.builtin "object.__class__"))
  hn_NoRoom : PySem.W.specialIn K (.builtin "object.__class__") "__get__" = some (some (.builtin "getset_descriptor.__get__"))
  ht_NoRoom : PySem.W.takesIn K (.builtin "object.__class__") = some true
  hm_NoRoom : PySem.W.mroIn K C_NoRoom (.type "object") = some true
  hg_BadLabel : PySem.W.findIn K (.ref C_BadLabel) "__getattribute__" = some (some (.builtin "BaseException.__getattribute__"))
  hk_BadLabel : PySem.W.findIn K (.ref C_BadLabel) "__getattr__" = some none
  hs_BadLabel : PySem.W.subIn K (.ref C_BadLabel) (.type "BaseException") = some true
  hd_BadLabel : PySem.W.hasDictIn K C_BadLabel = true
  ha_BadLabel : PySem.W.findIn K (.ref C_BadLabel) "__class__" = some (some (.builtin "object.__class__"))
  hn_BadLabel : PySem.W.specialIn K (.builtin "object.__class__") "__get__" = some (some (.builtin "getset_descriptor.__get__"))
  ht_BadLabel : PySem.W.takesIn K (.builtin "object.__class__") = some true
  hm_BadLabel : PySem.W.mroIn K C_BadLabel (.type "object") = some true
  o_BadLabel : OexC K C_BadLabel
  n_BadLabel_label : PySem.W.findIn K (.ref C_BadLabel) "label" = some none
  i_BadLabel : PySem.W.typeIn K (.ref f_BadLabel_init) = some (.type "function")
  q_NoRoom_AfterError : PySem.W.kitOne K (.ref C_NoRoom) (.ref C_AfterError) = some true
  q_NoRoom_ValueError : PySem.W.kitOne K (.ref C_NoRoom) (.type "ValueError") = some true
  q_NoRoom_BadForm : PySem.W.kitOne K (.ref C_NoRoom) (.ref C_BadForm) = some false
  q_NoRoom_NotThere : PySem.W.kitOne K (.ref C_NoRoom) (.ref C_NotThere) = some false
  q_BadLabel_BadForm : PySem.W.kitOne K (.ref C_BadLabel) (.ref C_BadForm) = some true
  q_BadLabel_AfterError : PySem.W.kitOne K (.ref C_BadLabel) (.ref C_AfterError) = some true
  q_BadLabel_NotThere : PySem.W.kitOne K (.ref C_BadLabel) (.ref C_NotThere) = some false
  q_BadLabel_BadLabel : PySem.W.kitOne K (.ref C_BadLabel) (.ref C_BadLabel) = some true
  q_BadLabel_ValueError : PySem.W.kitOne K (.ref C_BadLabel) (.type "ValueError") = some true
  q_BadLabel_NoRoom : PySem.W.kitOne K (.ref C_BadLabel) (.ref C_NoRoom) = some false
  e_NoRoom_NoRoom : PySem.W.exmOne K (.ref C_NoRoom) (.ref C_NoRoom) = some true
  e_BadLabel_BadLabel : PySem.W.exmOne K (.ref C_BadLabel) (.ref C_BadLabel) = some true
  e_BadLabel_AfterError : PySem.W.exmOne K (.ref C_BadLabel) (.ref C_AfterError) = some true
  t_MOST_PARTS : Tok
  c_MOST_PARTS : mg "MOST_PARTS" = some (.int 3 t_MOST_PARTS)
  m_ValueError : mg "ValueError" = none
  m_abs : mg "abs" = none
  m_all : mg "all" = none
  m_bool : mg "bool" = none
  m_int : mg "int" = none
  m_isinstance : mg "isinstance" = none
  m_len : mg "len" = none
  m_list : mg "list" = none
  m_max : mg "max" = none
  m_min : mg "min" = none
  m_range : mg "range" = none
  m_repr : mg "repr" = none
  m_str : mg "str" = none
  m_sum : mg "sum" = none
  m_tuple : mg "tuple" = none
/-! ### heaps and sources -/
theorem un2 {k : Nat} {A : Around} (r : Room k A) : A.units + 65 < cLine := by have := r.un; omega
theorem same_upd {H : Hp} {p : Addr} {o : HO} (h : H p = none) : Same H (upd H p o) := fun b x e => by
  rw [upd_ne (ne_of_none e h)]
  exact e
/-- all but a stand as they stood -/
def But (a : Addr) (H H' : Hp) : Prop := ∀ b o, b ≠ a → H b = some o → H' b = some o
theorem But.refl (a : Addr) (H : Hp) : But a H H := fun _ _ _ e => e
theorem But.trans {a : Addr} {H H1 H2 : Hp} (x : But a H H1) (y : But a H1 H2) : But a H H2 := fun b o n e => y b o n (x b o n e)
theorem But.of {a : Addr} {H H1 : Hp} (x : Same H H1) : But a H H1 := fun b o _ e => x b o e
theorem But.upd {a : Addr} {H : Hp} (o : HO) : But a H (upd H a o) := fun b u n e => by
  rw [upd_ne n]
  exact e
/-- what changes is not there at first -/
theorem But.same {a : Addr} {H0 H H' : Hp} (n : H0 a = none) (s : Same H0 H) (x : But a H H') : Same H0 H' := fun b o e => x b o (ne_of_none e n) (s b o e)
/-- a source of numbers: three ints -/
def Src (H : Hp) (a : Addr) : Prop := ∃ g x c : Int, H a = some (.lst [.int g, .int x, .int c])
theorem cut_map (ns : List Int) (lo hi : Option Int) : ∃ ms : List Int, cutV (ns.map V.int) lo hi = ms.map V.int := by
  unfold cutV
  exact ⟨_, by rw [← List.map_drop, ← List.map_take]⟩
theorem at_of' {α : Type} {xs : List α} {z : Int} {j : Nat} {v : α} (e : z = (j : Int)) (h : xs[j]? = some v) : atI xs z = some v := by
  subst e
  exact atI_nat h
theorem str_len_snoc (z : Str) (c : Nat) : (z ++ (⟨#[c]⟩ : Str)).length = z.length + 1 := by
  show (z.cps ++ #[c]).size = z.cps.size + 1
  rw [Array.size_append]
  rfl
theorem But.none {a D : Addr} {H H3 : Hp} (x : But a H H3) (n : H3 D = .none) (h : D ≠ a) : H D = .none := by
  cases e : H D with
  | none => rfl
  | some o =>
    rw [x D o h e] at n
    cases n
theorem But.put {a D : Addr} {H H' : Hp} (x : But a H H') (n : H D = .none) (o : HO) : But a H (L2.upd H' D o) := fun b u nb e => by
  rw [upd_ne (ne_of_none e n)]
  exact x b u nb e
theorem Src.put {a D : Addr} {H : Hp} (x : Src H a) (n : a ≠ D) (o : HO) : Src (upd H D o) a := by
  obtain ⟨g, y, c, e⟩ := x
  exact ⟨g, y, c, by rw [upd_ne n]; exact e⟩
theorem Src.ne {a D : Addr} {H : Hp} (x : Src H a) (n : H D = .none) : a ≠ D := by
  obtain ⟨g, y, c, e⟩ := x
  exact ne_of_none e n
theorem get_map {xs : List Str} {i : Nat} {x : V} (h : (xs.map V.str)[i]? = some x) : ∃ z, x = .str z ∧ xs[i]? = some z := by
  rw [List.getElem?_map] at h
  cases e : xs[i]? with
  | none => rw [e] at h; cases h
  | some z => rw [e] at h; exact ⟨z, (Option.some.inj h).symm, rfl⟩
theorem get_mapR {xs : List Addr} {i : Nat} {x : V} (h : (xs.map V.ref)[i]? = some x) : ∃ z, x = .ref z ∧ z ∈ xs := by
  rw [List.getElem?_map] at h
  cases e : xs[i]? with
  | none => rw [e] at h; cases h
  | some z => rw [e] at h; exact ⟨z, (Option.some.inj h).symm, List.mem_of_getElem? e⟩
section
variable {X : Cx} {tg e : Expr} {w1 w2 : TI}
theorem pi_or (a : PI X tg e w1) (b : PI X tg e w2) : PI X tg e (fun σ H R => w1 σ H R ∨ w2 σ H R) :=
  ⟨fun pins s σ H R I h => h.elim (fun h => a.run pins s σ H R I h) (fun h => b.run pins s σ H R I h)⟩
theorem op_rep_str : OpR X (binaryOp .Mult) (fun x y H Q => ∃ z n, x = .str z ∧ y = .int n ∧ PySem.MulOk z n ∧ Q (.str (Txt.mul z n)) H) := by
  intro pins s σ H x y v u Q I rx ry h
  obtain ⟨z, n, rfl, rfl, hm, q⟩ := h
  obtain ⟨t, rfl⟩ := rx
  obtain ⟨t', rfl⟩ := ry
  exact PySem.SB.mul hm (fun t' tk => ⟨.str _, H, I.tok _, ⟨_, rfl⟩, q⟩)
end
theorem eq_strs {K : PySem.W.Frag} {H : Hp} : ∀ zs : List Str, Paired (EqV K H 1) (zs.map V.str) (zs.map V.str)
  | [] => .nil
  | z :: r => .cons (.inl ⟨rfl, rfl⟩) (eq_strs r)
theorem same_seqT {K : PySem.W.Frag} {H H' : Hp} {a : Addr} {xs : List V} (e : Same H H') (h : SqT K H a xs) : SqT K H' a xs :=
  h.elim (fun r => .inl (r.elim (fun e1 => .inl (e _ _ e1)) (fun ⟨o, e1⟩ => .inr ⟨o, e _ _ e1⟩))) .inr
theorem same_sq {K : PySem.W.Frag} {H H' : Hp} {a : Addr} {xs : List V} (e : Same H H') (h : SqL K H a xs ∨ SqT K H a xs) : SqL K H' a xs ∨ SqT K H' a xs :=
  h.elim (fun h => .inl (e.seq h)) (fun h => .inr (same_seqT e h))
theorem same_put {H H' : Hp} {b : Addr} (x : Same H H') (n : H b = .none) (o : HO) : Same H (upd H' b o) := fun c u e => by
  rw [upd_ne (ne_of_none e n)]
  exact x c u e
/-! ### == of rows of texts and of numbers -/
theorem dp_strs {K : PySem.W.Frag} {H : Hp} : ∀ zs : List Str, DpAll K H (zs.map V.str) (zs.map PyData.str)
  | [] => .nil
  | z :: r => .cons (.str z) (dp_strs r)
theorem dp_ints {K : PySem.W.Frag} {H : Hp} : ∀ zs : List Int, DpAll K H (zs.map V.int) (zs.map PyData.int)
  | [] => .nil
  | z :: r => .cons (.int z) (dp_ints r)
theorem can_strs : ∀ zs : List Str, (∀ z ∈ zs, PyData.strOk z = true) → PyData.canLayAll0 (zs.map PyData.str) = true
  | [], _ => rfl
  | z :: r, h => by
    show (PyData.strOk z && PyData.canLayAll0 (r.map PyData.str)) = true
    rw [can_strs r fun y hy => h y (List.mem_cons_of_mem _ hy), Bool.and_true]
    exact h z (List.mem_cons_self ..)
theorem can_ints : ∀ zs : List Int, PyData.canLayAll0 (zs.map PyData.int) = true
  | [] => rfl
  | z :: r => by
    show (true && PyData.canLayAll0 (r.map PyData.int)) = true
    rw [can_ints r]
    rfl
theorem depth_strs : ∀ zs : List Str, PyData.depthAll (zs.map PyData.str) = 0
  | [] => rfl
  | z :: r => by
    show max 0 (PyData.depthAll (r.map PyData.str)) = 0
    rw [depth_strs r]
    rfl
theorem depth_ints : ∀ zs : List Int, PyData.depthAll (zs.map PyData.int) = 0
  | [] => rfl
  | z :: r => by
    show max 0 (PyData.depthAll (r.map PyData.int)) = 0
    rw [depth_ints r]
    rfl
theorem shaped_l (zs : List Str) (h : ∀ z ∈ zs, PyData.strOk z = true) : SeqAt.shaped (.list (zs.map PyData.str)) = true := by
  unfold SeqAt.shaped
  rw [Bool.and_eq_true]
  refine ⟨can_strs zs h, decide_eq_true ?_⟩
  show PyData.depthAll (zs.map PyData.str) + 1 ≤ 64
  rw [depth_strs]
  decide
theorem shaped_t (zs : List Str) (h : ∀ z ∈ zs, PyData.strOk z = true) : SeqAt.shaped (.tuple (zs.map PyData.str)) = true := by
  unfold SeqAt.shaped
  rw [Bool.and_eq_true]
  refine ⟨can_strs zs h, decide_eq_true ?_⟩
  show PyData.depthAll (zs.map PyData.str) + 1 ≤ 64
  rw [depth_strs]
  decide
theorem shaped_il (zs : List Int) : SeqAt.shaped (.list (zs.map PyData.int)) = true := by
  unfold SeqAt.shaped
  rw [Bool.and_eq_true]
  refine ⟨can_ints zs, decide_eq_true ?_⟩
  show PyData.depthAll (zs.map PyData.int) + 1 ≤ 64
  rw [depth_ints]
  decide
theorem shaped_it (zs : List Int) : SeqAt.shaped (.tuple (zs.map PyData.int)) = true := by
  unfold SeqAt.shaped
  rw [Bool.and_eq_true]
  refine ⟨can_ints zs, decide_eq_true ?_⟩
  show PyData.depthAll (zs.map PyData.int) + 1 ≤ 64
  rw [depth_ints]
  decide
theorem eqv_strs : ∀ xs ys : List Str, PyData.eqvAll (xs.map PyData.str) (ys.map PyData.str) = decide (xs = ys)
  | [], [] => rfl
  | [], y :: s => rfl
  | x :: r, [] => rfl
  | x :: r, y :: s => by
    show ((x == y) && PyData.eqvAll (r.map PyData.str) (s.map PyData.str)) = decide (x :: r = y :: s)
    rw [eqv_strs r s]
    by_cases h : x = y
    · subst h
      simp
    · simp [h]
theorem eqv_ints : ∀ xs ys : List Int, PyData.eqvAll (xs.map PyData.int) (ys.map PyData.int) = decide (xs = ys)
  | [], [] => rfl
  | [], y :: s => rfl
  | x :: r, [] => rfl
  | x :: r, y :: s => by
    show ((x == y) && PyData.eqvAll (r.map PyData.int) (s.map PyData.int)) = decide (x :: r = y :: s)
    rw [eqv_ints r s]
    by_cases h : x = y
    · subst h
      simp
    · simp [h]
theorem ok_app (a b : Str) (ha : PyData.strOk a = true) (hb : PyData.strOk b = true) : PyData.strOk (a ++ b) = true := by
  show (a.cps ++ b.cps).all (· < 0x110000) = true
  rw [Array.all_append]
  exact Bool.and_eq_true_iff.mpr ⟨ha, hb⟩
/-! ### labels, pages, ranges as words -/
def rdN : List Nat → Option Int
  | [a] => if 48 ≤ a ∧ a ≤ 57 then some ((a : Int) - 48) else none
  | [a, b] => if (48 < a ∧ a ≤ 57) ∧ (48 ≤ b ∧ b ≤ 57) then some (((a : Int) - 48) * 10 + ((b : Int) - 48)) else none
  | _ => none
def rdI (z : Str) : Option Int := rdN z.cps.toList
def allSome : List (Option Int) → Option (List Int)
  | [] => some []
  | none :: _ => none
  | some i :: r => match allSome r with | some L => some (i :: L) | none => none
def keep (os : List (Option Int)) : Option (List Int) :=
  match allSome os with
  | some L => if L.length ≤ 3 ∧ L.getLastD 0 ≠ 0 then some L else none
  | none => none
def rdL (z : Str) : Option (List Int) := keep ((Txt.split z ".").map rdI)
abbrev Pg := List Int × Int
def rdP (z : Str) : Option Pg :=
  match z.cps.toList.getLast? with
  | some c => if c = 97 ∨ c = 98 then (match rdL (cutS z none (some (-1))) with | some L => some (L, (c : Int) - 97) | none => none) else none
  | none => none
def rdR (z : Str) : Option (Pg × Pg) :=
  match (Txt.split z "-").map rdP with
  | [some p] => some (p, p)
  | [some p, some q] => some (p, q)
  | _ => none
def rdR2 : List (Option Pg) → Option (Pg × Pg)
  | [some p] => some (p, p)
  | [some p, some q] => some (p, q)
  | _ => none
theorem rdR_eq (z : Str) : rdR z = rdR2 ((Txt.split z "-").map rdP) := by
  unfold rdR
  generalize (Txt.split z "-").map rdP = ps
  match ps with
  | [] => rfl
  | [none] => rfl
  | [some p] => rfl
  | [none, b] => rfl
  | [some p, none] => rfl
  | [some p, some q] => rfl
  | none :: b :: c :: r => rfl
  | some a :: none :: c :: r => rfl
  | some a :: some b :: c :: r => rfl
def okL (L : List Int) : Prop := L.length ≤ 3 ∧ L.getLastD 0 ≠ 0 ∧ ∀ i ∈ L, 0 ≤ i ∧ i ≤ 99
def okP (p : Pg) : Prop := okL p.1 ∧ (p.2 = 0 ∨ p.2 = 1)
def fL (L : List Int) : Str := Txt.join "." (L.map fun i => (toString i : Str))
def fP (p : Pg) : Str := fL p.1 ++ (if p.2 = 0 then ("a" : Str) else "b")
def fR (p q : Pg) : Str := if fP p = fP q then fP p else fP p ++ "-" ++ fP q
def dL (L : List Int) : PyData := .tuple (L.map PyData.int)
def dP (p : Pg) : PyData := .tuple [dL p.1, .int p.2]
def dR (r : Pg × Pg) : PyData := .tuple [dP r.1, dP r.2]
def oD {α : Type} (f : α → PyData) : Option α → PyData
  | none => .none
  | some x => f x
def optI : Option Int → V
  | none => .non
  | some i => .int i
theorem num_all : ((List.range 100).all fun i => decide (((toString (i : Int) : Str)).length ≤ 2) && decide (1 ≤ ((toString (i : Int) : Str)).length) && ((toString (i : Int) : Str)).cps.toList.all (fun c => decide (48 ≤ c ∧ c ≤ 57)) && decide (rdI (toString (i : Int)) = some (i : Int))) = true := by decide +kernel
theorem num_ok {i : Int} (h0 : 0 ≤ i) (h1 : i ≤ 99) : ((toString i : Str)).length ≤ 2 ∧ 1 ≤ ((toString i : Str)).length ∧ (∀ c ∈ ((toString i : Str)).cps.toList, 48 ≤ c ∧ c ≤ 57) ∧ rdI (toString i) = some i := by
  have h := List.all_eq_true.mp num_all i.toNat (List.mem_range.mpr (by omega))
  rw [Int.toNat_of_nonneg h0] at h
  simp only [Bool.and_eq_true, decide_eq_true_eq, List.all_eq_true] at h
  exact ⟨h.1.1.1, h.1.1.2, h.1.2, h.2⟩
theorem int_all : ((List.range 10).all fun i => decide (PySem.intText? (⟨#[48 + i]⟩ : Str) = some (i : Int)) && (List.range 10).all fun j => decide (PySem.intText? (⟨#[48 + i, 48 + j]⟩ : Str) = some ((i : Int) * 10 + (j : Int)))) = true := by decide +kernel
theorem int1 {a : Nat} (h : 48 ≤ a ∧ a ≤ 57) : PySem.intText? (⟨#[a]⟩ : Str) = some ((a : Int) - 48) := by
  have h1 := List.all_eq_true.mp int_all (a - 48) (List.mem_range.mpr (by omega))
  simp only [Bool.and_eq_true, decide_eq_true_eq] at h1
  have h2 := h1.1
  rw [show 48 + (a - 48) = a by omega] at h2
  rw [h2]
  congr 1
  omega
theorem int2 {a b : Nat} (h : 48 ≤ a ∧ a ≤ 57) (hb : 48 ≤ b ∧ b ≤ 57) : PySem.intText? (⟨#[a, b]⟩ : Str) = some (((a : Int) - 48) * 10 + ((b : Int) - 48)) := by
  have h1 := List.all_eq_true.mp int_all (a - 48) (List.mem_range.mpr (by omega))
  simp only [Bool.and_eq_true, decide_eq_true_eq] at h1
  have h2 := List.all_eq_true.mp h1.2 (b - 48) (List.mem_range.mpr (by omega))
  simp only [decide_eq_true_eq] at h2
  rw [show 48 + (a - 48) = a by omega, show 48 + (b - 48) = b by omega] at h2
  rw [h2]
  congr 1
  omega
theorem rd_bound {z : Str} {i : Int} (h : rdI z = some i) : 0 ≤ i ∧ i ≤ 99 := by
  unfold rdI at h
  match e : z.cps.toList with
  | [] => rw [e] at h; cases h
  | [a] =>
    rw [e] at h
    simp only [rdN] at h
    split at h
    · injection h with h; omega
    · cases h
  | [a, b] =>
    rw [e] at h
    simp only [rdN] at h
    split at h
    · injection h with h; omega
    · cases h
  | a :: b :: c :: r => rw [e] at h; cases h
theorem allSome_map (L : List Int) : allSome (L.map some) = some L := by
  induction L with
  | nil => rfl
  | cons i r ih => rw [List.map_cons]; unfold allSome; rw [ih]
theorem keep_ok {L : List Int} (h : okL L) : keep (L.map some) = some L := by
  unfold keep
  rw [allSome_map]
  simp only
  rw [if_pos ⟨h.1, h.2.1⟩]
theorem okL_ne {L : List Int} (h : okL L) : L ≠ [] := fun e => by
  subst e
  exact h.2.1 rfl
theorem rdL_fL {L : List Int} (h : okL L) : rdL (fL L) = some L := by
  unfold rdL fL
  rw [TL.split_join (s := 46) (S := []) (by rfl) (by decide +kernel) (fun e => okL_ne h (List.map_eq_nil_iff.mp e)) fun p hp => ?_]
  · rw [List.map_map]
    have e : L.map (rdI ∘ fun i => (toString i : Str)) = L.map some := List.map_congr_left fun i hi => (num_ok (h.2.2 i hi).1 (h.2.2 i hi).2).2.2.2
    rw [e, keep_ok h]
  · obtain ⟨i, hi, rfl⟩ := List.mem_map.mp hp
    intro hc
    have := (num_ok (h.2.2 i hi).1 (h.2.2 i hi).2).2.2.1 46 hc
    omega
theorem cut_m1 (z : Str) (c : Nat) : cutS (z ++ (⟨#[c]⟩ : Str)) none (some (-1)) = z := by
  unfold cutS
  have e : (z ++ (⟨#[c]⟩ : Str)).cps.toList = z.cps.toList ++ [c] := cps_toList_append z _
  have l : (z ++ (⟨#[c]⟩ : Str)).length = z.length + 1 := str_len_snoc z c
  rw [e, HT.sIx_none, List.drop_zero, l]
  rw [show HT.sIx (z.length + 1) (z.length + 1) (some (-1)) = z.length by
    show ((-1 : Int) + ((z.length + 1 : Nat) : Int)).toNat = z.length
    omega]
  rw [Nat.sub_zero, List.take_left' (show z.cps.toList.length = z.length from rfl)]
theorem rdP_fP {p : Pg} (h : okP p) : rdP (fP p) = some p := by
  obtain ⟨L, s⟩ := p
  obtain ⟨hL, hs⟩ := h
  have key : ∀ c : Nat, rdP (fL L ++ (⟨#[c]⟩ : Str)) = if c = 97 ∨ c = 98 then some (L, (c : Int) - 97) else none := fun c => by
    unfold rdP
    rw [show (fL L ++ (⟨#[c]⟩ : Str)).cps.toList = (fL L).cps.toList ++ [c] from cps_toList_append _ _, List.getLast?_append, cut_m1, rdL_fL hL]
    rfl
  rcases hs with rfl | rfl
  · exact key 97
  · exact key 98
theorem fP_inj {p q : Pg} (hp : okP p) (hq : okP q) (e : fP p = fP q) : p = q := by
  have h := rdP_fP hp
  rw [e, rdP_fP hq] at h
  exact (Option.some.inj h).symm
theorem fL_free {L : List Int} (h : okL L) : ∀ c ∈ (fL L).cps.toList, c ≠ 45 := by
  intro c hc e
  subst e
  unfold fL at hc
  rw [TL.join_eq] at hc
  rcases (mem_join _ _ _).mp hc with ⟨t, ht, h1⟩ | ⟨_, h1⟩
  · obtain ⟨i, hi, rfl⟩ := List.mem_map.mp ht
    have := (num_ok (h.2.2 i hi).1 (h.2.2 i hi).2).2.2.1 45 h1
    omega
  · revert h1
    decide +kernel
theorem fP_free {p : Pg} (h : okP p) : 45 ∉ TL.tl (fP p) := by
  intro hc
  have hc2 : 45 ∈ (fP p).cps.toList := hc
  unfold fP at hc2
  rw [cps_toList_append] at hc2
  rcases List.mem_append.mp hc2 with h1 | h1
  · exact fL_free h.1 45 h1 rfl
  · split at h1 <;> (revert h1; decide +kernel)
theorem rdR_two {p q : Pg} (hp : okP p) (hq : okP q) : rdR (fP p ++ "-" ++ fP q) = some (p, q) := by
  unfold rdR
  have e : fP p ++ "-" ++ fP q = Txt.join "-" [fP p, fP q] := by rw [TL.join_eq]; rfl
  rw [e, TL.split_join (s := 45) (S := []) (by rfl) (by decide +kernel) (by simp) fun z hz => ?_]
  · simp only [List.map_cons, List.map_nil, rdP_fP hp, rdP_fP hq]
  · rcases List.mem_cons.mp hz with h | h
    · rw [h]; exact fP_free hp
    · rw [List.mem_singleton.mp h]; exact fP_free hq
theorem rdR_one {p : Pg} (hp : okP p) : rdR (fP p) = some (p, p) := by
  unfold rdR
  have e : fP p = Txt.join "-" [fP p] := by rw [TL.join_eq]; rfl
  rw [e, TL.split_join (s := 45) (S := []) (by rfl) (by decide +kernel) (by simp) fun z hz => ?_]
  · simp only [List.map_cons, List.map_nil]
    rw [rdP_fP hp]
  · rw [List.mem_singleton.mp hz]; exact fP_free hp
theorem rdR_fR {p q : Pg} (hp : okP p) (hq : okP q) : rdR (fR p q) = some (p, q) := by
  unfold fR
  split
  · rename_i e
    rw [← fP_inj hp hq e]
    exact rdR_one hp
  · exact rdR_two hp hq
theorem fL_len {L : List Int} (h : okL L) : (fL L).length ≤ 8 ∧ 1 ≤ (fL L).length := by
  have hn := okL_ne h
  have l1 : ("." : Str).length = 1 := by decide +kernel
  have ap : ∀ x y : Str, (x ++ y).length = x.length + y.length := fun x y => by
    show (x.cps ++ y.cps).size = _
    rw [Array.size_append]; rfl
  have nn := fun i hi => num_ok (h.2.2 i hi).1 (h.2.2 i hi).2
  unfold fL
  rw [TL.join_eq]
  match L, h, hn, nn with
  | [a], _, _, nn =>
    have := nn a (List.mem_singleton.mpr rfl)
    show ((toString a : Str)).length ≤ 8 ∧ 1 ≤ ((toString a : Str)).length
    omega
  | [a, b], _, _, nn =>
    have h1 := nn a (by simp)
    have h2 := nn b (by simp)
    show ((toString a : Str) ++ "." ++ (toString b : Str)).length ≤ 8 ∧ 1 ≤ ((toString a : Str) ++ "." ++ (toString b : Str)).length
    rw [ap, ap, l1]
    omega
  | [a, b, c], _, _, nn =>
    have h1 := nn a (by simp)
    have h2 := nn b (by simp)
    have h3 := nn c (by simp)
    show ((toString a : Str) ++ "." ++ ((toString b : Str) ++ "." ++ (toString c : Str))).length ≤ 8 ∧ 1 ≤ ((toString a : Str) ++ "." ++ ((toString b : Str) ++ "." ++ (toString c : Str))).length
    rw [ap, ap, ap, ap, l1]
    omega
  | a :: b :: c :: d :: r, h, _, _ => have := h.1; simp only [List.length_cons] at this; omega
theorem fP_len {p : Pg} (h : okP p) : (fP p).length ≤ 9 ∧ 2 ≤ (fP p).length := by
  have h1 := fL_len h.1
  have ap : ∀ x y : Str, (x ++ y).length = x.length + y.length := fun x y => by
    show (x.cps ++ y.cps).size = _
    rw [Array.size_append]; rfl
  unfold fP
  rw [ap]
  have : (if p.2 = 0 then ("a" : Str) else "b").length = 1 := by split <;> decide +kernel
  omega
/-! ### data in the heap -/
def Seq (K : PySem.W.Frag) (H : Hp) (a : Addr) (xs : List V) : Prop := SqL K H a xs ∨ SqT K H a xs
def PageAt (K : PySem.W.Frag) (H : Hp) (v : V) (p : Pg) : Prop := ∃ a l : Addr, v = .ref a ∧ Seq K H a [.ref l, .int p.2] ∧ Seq K H l (p.1.map V.int)
theorem ty_L {K : PySem.W.Frag} {H : Hp} {a : Addr} {xs : List V} (h : SqL K H a xs) : TyX K H (.ref a) (.type "list") := by
  rcases h with (h | ⟨o, h⟩) | ⟨o, its, n, h, c, _⟩
  · exact .base (.lst h)
  · exact .base (.frz h)
  · exact .kList h c
theorem ty_T {K : PySem.W.Frag} {H : Hp} {a : Addr} {xs : List V} (h : SqT K H a xs) : TyX K H (.ref a) (.type "tuple") := by
  rcases h with (h | ⟨o, h⟩) | ⟨o, its, n, h, c, _⟩
  · exact .base (.tup h)
  · exact .fTuple h
  · exact .kTuple h c
theorem kit2_T {K : PySem.W.Frag} : PySem.W.kitAny K (.type "tuple") [.type "tuple", .type "list"] = some true :=
  kitAny_cons (kit_ty (r := true) (by decide +kernel)) (fun h => nomatch h) (fun _ => rfl)
theorem kit2_L {K : PySem.W.Frag} : PySem.W.kitAny K (.type "list") [.type "tuple", .type "list"] = some true :=
  kitAny_cons (kit_ty (r := false) (by decide +kernel)) (fun _ => kitAny_cons (kit_ty (r := true) (by decide +kernel)) (fun h => nomatch h) (fun _ => rfl)) (fun h => nomatch h)
mutual
theorem dp_same {K : PySem.W.Frag} {H H' : Hp} (e : Same H H') : ∀ {v : V} {d : PyData}, Dp K H v d → Dp K H' v d
  | _, _, .non => .non
  | _, _, .bl b => .bl b
  | _, _, .int i => .int i
  | _, _, .str x => .str x
  | _, _, .lst h a => .lst (e.seq h) (dpAll_same e a)
  | _, _, .tup h a => .tup (same_seqT e h) (dpAll_same e a)
theorem dpAll_same {K : PySem.W.Frag} {H H' : Hp} (e : Same H H') : ∀ {vs : List V} {ds : List PyData}, DpAll K H vs ds → DpAll K H' vs ds
  | _, _, .nil => .nil
  | _, _, .cons h a => .cons (dp_same e h) (dpAll_same e a)
end
theorem dpL {K : PySem.W.Frag} {H : Hp} {a : Addr} {L : List Int} (h : SqT K H a (L.map V.int)) : Dp K H (.ref a) (dL L) := .tup h (dp_ints L)
theorem dp_ints_inv {K : PySem.W.Frag} {H : Hp} : ∀ {L : List Int} {vs : List V}, DpAll K H vs (L.map PyData.int) → vs = L.map V.int
  | [], _, .nil => rfl
  | i :: r, _, .cons h a => by
    cases h
    rw [dp_ints_inv a]
    rfl
theorem dL_inv {K : PySem.W.Frag} {H : Hp} {v : V} {L : List Int} (h : Dp K H v (dL L)) : ∃ a, v = .ref a ∧ SqT K H a (L.map V.int) := by
  cases h with
  | tup h a =>
    rw [dp_ints_inv a] at h
    exact ⟨_, rfl, h⟩
theorem dP_inv {K : PySem.W.Frag} {H : Hp} {v : V} {p : Pg} (h : Dp K H v (dP p)) : ∃ a l, v = .ref a ∧ SqT K H a [.ref l, .int p.2] ∧ SqT K H l (p.1.map V.int) := by
  cases h with
  | tup h a =>
    cases a with
    | cons h1 a =>
      cases a with
      | cons h2 a =>
        cases a
        cases h2
        obtain ⟨l, rfl, hl⟩ := dL_inv h1
        exact ⟨_, l, rfl, h, hl⟩
theorem dR_inv {K : PySem.W.Frag} {H : Hp} {v : V} {r : Pg × Pg} (h : Dp K H v (dR r)) : ∃ a x y, v = .ref a ∧ SqT K H a [x, y] ∧ Dp K H x (dP r.1) ∧ Dp K H y (dP r.2) := by
  cases h with
  | tup h a =>
    cases a with
    | cons h1 a =>
      cases a with
      | cons h2 a =>
        cases a
        exact ⟨_, _, _, rfl, h, h1, h2⟩
theorem pageAt_of {K : PySem.W.Frag} {H : Hp} {v : V} {p : Pg} (h : Dp K H v (dP p)) : PageAt K H v p := by
  obtain ⟨a, l, rfl, h1, h2⟩ := dP_inv h
  exact ⟨a, l, rfl, .inr h1, .inr h2⟩
theorem pageAt_same {K : PySem.W.Frag} {H H' : Hp} (e : Same H H') {v : V} {p : Pg} (h : PageAt K H v p) : PageAt K H' v p := by
  obtain ⟨a, l, rfl, h1, h2⟩ := h
  exact ⟨a, l, rfl, same_sq e h1, same_sq e h2⟩
theorem dp_opt {K : PySem.W.Frag} {H : Hp} {v : V} {α : Type} {f : α → PyData} (h : Dp K H v (oD f none)) : v = .non := by
  cases h
  rfl
theorem log_small {n : Nat} (h : n ≤ 99) : n.log2 < 1920 := Nat.lt_of_le_of_lt (Nat.log2_le_self n) (by omega)
section
variable {X : Cx} {e : Expr} {t u : TG}
theorem pg_or (a : PG X e t) (b : PG X e u) : PG X e (fun v σ H Q => t v σ H Q ∨ u v σ H Q) :=
  ⟨fun pins s σ H v w Q I r h => h.elim (fun h => a.run pins s σ H v w Q I r h) (fun h => b.run pins s σ H v w Q I r h)⟩
end
def dg (c : Nat) : Bool := decide (48 ≤ c ∧ c ≤ 57)
theorem dig_in (c : Nat) : decide (c ∈ ("0123456789" : Str).cps.toList) = dg c := by
  have e : ("0123456789" : Str).cps.toList = [48, 49, 50, 51, 52, 53, 54, 55, 56, 57] := by decide +kernel
  unfold dg
  rw [e]
  apply decide_eq_decide.mpr
  simp only [List.mem_cons, List.not_mem_nil, or_false]
  omega
theorem str1 {z : Str} {a : Nat} (h : z.cps.toList = [a]) : z = ⟨#[a]⟩ := TL.ext_tl h
theorem str2 {z : Str} {a b : Nat} (h : z.cps.toList = [a, b]) : z = ⟨#[a, b]⟩ := TL.ext_tl h
theorem len_cps (z : Str) : z.length = z.cps.toList.length := rfl
theorem zero_ne2 (a b : Nat) : (V.str ⟨#[a, b]⟩ = V.str "0") = False := by
  apply propext
  refine ⟨fun h => ?_, False.elim⟩
  injection h with h
  have := congrArg (fun s : Str => s.cps.size) h
  cases this
theorem zero_eq1 (a : Nat) : (V.str ⟨#[a]⟩ = V.str "0") = (a = 48) := by
  apply propext
  refine ⟨fun h => ?_, fun h => by subst h; rfl⟩
  injection h with h
  injection h with h
  exact (List.cons.inj (congrArg Array.toList h)).1
theorem split_cnt (x y : Str) (hy : 1 ≤ y.length) : (Txt.split x y).length ≤ x.length + 1 := by
  have := split_weight x y hy
  omega
theorem mem_sum {zs : List Str} {z : Str} (h : z ∈ zs) : z.length + zs.length ≤ (zs.map (·.length)).sum + zs.length := by
  have : z.length ≤ (zs.map (·.length)).sum := by
    induction zs with
    | nil => cases h
    | cons y r ih =>
      rw [List.map_cons, List.sum_cons]
      rcases List.mem_cons.mp h with e | e
      · rw [e]; omega
      · have := ih e; omega
  omega
theorem split_part (x y : Str) (hy : 1 ≤ y.length) {z : Str} (h : z ∈ Txt.split x y) : z.length ≤ x.length := by
  have h1 := split_weight x y hy
  have h2 := mem_sum h
  have h3 : 1 ≤ (Txt.split x y).length := List.length_pos_of_mem h
  omega
theorem rdI_some {os : List Str} {i : Int} (h : some i ∈ os.map rdI) : 0 ≤ i ∧ i ≤ 99 := by
  obtain ⟨z, _, e⟩ := List.mem_map.mp h
  exact rd_bound e
theorem some_bound {L : List Int} (h : okL L) {i : Int} (hi : some i ∈ L.map some) : 0 ≤ i ∧ i ≤ 99 := by
  obtain ⟨j, hj, e⟩ := List.mem_map.mp hi
  injection e with e
  subst e
  exact h.2.2 _ hj
theorem optI_map (L : List Int) : (L.map some).map optI = L.map V.int := by
  rw [List.map_map]
  rfl
theorem num_fit {L : List Int} (h : okL L) : ((L.map fun i => (toString i : Str)).map (·.length)).sum + (L.map fun i => (toString i : Str)).length * ("." : Str).length ≤ 16777216 := by
  have l1 : ("." : Str).length = 1 := by decide +kernel
  have h1 : ((L.map fun i => (toString i : Str)).map (·.length)).sum ≤ 2 * L.length := by
    have hb := h.2.2
    clear h
    induction L with
    | nil => exact Nat.le_refl _
    | cons i r ih =>
      have hi := num_ok (hb i (List.mem_cons_self ..)).1 (hb i (List.mem_cons_self ..)).2
      have := ih fun j hj => hb j (List.mem_cons_of_mem _ hj)
      simp only [List.map_cons, List.sum_cons, List.length_cons]
      omega
  have h2 := h.1
  rw [l1, List.length_map]
  omega
theorem split_ne (x y : Str) : Txt.split x y ≠ [] := by
  unfold Txt.split
  split
  · simp
  · split
    · simp
    · rw [StrLaws.partsBetween_eq]
      intro h
      generalize Builtin.Str.occurrences x y 0 x.length (x.length + 1) = cuts at h
      cases cuts with
      | nil => cases h
      | cons c r => cases h
theorem seqT_but {K : PySem.W.Frag} {H H' : Hp} {a p : Addr} {xs ys : List V} (ha : H a = some (.lst xs)) (b : But a H H') (h : SqT K H p ys) : SqT K H' p ys :=
  h.elim (fun r => .inl (r.elim (fun e => .inl (b p _ (ne_of e ha (by intro z; cases z)) e)) (fun ⟨o, e⟩ => .inr ⟨o, b p _ (ne_of e ha (by intro z; cases z)) e⟩))) .inr
/-- nothing, ints, tuples -/
def Pn : Nat → PyData → Prop
  | _, .none => True
  | _, .int _ => True
  | n + 1, .tuple ds => ∀ d ∈ ds, Pn n d
  | _, _ => False
mutual
theorem dp_but {K : PySem.W.Frag} {H H' : Hp} {a : Addr} {xs : List V} (ha : H a = some (.lst xs)) (b : But a H H') : ∀ {v : V} {d : PyData}, Dp K H v d → (∃ n, Pn n d) → Dp K H' v d
  | _, _, .non, _ => .non
  | _, _, .bl b, _ => .bl b
  | _, _, .int i, _ => .int i
  | _, _, .str x, _ => .str x
  | _, _, .lst _ _, ⟨n, h⟩ => by cases n <;> exact h.elim
  | _, _, .tup h k, ⟨0, z⟩ => z.elim
  | _, _, .tup h k, ⟨n + 1, z⟩ => .tup (seqT_but ha b h) (dpAll_but ha b k fun d hd => ⟨n, z d hd⟩)
theorem dpAll_but {K : PySem.W.Frag} {H H' : Hp} {a : Addr} {xs : List V} (ha : H a = some (.lst xs)) (b : But a H H') : ∀ {vs : List V} {ds : List PyData}, DpAll K H vs ds → (∀ d ∈ ds, ∃ n, Pn n d) → DpAll K H' vs ds
  | _, _, .nil, _ => .nil
  | _, _, .cons h k, z => .cons (dp_but ha b h (z _ (List.mem_cons_self ..))) (dpAll_but ha b k fun d hd => z d (List.mem_cons_of_mem _ hd))
end
theorem dpAll_snoc {K : PySem.W.Frag} {H : Hp} : ∀ {vs : List V} {ds : List PyData} {v : V} {d : PyData}, DpAll K H vs ds → Dp K H v d → DpAll K H (vs ++ [v]) (ds ++ [d])
  | _, _, _, _, .nil, h => .cons h .nil
  | _, _, _, _, .cons k r, h => .cons k (dpAll_snoc r h)
theorem dpAll_len {K : PySem.W.Frag} {H : Hp} : ∀ {vs : List V} {ds : List PyData}, DpAll K H vs ds → vs.length = ds.length
  | _, _, .nil => rfl
  | _, _, .cons _ r => congrArg (· + 1) (dpAll_len r)
theorem pn_L (L : List Int) : Pn 1 (dL L) := fun d hd => by
  obtain ⟨i, _, rfl⟩ := List.mem_map.mp hd
  trivial
theorem pn_P (p : Pg) : Pn 2 (dP p) := fun d hd => by
  rcases List.mem_cons.mp hd with h | h
  · rw [h]; exact pn_L p.1
  · rw [List.mem_singleton.mp h]; trivial
theorem pn_oL : ∀ o : Option (List Int), Pn 1 (oD dL o)
  | none => trivial
  | some L => pn_L L
theorem pn_oP : ∀ o : Option Pg, Pn 2 (oD dP o)
  | none => trivial
  | some p => pn_P p
theorem lay_pn : ∀ (n : Nat) (d : PyData), Pn n d → d.canLay0 = true ∧ d.depth ≤ n
  | _, .none, _ => ⟨rfl, Nat.zero_le _⟩
  | _, .int _, _ => ⟨rfl, Nat.zero_le _⟩
  | 0, .tuple ds, h => h.elim
  | n + 1, .tuple ds, h => by
    have key : ∀ es : List PyData, (∀ d ∈ es, Pn n d) → PyData.canLayAll0 es = true ∧ PyData.depthAll es ≤ n := by
      intro es
      induction es with
      | nil => exact fun _ => ⟨rfl, Nat.zero_le _⟩
      | cons d r ih =>
        intro hh
        have h1 := lay_pn n d (hh d (List.mem_cons_self ..))
        have h2 := ih fun e he => hh e (List.mem_cons_of_mem _ he)
        refine ⟨?_, ?_⟩
        · show (d.canLay0 && PyData.canLayAll0 r) = true
          rw [h1.1, h2.1]
          rfl
        · show max d.depth (PyData.depthAll r) ≤ n
          omega
    have := key ds h
    exact ⟨this.1, Nat.succ_le_succ this.2⟩
  | _, .bool _, h => by simp [Pn] at h
  | _, .str _, h => by simp [Pn] at h
  | _, .list _, h => by simp [Pn] at h
  | _, .dict _, h => by simp [Pn] at h
theorem shaped_pn {n : Nat} {d : PyData} (h : Pn n d) (hn : n ≤ 64) : SeqAt.shaped d = true := by
  have := lay_pn n d h
  unfold SeqAt.shaped
  rw [Bool.and_eq_true]
  exact ⟨this.1, decide_eq_true (by omega)⟩
theorem shaped_pnl {n : Nat} {ds : List PyData} (h : ∀ d ∈ ds, Pn n d) (hn : n ≤ 63) : SeqAt.shaped (.list ds) = true := by
  have := lay_pn (n + 1) (.tuple ds) h
  unfold SeqAt.shaped
  rw [Bool.and_eq_true]
  exact ⟨this.1, decide_eq_true (by have := this.2; show PyData.depthAll ds + 1 ≤ 64; have e : (PyData.tuple ds).depth = PyData.depthAll ds + 1 := rfl; omega)⟩
theorem none_in (os : List (Option Pg)) : ((os.map (oD dP)).any fun z => PyData.eqv z .none) = os.any (·.isNone) := by
  induction os with
  | nil => rfl
  | cons o r ih =>
    rw [List.map_cons, List.any_cons, List.any_cons, ih]
    cases o <;> rfl
theorem cut_end (z : Str) : (z.cps.toList = [] ∧ cutS z (some (-1)) none = Str.empty) ∨ ∃ c, z.cps.toList.getLast? = some c ∧ cutS z (some (-1)) none = ⟨#[c]⟩ := by
  cases e : z.cps.toList.getLast? with
  | none =>
    have h := List.getLast?_eq_none_iff.mp e
    refine .inl ⟨h, ?_⟩
    unfold cutS
    rw [h]
    simp [Str.empty]
  | some c =>
    refine .inr ⟨c, rfl, ?_⟩
    obtain ⟨l, hl⟩ := List.getLast?_eq_some_iff.mp e
    unfold cutS
    have hz : z.length = l.length + 1 := by
      show z.cps.toList.length = _
      rw [hl, List.length_append]
      rfl
    rw [hz, HT.sIx_none, show HT.sIx (l.length + 1) 0 (some (-1)) = l.length by
      show ((-1 : Int) + ((l.length + 1 : Nat) : Int)).toNat = l.length
      omega, hl, List.drop_left' rfl]
    rw [show l.length + 1 - l.length = 1 by omega]
    rfl
theorem ab_in (y : Str) : inV (.str y) [.str "a", .str "b"] = decide (y = ⟨#[97]⟩ ∨ y = ⟨#[98]⟩) := by
  show ((("a" : Str) == y) || ((("b" : Str) == y) || false)) = _
  have ea : ("a" : Str) = ⟨#[97]⟩ := rfl
  have eb : ("b" : Str) = ⟨#[98]⟩ := rfl
  rw [ea, eb, Bool.or_false]
  by_cases h1 : y = ⟨#[97]⟩
  · subst h1; simp
  · by_cases h2 : y = ⟨#[98]⟩
    · subst h2; simp
    · have h1' : ¬ (⟨#[97]⟩ : Str) = y := fun e => h1 e.symm
      have h2' : ¬ (⟨#[98]⟩ : Str) = y := fun e => h2 e.symm
      simp [h1, h2, h1', h2']
theorem one_inj {a b : Nat} (h : (⟨#[a]⟩ : Str) = ⟨#[b]⟩) : a = b := by
  injection h with h
  exact (List.cons.inj (congrArg Array.toList h)).1
theorem eqv_dP (p q : Pg) : PyData.eqv (dP p) (dP q) = decide (p = q) := by
  show (PyData.eqvAll (p.1.map PyData.int) (q.1.map PyData.int) && ((p.2 == q.2) && true)) = _
  rw [eqv_ints, Bool.and_true]
  obtain ⟨a, b⟩ := p
  obtain ⟨c, d⟩ := q
  by_cases h1 : a = c
  · by_cases h2 : b = d
    · subst h1; subst h2; simp
    · simp [h1, h2]
  · simp [h1]
theorem allSome_none {os : List (Option Int)} (h : none ∈ os) : allSome os = none := by
  induction os with
  | nil => cases h
  | cons o r ih =>
    rcases o with _ | i
    · rfl
    · have h2 : none ∈ r := (List.mem_cons.mp h).resolve_left (by simp)
      unfold allSome
      rw [ih h2]
theorem keep_none {os : List (Option Int)} (h : none ∈ os) : keep os = none := by
  unfold keep
  rw [allSome_none h]
theorem keep_map (L : List Int) : keep (L.map some) = if L.length ≤ 3 ∧ L.getLastD 0 ≠ 0 then some L else none := by
  unfold keep
  rw [allSome_map]
/-! ### data that was laid since -/
mutual
inductive Fd (H0 H : Hp) : V → PyData → Prop
  | int (i : Int) : Fd H0 H (.int i) (.int i)
  | lst {a : Addr} {vs : List V} {ds : List PyData} (h : H a = some (.lst vs)) (n : H0 a = none) (r : FdAll H0 H vs ds) : Fd H0 H (.ref a) (.list ds)
inductive FdAll (H0 H : Hp) : List V → List PyData → Prop
  | nil : FdAll H0 H [] []
  | cons {v : V} {vs : List V} {d : PyData} {ds : List PyData} (h : Fd H0 H v d) (r : FdAll H0 H vs ds) : FdAll H0 H (v :: vs) (d :: ds)
end
mutual
theorem fd_to {H0 H H0' H' : Hp} (hm : ∀ a o, H0 a = none → H a = some o → H0' a = none ∧ H' a = some o) : ∀ {v : V} {d : PyData}, Fd H0 H v d → Fd H0' H' v d
  | _, _, .int i => .int i
  | _, _, .lst h n r => .lst (hm _ _ n h).2 (hm _ _ n h).1 (fdAll_to hm r)
theorem fdAll_to {H0 H H0' H' : Hp} (hm : ∀ a o, H0 a = none → H a = some o → H0' a = none ∧ H' a = some o) : ∀ {vs : List V} {ds : List PyData}, FdAll H0 H vs ds → FdAll H0' H' vs ds
  | _, _, .nil => .nil
  | _, _, .cons h r => .cons (fd_to hm h) (fdAll_to hm r)
end
mutual
theorem fd_dp {K : PySem.W.Frag} {H0 H : Hp} : ∀ {v : V} {d : PyData}, Fd H0 H v d → Dp K H v d
  | _, _, .int i => .int i
  | _, _, .lst h _ r => .lst (.inl (.inl h)) (fdAll_dp r)
theorem fdAll_dp {K : PySem.W.Frag} {H0 H : Hp} : ∀ {vs : List V} {ds : List PyData}, FdAll H0 H vs ds → DpAll K H vs ds
  | _, _, .nil => .nil
  | _, _, .cons h r => .cons (fd_dp h) (fdAll_dp r)
end
theorem fdAll_snoc {H0 H : Hp} : ∀ {vs : List V} {ds : List PyData} {v : V} {d : PyData}, FdAll H0 H vs ds → Fd H0 H v d → FdAll H0 H (vs ++ [v]) (ds ++ [d])
  | _, _, _, _, .nil, h => .cons h .nil
  | _, _, _, _, .cons k r, h => .cons k (fdAll_snoc r h)
theorem fdAll_len {H0 H : Hp} : ∀ {vs : List V} {ds : List PyData}, FdAll H0 H vs ds → vs.length = ds.length
  | _, _, .nil => rfl
  | _, _, .cons _ r => congrArg (· + 1) (fdAll_len r)
theorem fdAll_same {H0 H H' : Hp} (s : Same H H') {vs : List V} {ds : List PyData} (h : FdAll H0 H vs ds) : FdAll H0 H' vs ds := fdAll_to (fun a o n e => ⟨n, s a o e⟩) h
theorem dpAll_get {K : PySem.W.Frag} {H : Hp} : ∀ {vs : List V} {ds : List PyData} {i : Nat} {v : V}, DpAll K H vs ds → vs[i]? = some v → ∃ d, ds[i]? = some d ∧ Dp K H v d
  | _, _, _, _, .nil, e => nomatch e
  | _, _, 0, _, .cons h r, e => by
    injection e with e
    subst e
    exact ⟨_, rfl, h⟩
  | _, _, i + 1, _, .cons h r, e => by
    obtain ⟨d, e1, e2⟩ := dpAll_get (i := i) r e
    exact ⟨d, e1, e2⟩
theorem dpAll_get2 {K : PySem.W.Frag} {H : Hp} {vs : List V} {ds : List PyData} {i : Nat} {d : PyData} (h : DpAll K H vs ds) (e : ds[i]? = some d) : ∃ v, vs[i]? = some v ∧ Dp K H v d := by
  have hi := (List.getElem?_eq_some_iff.mp e).1
  rw [← dpAll_len h] at hi
  have e1 := List.getElem?_eq_getElem hi
  obtain ⟨d', e2, e3⟩ := dpAll_get h e1
  rw [e] at e2
  injection e2 with e2
  subst e2
  exact ⟨_, e1, e3⟩
theorem ixN_end (R : List Int) (x : Int) : ixN ((R ++ [x]).map V.int).length (-1) = some R.length := by
  unfold ixN
  rw [List.length_map, List.length_append, List.length_singleton, if_neg (by decide), if_pos (by omega)]
  congr 1
  omega
theorem set_end (R : List Int) (x v : Int) : ((R ++ [x]).map V.int).set R.length (.int v) = (R ++ [v]).map V.int := by
  rw [List.map_append, List.map_append, List.set_append_right _ _ (by rw [List.length_map]; exact Nat.le_refl _), List.length_map, Nat.sub_self]
  rfl
theorem at_end (R : List Int) (x : Int) : atI ((R ++ [x]).map V.int) (-1) = some (.int x) := by
  rw [List.map_append]
  exact atI_last _ _
/-- a page that was laid apart from a -/
def PT (a : Addr) (H : Hp) (o : Addr) (p : Pg) : Prop := ∃ l, l ≠ a ∧ o ≠ a ∧ H o = some (.tup [.ref l, .int p.2]) ∧ H l = some (.tup (p.1.map V.int))
theorem PT.but {a o : Addr} {H H' : Hp} {p : Pg} (h : PT a H o p) (b : But a H H') : PT a H' o p := by
  obtain ⟨l, h1, h2, h3, h4⟩ := h
  exact ⟨l, h1, h2, b _ _ h2 h3, b _ _ h1 h4⟩
theorem PT.dp {K : PySem.W.Frag} {a o : Addr} {H : Hp} {p : Pg} (h : PT a H o p) : Dp K H (.ref o) (dP p) := by
  obtain ⟨l, h1, h2, h3, h4⟩ := h
  exact .tup (.inl (.inl h3)) (.cons (dpL (.inl (.inl h4))) (.cons (.int _) .nil))
theorem cut_to (z : Str) (k : Int) (h0 : 0 ≤ k) (h1 : k ≤ (z.length : Int)) : (cutS z none (some k)).length = k.toNat := by
  obtain ⟨n, rfl⟩ := Int.eq_ofNat_of_zero_le h0
  show (((z.cps.toList.drop 0).take (HT.sIx z.length z.length (some (n : Int)) - 0)).toArray).size = _
  rw [HT.sIx_nat, List.size_toArray, List.length_take, List.drop_zero, Array.length_toList]
  show min (min n z.length - 0) z.length = _
  omega
theorem cut_from (z : Str) (k : Int) (h0 : 0 ≤ k) : (cutS z (some k) none).length = z.length - k.toNat := by
  obtain ⟨n, rfl⟩ := Int.eq_ofNat_of_zero_le h0
  show (((z.cps.toList.drop (HT.sIx z.length 0 (some (n : Int)))).take (z.length - HT.sIx z.length 0 (some (n : Int)))).toArray).size = _
  rw [HT.sIx_nat, List.size_toArray, List.length_take, List.length_drop, Array.length_toList]
  show min (z.length - min n z.length) (z.length - min n z.length) = _
  omega
theorem at_some {α : Type} (xs : List α) (k : Int) (h0 : 0 ≤ k) (h1 : k < (xs.length : Int)) : ∃ c, atI xs k = some c := by
  obtain ⟨n, rfl⟩ := Int.eq_ofNat_of_zero_le h0
  exact ⟨_, atI_nat (List.getElem?_eq_getElem (show n < xs.length by omega))⟩
/-! ### a def that is called where no object is being shown: its promise may count on that (repr) -/
structure GnOk (P : Program) (w : World) (K : PySem.W.Frag) (mg : Str → Option Value) (base : Heap) (CX : CXT) (k : Nat) (f : Addr) (fd : FuncData) (ps : List Str) (sp : Sp) : Prop where
  size : ∀ vs H Q E, sp vs H Q E → vs.length = ps.length
  go : ∀ (A : Around) (outer : List Env) (s : Shared) (H : Hp) (args : Args) (us : List Value) (vs : List V) (Q : VK) (E : XK), Room k A → A.guards = some [] → Env0 P w K mg base A outer s H →
    BindsTo s fd args (ps.zip us) → Vals vs us → sp vs H Q E → codeAny (model P w) A (.call (.ref f) args) (CR CX outer P w H s Q E) s
section
variable {P : Program} {w : World} {K : PySem.W.Frag} {mg : Str → Option Value} {base : Heap}
theorem ce_of {X : Cx} {Q : VK} {σ : L2.St} {H H1 : Hp} {s s1 : Shared} {v : V} {u : Value} (J : Inv X [] σ H1 s1) (r : RelV v u) (q : Q v H1) (e1 : s1.os = s.os) (e2 : Un (frs X.outer) [] H H1 s.heap s1.heap) :
    CE X.outer X.prog X.w H s Q u s1 := ⟨v, H1, e1, J.bare, e2, J.hok, r, q⟩
theorem gn_of {CX : CXT} {k : Nat} {x qual : Str} {st : Stmt} {f : Addr} {fd : FuncData} {N ps : List Str} {sp : Sp} (F : Fun K x qual st f fd) (S : FnScope N ps (defScope st)) (len : ∀ vs H Q E, sp vs H Q E → vs.length = ps.length)
    (body : ∀ (cdv : Value) (A : Around) (outer : List Env) (s : Shared) (H : Hp) (vs : List V) (Q : VK) (E : XK), Room k (A.deeper (envOfC qual (defScope st) s.heap.objs.size f cdv)) → A.guards = some [] → sp vs H Q E →
      ∃ t, PSs (cxOf CX P w K mg base N qual (defScope st) f cdv A outer s H E) (defBody st) t ∧ t { nx := fun _ H' => Q .non H', rt := Q } (start N vs) H) : GnOk P w K mg base CX (k + 1) f fd ps sp := by
  obtain ⟨oc, od, kV, doc, pm, an, cdv, ct, osl, rfl, lk, hcd⟩ := F.ex
  constructor
  · exact len
  intro A outer s H args us vs Q E hr hg env0 bind rel hsp
  have up := env0.bs
  have KX : K.In s.heap := env0.mod.kin.keeps (fun b o e => (up b o e).1)
  refine codeAny_call_function (hroom := hr.depth) (KX _ _ lk) rfl S.co S.gen rfl (PySem.W.codeRec_of KX hcd) (bind _ _ _ _ ?_)
  have kinds : ∀ y ∈ ps.zip us, (defScope st).names.lookup y.1 = some .local ∨
      ((defScope st).names.lookup y.1 = some .cell ∧ ((cellsFrom (s.heap.objs.size + 1) (defScope st).names []).lookup y.1).isSome = true) := by
    rintro ⟨n, v⟩ hy
    exact (S.par n (List.of_mem_zip hy).1).elim .inl (fun q => .inr ⟨q, PySem.W.cellsFrom_some _ _ _ (.inl q)⟩)
  refine wpAny_newFunctionEnv_cells S.kind kinds (fun env he s1 fresh => ?_)
  subst he
  refine ⟨(env0.mod.nolimit.keeps (fun b o e => (up b o e).1)).keeps fresh.toInCall.keep, codeAny_func ?_⟩
  obtain ⟨t, walk, want⟩ := body cdv A outer s H vs Q E (hr.deeper _) hg hsp
  have J := inv_start (CX := CX) (E := E) S hr.hd env0 (len _ _ _ _ hsp) rel fresh
  refine wpAny_mono (walk.run [] s1 (start N vs) H _ J want) ?_ (fun _ _ z => z)
  rintro (_ | _ | _ | u) s2 h
  · obtain ⟨σ2, H2, J2, q⟩ := h
    exact ⟨.non, H2, J2.os, J2.bare, J2.base, J2.hok, rfl, q⟩
  · obtain ⟨_, _, _, q⟩ := h
    exact q.elim
  · obtain ⟨_, _, _, q⟩ := h
    exact q.elim
  · obtain ⟨v, σ2, H2, J2, r, q⟩ := h
    exact ⟨v, H2, J2.os, J2.bare, J2.base, J2.hok, r, q⟩
end
section
variable {X : Cx} {CX : CXT} {k : Nat} {f : Addr} {fd : FuncData} {ps : List Str} {sp : Sp} {E : XK} {x : Str} {p pos : Pos} {e : Expr} {es : List Expr} {t : TA}
/-- such a def is called by its name -/
theorem pe_callG (F : GnOk X.prog X.w X.K X.mg X.base CX k f fd ps sp) (hr : Room k X.A) (hg : X.A.guards = some []) (gl : Gl X x) (hm : X.mg x = some (.ref f)) (hk : PySem.W.keepIn X.K (.ref f) = true) (hb : Binds X.K fd ps []) (hx : Passes CX X E)
    (ha : PA X (e :: es) t) (hdb : (x == ("__debug__" : Str)) = false := by decide) (he : starEach (e :: es) X.env = (false, eval e X.env) :: starEach es X.env := by rfl) (hpl : (backTo pos (starEach es X.env)).any (·.1) = false := by rfl) :
    PE X (.Call (.Name x p) (e :: es) [] pos) (tCall sp [] E t) := by
  constructor
  intro pins s σ H Q I h
  refine wpAny_Call_Name_kw (ld_glob I gl hm ?_ hdb)
  refine PySem.W.callWith_K (h₀ := X.base) I.ok.mod.kin hk ?_ he hpl
  refine thn (ha.run pos pins s σ H _ I h) ?_
  rintro us s1 ⟨vs, H1, I1, rel, q⟩
  refine ⟨I1.kIn, ?_⟩
  have q : sp vs H1 Q E := by rw [List.append_nil] at q; exact q
  have bd := hb s1 us I1.kIn (by rw [List.append_nil, ← rel.length]; exact F.size _ _ _ _ q)
  rw [List.append_nil] at bd
  refine wpAny_call (codeAny_mono (F.go X.A X.stack s1 H1 _ us vs Q E hr hg I1.env0 bd rel q) ?_)
  rintro (er | fl) s2 h2
  · exact hx pins σ H1 s1 er s2 I1 h2
  · rcases fl with _ | _ | _ | u
    · exact h2.elim
    · exact h2.elim
    · exact h2.elim
    · exact I1.after h2
end
section
variable {P : Program} {w : World} {K : PySem.W.Frag} {mg mb : Str → Option Value} {CX : CXT} {k : Nat} {fa a : Addr} {fd : FuncData} {x : Str} {sp : Sp} {s₁ : Shared} {vs : List Value} {ns : List Int}
/-- what the top asks of the law's call -/
def Ended (s₁ : Shared) (r : Result) (s' : Shared) : Prop := r = .ok (.ret (.bool true)) ∧ OldK s₁.heap s'.heap ∧ s'.os = s₁.os ∧ AllBare s'.gens
theorem only_at {H : Hp} (hA : ∀ b, H b ≠ none → b = a) {b : Addr} {u : HO} (q : H b = some u) : b = a := hA b (fun z => by rw [q] at z; cases z)
theorem go_with {H : Hp} (KX : K.In s₁.heap) (hns : s₁.heap.Ns mainGlobals mg) (hb : s₁.heap.Ns builtinsNs mb) (hbb : ∀ x : Str, x ≠ "__name__" → mb x = bootBuiltins x) (hlim : s₁.heap.NoLimit) (hg : s₁.gens = #[])
    (ha : s₁.heap.get? a = some { cls := .type "list", data := .seq vs.toArray }) (hr : Room k callerA) (F : ∀ base : Heap, K.In base → base.Ns mainGlobals mg → GnOk P w K mg base CX k fa fd [x] sp)
    (hbind : ∀ (s : Shared) (u : Value), BindsTo s fd ⟨[u], []⟩ [(x, u)]) (hO : Only H) (hok : HOk P w H s₁.heap) (hA : ∀ b, H b ≠ none → b = a) (hK : H a ≠ none → K.lookup a = none)
    (hsp : sp [.ref a] H (fun v _ => v = .bl true) fun _ _ _ => False) (hCX : ∀ e s', CX [] H s₁ (fun _ _ _ => False) e s' → False) : codeAny (model P w) callerA (.call (.ref fa) ⟨[.ref a], []⟩) (Ended s₁) s₁ := by
  -- a dict, and what is written, is not the script: it stands in the rest too
  have dicts : ∀ {b : Addr} {m : Str → Option Value}, s₁.heap.Ns b m → (hidT s₁.heap H).Ns b m := by
    rintro b m ⟨o, es, ep, e, d, r⟩
    refine ⟨o, es, ep, hidT_get e ?_, d, r⟩
    cases q : H b with
    | none => rfl
    | some u =>
      have z := only_at hA q
      rw [z, ha] at e
      cases e
      have d2 : Data.seq vs.toArray _ = Data.dict es ep := d
      cases d2
  have written : K.In (hidT s₁.heap H) := by
    intro b o e
    refine hidT_get (KX b o e) ?_
    cases q : H b with
    | none => rfl
    | some u =>
      have z := only_at hA q
      subst z
      rw [hK (fun z => by rw [q] at z; cases z)] at e
      cases e
  obtain ⟨mc, l1, l2⟩ := hlim
  have M : Mod K mg (hidT s₁.heap H) := ⟨written, dicts hns, ⟨mb, dicts hb, hbb⟩, ⟨mc, dicts l1, l2⟩⟩
  have env0 : Env0 P w K mg (hidT s₁.heap H) callerA [] s₁ H := { frames := rfl, mod := M, bs := fun b o e => of_hidT e, bsz := Nat.le_of_eq (hidT_size _ _), funs := trivial, frf := (fun b z => by cases z), hok := hok, bare := .of_eq hg }
  have run := (F _ written (dicts hns)).go callerA [] s₁ H ⟨[.ref a], []⟩ [.ref a] [.ref a] _ _ hr rfl env0 (hbind s₁ (.ref a)) (.cons rfl .nil) hsp
  refine codeAny_mono run ?_
  rintro (e | _ | _ | _ | u) s' h
  · exact (hCX e s' h).elim
  · exact h.elim
  · exact h.elim
  · exact h.elim
  obtain ⟨v, H', os, bare, un, hok', r', q⟩ := h
  obtain rfl : v = .bl true := q
  obtain rfl : u = Value.bool true := r'
  refine ⟨rfl, OldK.of_keep ?_, os, bare⟩
  intro b o e
  cases q : H b with
  | none => exact un.keep b o e q (fun z => by cases z) (fun z => by cases z)
  | some u =>
    rcases hO b with z | ⟨ob, xs, z⟩
    · rw [q] at z
      cases z
    · obtain ⟨e1, _⟩ := hok b _ z
      obtain ⟨e2, _⟩ := hok' b _ (un.frzs b ob _ z)
      rw [e] at e1
      cases e1
      exact e2
/-- the script alone is tracked -/
def script (a : Addr) (vs : List Value) (ns : List Int) : Hp := fun b => if b = a then some (.frz { cls := .type "list", data := .seq vs.toArray } (.lst (ns.map V.int))) else Option.none
theorem script_at : script a vs ns a = some (.frz { cls := .type "list", data := .seq vs.toArray } (.lst (ns.map V.int))) := if_pos rfl
theorem script_ne {b : Addr} (h : b ≠ a) : script a vs ns b = Option.none := if_neg h
theorem law_goG (KX : K.In s₁.heap) (hns : s₁.heap.Ns mainGlobals mg) (hb : s₁.heap.Ns builtinsNs mb) (hbb : ∀ x : Str, x ≠ "__name__" → mb x = bootBuiltins x) (hlim : s₁.heap.NoLimit) (hg : s₁.gens = #[])
    (ha : s₁.heap.get? a = some { cls := .type "list", data := .seq vs.toArray }) (hi : IntsAre vs ns) (hl : ns.length ≤ sizeLine) (hr : Room k callerA) (F : ∀ base : Heap, K.In base → base.Ns mainGlobals mg → GnOk P w K mg base CX k fa fd [x] sp)
    (hbind : ∀ (s : Shared) (u : Value), BindsTo s fd ⟨[u], []⟩ [(x, u)]) (hsp : ∀ H : Hp, Only H → SqL K H a (ns.map V.int) → sp [.ref a] H (fun v _ => v = .bl true) fun _ _ _ => False)
    (hCX : ∀ H e s', CX [] H s₁ (fun _ _ _ => False) e s' → False) : codeAny (model P w) callerA (.call (.ref fa) ⟨[.ref a], []⟩) (Ended s₁) s₁ := by
  have rv := vals_ints hi
  cases hk : K.lookup a with
  | some o =>
    have e := (KX a o hk).symm.trans ha
    cases e
    have hO : Only (fun _ => Option.none) := fun _ => .inl rfl
    have hS : SqL K (fun _ => Option.none) a (ns.map V.int) := .inr ⟨_, vs.toArray, _, hk, rfl, rfl, rfl, by rw [List.size_toArray, hi.length]; exact hl, by simpa using rv⟩
    exact go_with KX hns hb hbb hlim hg ha hr F hbind hO (fun b u z => by have z' : (Option.none : Option HO) = some u := z; cases z') (fun b z => absurd rfl z) (fun z => absurd rfl z) (hsp _ hO hS) (hCX _)
  | none =>
    have hO : Only (script a vs ns) := fun b => by
      by_cases q : b = a
      · subst q
        exact .inr ⟨_, _, script_at⟩
      · exact .inl (script_ne q)
    refine go_with KX hns hb hbb hlim hg ha hr F hbind hO ?_ ?_ (fun _ => hk) (hsp _ hO (.inl (.inr ⟨_, script_at⟩))) (hCX _)
    · intro b u z
      by_cases q : b = a
      · subst q
        rw [script_at] at z
        cases z
        exact ⟨ha, by rw [List.length_map]; exact hl, vs, _, rv, ha⟩
      · rw [script_ne q] at z
        cases z
    · intro b z
      by_cases q : b = a
      · exact q
      · exact absurd (script_ne q) z
end
/-- the goal behind k_head, for a law whose def counts on it -/
theorem walk_ofG {l : PySem.W.OpenLaw} {n k : Nat} {q : Program} {loose : List Str} {XP : (Str → Option Value) → Heap → Prop} {YP : World → Heap → Prop} {d : DefRec} {K : Params → PySem.W.Frag} {CX : World → CXT} {sp : World → Sp} {x : Str}
    (hn : l.most = some n) (hn2 : n ≤ sizeLine) (hdf : d.params.defaults = []) (hr : Room k callerA) (hY : ∀ (w : World) (h : Heap), YP w h → (K w.params).In h)
    (F : ∀ (w : World) (mg : Str → Option Value) (fa : Addr) (h : Heap), (K w.params).In h → h.Ns mainGlobals mg → mg d.name = some (.ref fa) → ∃ fd : FuncData, (∀ (s : Shared) (u : Value), BindsTo s fd ⟨[u], []⟩ [(x, u)]) ∧
      ∀ base : Heap, (K w.params).In base → base.Ns mainGlobals mg → GnOk l.prog w (K w.params) mg base (CX w) k fa fd [x] (sp w))
    (hsp : ∀ (w : World) (H : Hp) (a : Addr) (ns : List Int), ns.length ≤ n → Only H → SqL (K w.params) H a (ns.map V.int) → sp w [.ref a] H (fun v _ => v = .bl true) fun _ _ _ => False)
    (hCX : ∀ (w : World) (H : Hp) (s : Shared) (e : Value) (s' : Shared), CX w [] H s (fun _ _ _ => False) e s' → False) : PySem.W.WalkO q loose XP YP l.row.toRowW d [] (fun f vs => PySem.call f vs) := by
  refine Att.attach_call hn hdf ?_
  intro w s₀ s₁ mg mb fa o pm cd doc a vs ns G Y ho hd hcd hmg hobj hints hlen hg
  obtain ⟨fd, hb, hF⟩ := F w mg fa _ (hY w _ Y) G.T.g hmg
  exact law_goG (hY w _ Y) G.T.g G.T.b G.T.builtins G.T.nolimit hg hobj hints (Nat.le_trans hlen hn2) hr hF hb (fun H h1 h2 => hsp w H a ns hlen h1 h2) (fun H e s' => hCX w H s₁ e s')
/-- for a def that nothing leaves -/
theorem gn_ok {P : Program} {w : World} {K : PySem.W.Frag} {mg : Str → Option Value} {base : Heap} {k : Nat} {x qual : Str} {st : Stmt} {f : Addr} {fd : FuncData} {N ps : List Str} {sp : Sp} (F : Fun K x qual st f fd) (S : FnScope N ps (defScope st))
    (len : ∀ vs H Q E, sp vs H Q E → vs.length = ps.length) (body : ∀ (cdv : Value) (A : Around) (outer : List Env) (s : Shared) (H : Hp) (vs : List V) (Q : VK) (E : XK), Room k (A.deeper (envOfC qual (defScope st) s.heap.objs.size f cdv)) → A.guards = some [] → sp vs H Q E →
      ∃ t, PSs (cxOf CX0 P w K mg base N qual (defScope st) f cdv A outer s H E).nox (defBody st) t ∧ t { nx := fun _ H' => Q .non H', rt := Q } (start N vs) H) : GnOk P w K mg base CX0 (k + 1) f fd ps sp :=
  gn_of F S len (fun cdv A outer s H vs Q E hr hg h => (body cdv A outer s H vs Q E hr hg h).elim fun t z => ⟨t, z.1.nox, z.2⟩)
theorem un20 {k : Nat} {A : Around} (r : Room k A) : A.units + 20 < cLine := by have := r.un; omega
/-! ### repr of data, where no object is being shown -/
def rReprD (K : PySem.W.Frag) : List V → Hp → VK → Prop := fun xs H Q => ∃ (v : V) (d : PyData), xs = [v] ∧ Dp K H v d ∧ d.showable = true ∧ d.hasDict = false ∧ d.depth ≤ 8 ∧ d.shown.length ≤ sizeLine ∧ Q (.str d.shown) H
theorem call_reprD {X : Cx} (hg : X.A.guards = some []) (hu : X.A.units + 20 < cLine) : CallR X (.builtin "repr") (rReprD X.K) := by
  intro pins s σ H xs us Q I r h
  obtain ⟨v, d, rfl, hd, h1, h2, h3, h4, q⟩ := h
  obtain ⟨u, rfl, ru⟩ := vals1 r
  obtain ⟨as, R⟩ := Dp.reads I d v u hd ru
  cases v with
  | ref a =>
    obtain rfl : u = Value.ref a := ru
    refine repr_of_reads' R h1 (fun z => by rw [h2] at z; cases z) hg (by omega) (fun _ _ z => z) (fun h' u tk hk => ?_) h4
    exact ⟨.str _, H, I.kept (t' := tk) hk, ⟨_, rfl⟩, q⟩
  | non =>
    cases hd
    cases ru
    exact PySem.P.repr_of_none ⟨.str _, H, I.tok _, ⟨_, rfl⟩, q⟩
  | bl b =>
    cases hd
    cases ru
    exact PySem.P.repr_of_bool ⟨.str _, H, I.tok _, ⟨_, rfl⟩, q⟩
  | int i =>
    cases hd
    obtain ⟨t, rfl⟩ := ru
    have hz : i.natAbs.log2 < 1920 := of_decide_eq_true h1
    exact PySem.P.repr_of_int hz ⟨.str _, H, I.tok _, ⟨_, rfl⟩, q⟩
  | str z =>
    cases hd
    obtain ⟨t, rfl⟩ := ru
    exact PySem.P.repr_of_str ⟨.str _, H, I.tok _, ⟨_, rfl⟩, q⟩ h4
  | _ => cases hd
theorem call_reprS {X : Cx} {a : Addr} {oe : Obj} {pn : List (Addr × Obj)} (hg : X.A.guards = some []) (hu : X.A.units + 20 < cLine) : CallR (X.suite a ((a, oe) :: pn)) (.builtin "repr") (rReprD X.K) := call_reprD (X := X.suite a ((a, oe) :: pn)) hg hu
/-! ### own errors: made with nothing, asked for their classes -/
section
variable {X : Cx} {C : Addr} {bmB : List Value} {B newId initId : String}
/-- X() -/
theorem pmk_own0 {x : Str} {p pos : Pos} (F : ExcBaseFacts B newId initId bmB) (q : PySem.W.excIn X.K C bmB newId = true) (gC : X.mg x = some (.ref C)) (kC : PySem.W.keepIn X.K (.ref C) = true) (r : Raises X (.ref C)) (hg : Gl X x)
    (hdb : (x == ("__debug__" : Str)) = false := by decide) : PMk X (.Call (.Name x p) [] [] pos) (fun _ H Q => Q (.ref C) none H) := by
  intro pins s σ H Q I h
  refine wpAny_Call_Name_kw (ld_glob I hg gC ?_ hdb)
  refine PySem.W.callWith_K0 I.kIn kC ?_
  obtain ⟨bm, N, nm, qn, bs, hdct, sn, sub, ab, col, dd, k0, k1, k2, k3, k5, mN, hC, hN, hni, T⟩ := exc_obj I.kIn q
  obtain ⟨hp, g, dr, tk, os⟩ := s
  refine wpAny_call_exc_subT F T hC hN hni ?_ (by decide)
  exact fun h' e hm => mk_of I hm r h (I.hok.gone hm.new)
end
/-- isinstance(e, c), e the error that the suite holds, with a dict of its own or without -/
def rIsX (K : PySem.W.Frag) (cls : Value) (a : Addr) (d : Option Addr) : List V → Hp → VK → Prop := fun xs H Q => ∃ (D : Addr) (c : V) (cv : Value) (b : Bool), xs = [.ref a, c] ∧ cls = .ref D ∧ ExcC K D ∧ (∀ u, RelV c u → u = cv) ∧
  (d = Option.none ∨ ∃ dd fs, d = some dd ∧ H dd = some (.xd fs)) ∧ PySem.W.kitOne K (.ref D) cv = some b ∧ Q (.bl b) H
theorem call_isX {X : Cx} {a : Addr} {cls : Value} {d : Option Addr} {oe : Obj} {pn : List (Addr × Obj)} (hz : Zc cls d oe) (hf : ∃ vs, oe.data = .fields vs) : CallR (X.suite a ((a, oe) :: pn)) (.builtin "isinstance") (rIsX X.K cls a d) := by
  intro pins s σ H xs us Q I r h
  obtain ⟨D, c, cv, b, rfl, rfl, C, hcv, hd, e, q⟩ := h
  obtain ⟨u1, u2, rfl, r1, r2⟩ := vals2 r
  obtain rfl : u1 = Value.ref a := r1
  obtain rfl := hcv _ r2
  obtain ⟨at_, _⟩ := I.pin (a, oe) (List.mem_append_left _ List.mem_cons_self)
  obtain ⟨vs, hv⟩ := hf
  have fin : ∀ {od : Option Obj}, PySem.W.InstAt s.heap a oe D od → wpAny (model X.prog X.w) (X.suite a ((a, oe) :: pn)).A (call (.builtin "isinstance") [.ref a, u2]) (EP (X.suite a ((a, oe) :: pn)) pins σ Q) (X.suite a ((a, oe) :: pn)).xe s := fun J =>
    PySem.W.kia_one (PySem.W.kitx_exc (PySem.W.any_some C.hd |>.elim fun _ z => by rw [z.1]; rfl) C.hg C.hk C.hs C.ha C.hn C.ht C.hm) I.kIn J e (fun z => nomatch z) fun tk => ⟨.bl b, H, I.kept (t' := tk) (fun _ _ z => z), rfl, q⟩
  have nc : PySem.W.notCls oe = true := by
    unfold PySem.W.notCls
    rw [hv] <;> rfl
  rcases hd with rfl | ⟨dd, fs, rfl, hdd⟩
  · exact fin (od := Option.none) ⟨at_, hz.1, nc, by rw [hz.2]; trivial⟩
  · obtain ⟨mA, hns, _⟩ := I.hok dd _ hdd
    obtain ⟨od, ho, _⟩ := lookIn_ns hns
    exact fin (od := some od) ⟨at_, hz.1, nc, by rw [hz.2]; exact ho⟩
theorem kit_ref {K : PySem.W.Frag} {D C : Addr} {b : Bool} (h1 : PySem.W.isClsIn K C = true) (h2 : PySem.W.typeIn K (.ref C) = some (.type "type")) (h3 : PySem.W.subIn K (.ref D) (.ref C) = some b) (h4 : D = C → b = true) : PySem.W.kitOne K (.ref D) (.ref C) = some b := by
  unfold PySem.W.kitOne
  by_cases q : (Value.ref D == Value.ref C) = true
  · rw [if_pos q, h4 (Value.ref.inj (beq_iff_eq.mp q))]
  · rw [if_neg q]
    unfold PySem.W.kitCls
    have h1' : (PySem.W.clsIn K C).isSome = true := h1
    simp only [h1', h2, beq_self_eq_true, Bool.and_self, if_true]
    exact h3
theorem kit_rty {K : PySem.W.Frag} {D : Addr} {T : String} {b : Bool} (h3 : PySem.W.subIn K (.ref D) (.type T) = some b) (h : PySem.W.kitMeta T = true) : PySem.W.kitOne K (.ref D) (.type T) = some b := by
  unfold PySem.W.kitOne
  rw [if_neg (by simp)]
  unfold PySem.W.kitCls
  simp only [h, if_true]
  exact h3
/-! ### xs[::-1], xs a list -/
section
variable {X : Cx} {e st : Expr} {te : TE} {tq : TO} {p2 pos : Pos}
def tRevL (K : PySem.W.Frag) (te : TE) (tq : TO) : TE := fun σ H Q => te σ H fun x H1 => tq σ H1 fun k H2 => ∃ a xs, k = some (-1) ∧ x = .ref a ∧ SqL K H2 a xs ∧ ∀ p, H2 p = none → Q (.ref p) (upd H2 p (.lst xs.reverse))
theorem pe_revL (he : PE X e te) (hk : PO X (some st) tq) : PE X (.Subscript e (.Slice none none (some st) p2) pos) (tRevL X.K te tq) := by
  constructor
  intro pins s σ H Q I h
  refine Subscript_ (thn (he.run pins s σ H _ I h) ?_)
  rintro v s1 ⟨x, H1, I1, r1, q1⟩
  refine wpAny_Slice ?_
  rw [evalPart_none]
  refine wpAny_pure ?_
  refine wpAny_pure (thn (hk.run pins s1 σ H1 _ I1 q1) ?_)
  rintro vk s2 ⟨k, H2, I2, pk, a, xs, rfl, rfl, hx, q⟩
  cases r1
  have J : Inv X pins σ H2 { s2 with heap := s2.heap.push { cls := .type "slice", data := .fields #[.none, .none, vk] } } := I2.kept (t' := s2.toks) (fun b ob q => Heap.get?_push_of_some _ q)
  obtain ⟨its, r, isl, hz⟩ := J.list hx
  have hlen := r.length
  have step : wpAny (model X.prog X.w) X.A (getItem (.ref a) (.ref s2.heap.objs.size)) (EP X pins σ Q) X.xe { s2 with heap := s2.heap.push { cls := .type "slice", data := .fields #[.none, .none, vk] } } := by
    refine wpAny_getItem_list_slice isl.isList (Heap.IsSliceOf.new ..) .none .none pk (by decide) ?_ (by rw [List.size_toArray]; omega)
    have er : slicePick its.toArray none none (some (-1)) = its.reverse.toArray := PySem.W.krv_pick its.toArray
    rw [er]
    refine ⟨.ref (s2.heap.push { cls := .type "slice", data := .fields #[.none, .none, vk] }).objs.size, _, J.laid (t' := s2.toks) (o := .lst xs.reverse) (fun b ob q => Heap.get?_push_of_some _ q) (Nat.le_refl _) ?_, rfl, q _ (J.hok.fresh (Nat.le_refl _))⟩
    exact ⟨by rw [List.length_reverse]; exact hz, _, 0, r.reverse, Heap.get?_push_size _ rfl⟩
  exact tail_any (ops := [.ref a, .ref s2.heap.objs.size]) isl.isList.typeIs slot_list_getitem.lookup step (by with_unfolding_all rfl)
end
theorem ix_listK {X : Cx} {K : PySem.W.Frag} (h : X.K = K) : IxR X (rIxL K) := h ▸ ix_list
theorem ix_tupK {X : Cx} {K : PySem.W.Frag} (h : X.K = K) : IxR X (rIxT K) := h ▸ ix_tup
/-! ### a label by its number -/
def num (L : List Int) : Nat → Int
  | 0 => 0
  | n + 1 => num L n * 100 + L.getD n 0
def bump (i : Int) : Int := if i % 100 = 0 then i + 1 else i
def dv (M : Int) : Nat → Int
  | 0 => M
  | n + 1 => dv M n / 100
def lsd (M : Int) : Nat → List Int
  | 0 => []
  | n + 1 => lsd M n ++ [dv M n % 100]
def least (L : List Int) (n : Nat) : Option (List Int) := if dv (bump (num L n + 1)) n = 0 then some (lsd (bump (num L n + 1)) n).reverse else none
def okHi (hi : Option (List Int)) (L : List Int) : Bool := match hi with
  | none => true
  | some h => HT.lexLt L h
def pickN (lo hi : Option (List Int)) : List Nat → Option (List Int)
  | [] => none
  | n :: r => match least (lo.getD []) n with
    | some L => if okHi hi L = true then some L else pickN lo hi r
    | none => pickN lo hi r
def btw (lo hi : Option (List Int)) : Option (List Int) := pickN lo hi [1, 2, 3]
theorem pickN_none {lo hi : Option (List Int)} {n : Nat} {r : List Nat} (h : least (lo.getD []) n = none) : pickN lo hi (n :: r) = pickN lo hi r := by
  show (match least (lo.getD []) n with | some L => if okHi hi L = true then some L else pickN lo hi r | none => pickN lo hi r) = _
  rw [h]
theorem pickN_no {lo hi : Option (List Int)} {n : Nat} {r : List Nat} {L : List Int} (h : least (lo.getD []) n = some L) (k : okHi hi L = false) : pickN lo hi (n :: r) = pickN lo hi r := by
  show (match least (lo.getD []) n with | some L => if okHi hi L = true then some L else pickN lo hi r | none => pickN lo hi r) = _
  rw [h]
  simp only [k, Bool.false_eq_true, if_false]
theorem pickN_yes {lo hi : Option (List Int)} {n : Nat} {r : List Nat} {L : List Int} (h : least (lo.getD []) n = some L) (k : okHi hi L = true) : pickN lo hi (n :: r) = some L := by
  show (match least (lo.getD []) n with | some L => if okHi hi L = true then some L else pickN lo hi r | none => pickN lo hi r) = _
  rw [h]
  simp only [k, if_true]
def ok99 (L : List Int) : Prop := ∀ i ∈ L, 0 ≤ i ∧ i ≤ 99
theorem getD_99 {L : List Int} (h : ok99 L) (n : Nat) : 0 ≤ L.getD n 0 ∧ L.getD n 0 ≤ 99 := by
  rw [List.getD_eq_getElem?_getD]
  cases e : L[n]? with
  | none => exact ⟨by decide, by decide⟩
  | some i => exact h i (List.mem_of_getElem? e)
theorem num_bd {L : List Int} (h : ok99 L) : ∀ n, 0 ≤ num L n ∧ num L n + 1 ≤ 100 ^ n
  | 0 => ⟨Int.le_refl 0, Int.le_refl 1⟩
  | n + 1 => by
    have ih := num_bd h n
    have d := getD_99 h n
    have e : (100 : Int) ^ (n + 1) = 100 ^ n * 100 := Int.pow_succ ..
    rw [e]
    show 0 ≤ num L n * 100 + L.getD n 0 ∧ num L n * 100 + L.getD n 0 + 1 ≤ _
    omega
theorem num_small {L : List Int} (h : ok99 L) {n : Nat} (hn : n ≤ 3) : 0 ≤ num L n ∧ num L n + 1 ≤ 1000000 := by
  have := num_bd h n
  have e : (100 : Int) ^ n ≤ 1000000 := by
    have : n = 0 ∨ n = 1 ∨ n = 2 ∨ n = 3 := by omega
    rcases this with rfl | rfl | rfl | rfl <;> decide
  omega
theorem bump_bd {i : Int} (h : 0 ≤ i) : i ≤ bump i ∧ bump i ≤ i + 1 := by
  unfold bump
  split <;> omega
theorem dv_nn {M : Int} (h : 0 ≤ M) : ∀ n, 0 ≤ dv M n
  | 0 => h
  | n + 1 => by
    have := dv_nn h n
    show 0 ≤ dv M n / 100
    omega
theorem dv_le {M : Int} (h : 0 ≤ M) : ∀ n, dv M n ≤ M
  | 0 => Int.le_refl _
  | n + 1 => by
    have := dv_le h n
    have := dv_nn h n
    show dv M n / 100 ≤ M
    omega
theorem lsd_len (M : Int) : ∀ n, (lsd M n).length = n
  | 0 => rfl
  | n + 1 => by
    show (lsd M n ++ [_]).length = _
    rw [List.length_append, lsd_len M n]
    rfl
/-- the law's way to the same number -/
theorem num_end {L : List Int} {n : Nat} (h : L.length ≤ n) : num L (n + 1) % 100 = 0 := by
  show (num L n * 100 + L.getD n 0) % 100 = 0
  rw [List.getD_eq_getElem?_getD, List.getElem?_eq_none h]
  show (num L n * 100 + 0) % 100 = 0
  omega
theorem bump_two {i : Int} (h : i % 100 = 0) : bump i = bump (i + 1) := by
  unfold bump
  rw [if_pos h, if_neg (by omega)]
theorem dv3 {M : Int} {n : Nat} (h : 0 ≤ M) (h1 : 1 ≤ n) (h3 : n ≤ 3) : (dv M n = 0) = ¬ ((if n = 1 then (100 : Int) else if n = 2 then 10000 else 1000000) ≤ M) := by
  apply propext
  have : n = 1 ∨ n = 2 ∨ n = 3 := by omega
  rcases this with rfl | rfl | rfl
  · show M / 100 = 0 ↔ ¬ (100 : Int) ≤ M
    omega
  · show M / 100 / 100 = 0 ↔ ¬ (10000 : Int) ≤ M
    omega
  · show M / 100 / 100 / 100 = 0 ↔ ¬ (1000000 : Int) ≤ M
    omega
theorem dv1000 {M : Int} {n : Nat} (h : 0 ≤ M) : dv M n = 0 ∨ 1 ≤ dv M n := by
  have := dv_nn h n
  omega
/-! ### data that may be a label, an end, a refused thing -/
def items : PyData → Option (List PyData)
  | .list ds => some ds
  | .tuple ds => some ds
  | _ => none
def isI : PyData → Bool
  | .int _ => true
  | _ => false
def toO : PyData → Option Int
  | .int i => if 0 ≤ i ∧ i ≤ 99 then some i else none
  | _ => none
def keptD (d : PyData) : Option (List Int) := match items d with
  | some ds => keep (ds.map toO)
  | none => none
def wI (l m : Int) : PyData → Bool
  | .int i => decide (l ≤ i ∧ i ≤ m)
  | _ => false
theorem toO_some (d : PyData) : (toO d).isSome = wI 0 99 d := by
  cases d with
  | int i =>
    show (if 0 ≤ i ∧ i ≤ 99 then some i else none).isSome = decide (0 ≤ i ∧ i ≤ 99)
    by_cases h : 0 ≤ i ∧ i ≤ 99
    · rw [if_pos h, decide_eq_true h]; rfl
    · rw [if_neg h, decide_eq_false h]; rfl
  | _ => rfl
theorem toO_ints {L : List Int} (h : ok99 L) : (L.map PyData.int).map toO = L.map some := by
  rw [List.map_map]
  exact List.map_congr_left fun i hi => if_pos (h i hi)
/-- a label may be a list too -/
def dLl (L : List Int) : PyData := .list (L.map PyData.int)
def dE (b : Bool) (o : Option (List Int)) : PyData := match o with
  | none => .none
  | some L => if b then dLl L else dL L
def okO (o : Option (List Int)) : Prop := ∀ L, o = some L → okL L
theorem kept_label_of {L : List Int} (h : okL L) (b : Bool) : keptD (dE b (some L)) = some L := by
  have e : keptD (dE b (some L)) = keep ((L.map PyData.int).map toO) := by cases b <;> rfl
  rw [e, toO_ints h.2.2, keep_ok h]
/-- what is refused -/
def Bad (d : PyData) : Prop := d ≠ .none ∧ keptD d = none
/-- what repr serves -/
def Shown (d : PyData) : Prop := d.showable = true ∧ d.hasDict = false ∧ d.depth ≤ 8 ∧ d.shown.length ≤ sizeLine
/-- no lists in it -/
def Nl : Nat → PyData → Prop
  | _, .none => True
  | _, .int _ => True
  | _, .bool _ => True
  | _, .str _ => True
  | n + 1, .tuple ds => ∀ d ∈ ds, Nl n d
  | _, _ => False
mutual
theorem dp_butN {K : PySem.W.Frag} {H H' : Hp} {a : Addr} {xs : List V} (ha : H a = some (.lst xs)) (b : But a H H') : ∀ {v : V} {d : PyData}, Dp K H v d → (∃ n, Nl n d) → Dp K H' v d
  | _, _, .non, _ => .non
  | _, _, .bl b, _ => .bl b
  | _, _, .int i, _ => .int i
  | _, _, .str x, _ => .str x
  | _, _, .lst _ _, ⟨n, h⟩ => by cases n <;> exact h.elim
  | _, _, .tup h k, ⟨0, z⟩ => z.elim
  | _, _, .tup h k, ⟨n + 1, z⟩ => .tup (seqT_but ha b h) (dpAll_butN ha b k fun d hd => ⟨n, z d hd⟩)
theorem dpAll_butN {K : PySem.W.Frag} {H H' : Hp} {a : Addr} {xs : List V} (ha : H a = some (.lst xs)) (b : But a H H') : ∀ {vs : List V} {ds : List PyData}, DpAll K H vs ds → (∀ d ∈ ds, ∃ n, Nl n d) → DpAll K H' vs ds
  | _, _, .nil, _ => .nil
  | _, _, .cons h k, z => .cons (dp_butN ha b h (z _ (List.mem_cons_self ..))) (dpAll_butN ha b k fun d hd => z d (List.mem_cons_of_mem _ hd))
end
theorem kit2_no {K : PySem.W.Frag} {t : String} (h1 : kitB t "tuple" = some false) (h2 : kitB t "list" = some false) : PySem.W.kitAny K (.type t) [.type "tuple", .type "list"] = some false :=
  kitAny_cons (kit_ty h1) (fun _ => kitAny_cons (kit_ty h2) (fun _ => rfl) (fun z => by cases z)) (fun z => by cases z)
theorem allSome_all : ∀ {os : List (Option Int)} {L : List Int}, allSome os = some L → os = L.map some
  | [], L, h => by
    cases h
    rfl
  | none :: r, L, h => by cases h
  | some i :: r, L, h => by
    unfold allSome at h
    split at h
    · rename_i L' e
      cases h
      rw [allSome_all e]
      rfl
    · cases h
theorem map_bl (ds : List PyData) : (ds.map fun d => V.bl (wI 0 99 d)) = (ds.map (wI 0 99)).map V.bl := (List.map_map ..).symm
theorem all_bl (ds : List PyData) : (ds.map (wI 0 99)).all id = ds.all (wI 0 99) := by
  rw [List.all_map]
  rfl
theorem all_ints : ∀ {ds : List PyData}, ds.all (wI 0 99) = true → ∃ L : List Int, ds = L.map PyData.int ∧ ok99 L
  | [], _ => ⟨[], rfl, fun _ h => nomatch h⟩
  | d :: r, h => by
    rw [List.all_cons, Bool.and_eq_true] at h
    obtain ⟨L, e, hL⟩ := all_ints h.2
    cases d with
    | int i =>
      have hi := of_decide_eq_true h.1
      refine ⟨i :: L, by rw [e]; rfl, fun j hj => ?_⟩
      rcases List.mem_cons.mp hj with z | z
      · rw [z]; exact hi
      · exact hL j z
    | _ => cases h.1
theorem not_all {ds : List PyData} (h : ds.all (wI 0 99) = false) : none ∈ ds.map toO := by
  obtain ⟨d, hd, e⟩ := List.all_eq_false.mp h
  refine List.mem_map.mpr ⟨d, hd, ?_⟩
  cases q : toO d with
  | none => rfl
  | some i =>
    have := toO_some d
    rw [q] at this
    exact absurd this.symm e
/-- what stands behind an own error that was made: its dict alone is new -/
theorem same_made {H0 H1 : Hp} {a dx C : Addr} {f : Str} {v : V} (s : Same H0 H1) (na : H1 a = none) (nd : upd H1 a (exo a C none) dx = none) (ne : dx ≠ a) :
    Same H0 (upd (del (upd (upd (upd H1 a (exo a C none)) dx (exd dx [(f, v)])) a (exo a C (some dx))) a) dx (.xd [(f, v)])) := fun b o e => by
  have e1 := s b o e
  have nd1 : H1 dx = none := by rw [upd_ne ne] at nd; exact nd
  have ba : b ≠ a := ne_of_none e1 na
  have bd : b ≠ dx := ne_of_none e1 nd1
  rw [upd_ne bd, del_ne ba, upd_ne ba, upd_ne bd, upd_ne ba]
  exact e1
theorem toO_bd {d : PyData} {i : Int} (h : toO d = some i) : 0 ≤ i ∧ i ≤ 99 := by
  cases d with
  | int j =>
    have h : (if 0 ≤ j ∧ j ≤ 99 then some j else none) = some i := h
    by_cases hj : 0 ≤ j ∧ j ≤ 99
    · rw [if_pos hj] at h
      cases h
      exact hj
    · rw [if_neg hj] at h
      cases h
  | _ => cases h
theorem keep_some {os : List (Option Int)} {L : List Int} (h : keep os = some L) : os = L.map some ∧ L.length ≤ 3 ∧ L.getLastD 0 ≠ 0 := by
  unfold keep at h
  cases e : allSome os with
  | none => rw [e] at h; cases h
  | some M =>
    rw [e] at h
    simp only at h
    split at h
    · rename_i hM
      cases h
      exact ⟨allSome_all e, hM⟩
    · cases h
theorem kept_okL {d : PyData} {L : List Int} (h : keptD d = some L) : okL L := by
  unfold keptD at h
  cases e : items d with
  | none => rw [e] at h; cases h
  | some ds =>
    rw [e] at h
    simp only at h
    obtain ⟨h1, h2, h3⟩ := keep_some h
    refine ⟨h2, h3, fun i hi => ?_⟩
    have : some i ∈ ds.map toO := by rw [h1]; exact List.mem_map_of_mem hi
    obtain ⟨d, _, q⟩ := List.mem_map.mp this
    exact toO_bd q
theorem kept_ok {d : PyData} {L : List Int} (h : keptD d = some L) : ok99 L ∧ L.length ≤ 3 ∧ L ≠ [] := by
  have := kept_okL h
  exact ⟨this.2.2, this.1, okL_ne this⟩
theorem cutV_to (xs : List V) (n : Nat) : cutV xs none (some (n : Int)) = xs.take n := by
  unfold cutV
  rw [HT.sIx_none, HT.sIx_nat, List.drop_zero, Nat.sub_zero]
  by_cases h : n ≤ xs.length
  · rw [Nat.min_eq_left h]
  · rw [Nat.min_eq_right (by omega), List.take_length, List.take_of_length_le (by omega)]
theorem pad_at (L : List Int) (n i : Nat) (h : i < n) : ((L ++ List.replicate n 0).take n)[i]? = some (L.getD i 0) := by
  rw [List.getElem?_take_of_lt h, List.getD_eq_getElem?_getD]
  by_cases hl : i < L.length
  · rw [List.getElem?_append_left hl, List.getElem?_eq_getElem hl]
    rfl
  · have e : L[i]? = none := List.getElem?_eq_none (by omega)
    rw [List.getElem?_append_right (by omega), e, List.getElem?_replicate, if_pos (by omega)]
    rfl
theorem pad_len (L : List Int) (n : Nat) : ((L ++ List.replicate n 0).take n).length = n := by
  rw [List.length_take, List.length_append, List.length_replicate]
  omega
theorem flat_one (n : Nat) : (List.replicate n [V.int 0]).flatten = (List.replicate n (0 : Int)).map V.int := by
  induction n with
  | zero => rfl
  | succ n ih =>
    rw [List.replicate_succ, List.flatten_cons, ih, List.replicate_succ]
    rfl
theorem num_foo (L : List Int) (n : Nat) : num L (n + 1) = num L n * 100 + L.getD n 0 := rfl
theorem dE_end {b : Bool} {o : Option (List Int)} (h : okO o) : ¬ Bad (dE b o) ∧ keptD (dE b o) = o := by
  cases o with
  | none => exact ⟨fun z => z.1 rfl, rfl⟩
  | some L =>
    have k := kept_label_of (h L rfl) b
    exact ⟨(fun z => by have z2 := z.2; rw [k] at z2; cases z2), k⟩
theorem dE_false (o : Option (List Int)) : dE false o = oD dL o := by cases o <;> rfl
theorem relRef {a : Addr} : ∀ u : Value, RelV (.ref a) u → u = .ref a := fun _ h => h
theorem relTy {s : String} : ∀ u : Value, RelV (.ty s) u → u = .type s := fun _ h => h
/-- what isinstance must know of the class -/
theorem excC_of {K : PySem.W.Frag} {D : Addr} (h1 : PySem.W.findIn K (.ref D) "__getattribute__" = some (some (.builtin "BaseException.__getattribute__"))) (h2 : PySem.W.findIn K (.ref D) "__getattr__" = some none) (h3 : PySem.W.subIn K (.ref D) (.type "BaseException") = some true)
    (h4 : PySem.W.hasDictIn K D = true) (h5 : PySem.W.findIn K (.ref D) "__class__" = some (some (.builtin "object.__class__"))) (h6 : PySem.W.specialIn K (.builtin "object.__class__") "__get__" = some (some (.builtin "getset_descriptor.__get__"))) (h7 : PySem.W.takesIn K (.builtin "object.__class__") = some true)
    (h8 : PySem.W.mroIn K D (.type "object") = some true) : ExcC K D := ⟨h1, h2, h3, h4, h5, h6, h7, h8⟩
theorem okL_snoc {R : List Int} {z : Int} (h : ok99 R) (l : R.length ≤ 2) (h1 : 1 ≤ z) (h9 : z ≤ 99) : okL (R ++ [z]) := by
  refine ⟨by rw [List.length_append]; show R.length + 1 ≤ 3; omega, ?_, fun i hi => ?_⟩
  · rw [List.getLastD_eq_getLast?, List.getLast?_append]
    show z ≠ 0
    omega
  · rcases List.mem_append.mp hi with e | e
    · exact h i e
    · rw [List.mem_singleton.mp e]; omega
theorem okL_split {L : List Int} (h : okL L) : ∃ R z, L = R ++ [z] ∧ ok99 R ∧ R.length ≤ 2 ∧ 1 ≤ z ∧ z ≤ 99 := by
  have hne := okL_ne h
  obtain ⟨R, z, rfl⟩ : ∃ R z, L = R ++ [z] := ⟨_, _, (List.dropLast_concat_getLast hne).symm⟩
  have hz := h.2.2 z (by simp)
  have hz0 : z ≠ 0 := by
    have := h.2.1
    rw [List.getLastD_eq_getLast?, List.getLast?_append] at this
    exact this
  have hl := h.1
  rw [List.length_append] at hl
  exact ⟨R, z, rfl, fun i hi => h.2.2 i (List.mem_append_left _ hi), by have : R.length + 1 ≤ 3 := hl; omega, by omega, hz.2⟩
theorem src_lst {H : Hp} {a : Addr} (s : Src H a) : ∃ xs, H a = some (.lst xs) := by
  obtain ⟨g, x, c, e⟩ := s
  exact ⟨_, e⟩
theorem sqT_src {K : PySem.W.Frag} {H H' : Hp} {a p : Addr} {ys : List V} (s : Src H a) (b : But a H H') (h : SqT K H p ys) : SqT K H' p ys := by
  obtain ⟨xs, e⟩ := src_lst s
  exact seqT_but e b h
theorem dpN_src {K : PySem.W.Frag} {H H' : Hp} {a : Addr} {v : V} {d : PyData} (s : Src H a) (b : But a H H') (h : Dp K H v d) (n : ∃ n, Nl n d) : Dp K H' v d := by
  obtain ⟨xs, e⟩ := src_lst s
  exact dp_butN e b h n
theorem nl_L (L : List Int) : ∃ n, Nl n (dL L) := ⟨1, fun d hd => by
  obtain ⟨i, _, rfl⟩ := List.mem_map.mp hd
  trivial⟩
theorem nl_O (o : Option (List Int)) : ∃ n, Nl n (oD dL o) := by
  cases o with
  | none => exact ⟨0, trivial⟩
  | some L => exact nl_L L
theorem srcN {H : Hp} {a p : Addr} (s : Src H a) (n : H p = none) (o : HO) : Src (upd H p o) a := s.put (s.ne n) o
theorem sIx_m1 (n : Nat) : HT.sIx n n (some (-1)) = n - 1 := by
  show ((-1 : Int) + (n : Int)).toNat = n - 1
  omega
theorem cut_last (xs : List V) : cutV xs none (some (-1)) = xs.dropLast := by
  unfold cutV
  rw [sIx_m1, HT.sIx_none, List.drop_zero, Nat.sub_zero, List.dropLast_eq_take]
/-! ### refused things: short, without lists -/
def Sm (B k : Nat) (d : PyData) : Prop := d.showable = true ∧ d.hasDict = false ∧ d.depth ≤ k ∧ d.shown.length ≤ B
theorem sm_all {B k : Nat} : ∀ {ds : List PyData}, (∀ d ∈ ds, Sm B k d) → PyData.showableAll ds = true ∧ PyData.hasDictAll ds = false ∧ PyData.depthAll ds ≤ k ∧ ((PyData.shownAll ds).map (·.length)).sum ≤ ds.length * B ∧ (PyData.shownAll ds).length = ds.length
  | [], _ => ⟨rfl, rfl, Nat.zero_le _, Nat.zero_le _, rfl⟩
  | d :: r, h => by
    obtain ⟨h1, h2, h3, h4⟩ := h d (List.mem_cons_self ..)
    obtain ⟨k1, k2, k3, k4, k5⟩ := sm_all fun e he => h e (List.mem_cons_of_mem _ he)
    refine ⟨?_, ?_, ?_, ?_, ?_⟩
    · show (d.showable && PyData.showableAll r) = true
      rw [h1, k1]
      rfl
    · show (d.hasDict || PyData.hasDictAll r) = false
      rw [h2, k2]
      rfl
    · show max d.depth (PyData.depthAll r) ≤ k
      omega
    · show ((d.shown :: PyData.shownAll r).map (·.length)).sum ≤ (r.length + 1) * B
      rw [List.map_cons, List.sum_cons, Nat.add_mul, Nat.one_mul]
      omega
    · show (d.shown :: PyData.shownAll r).length = r.length + 1
      rw [List.length_cons, k5]
theorem sm_tup {B k : Nat} {ds : List PyData} (hl : ds.length ≤ 5) (h : ∀ d ∈ ds, Sm B k d) : Sm (5 * B + 13) (k + 1) (.tuple ds) := by
  obtain ⟨k1, k2, k3, k4, k5⟩ := sm_all h
  refine ⟨k1, k2, Nat.succ_le_succ k3, ?_⟩
  have := tupleText_len_le (PyData.shownAll ds)
  have hm : ds.length * B ≤ 5 * B := Nat.mul_le_mul_right _ hl
  show (tupleText (PyData.shownAll ds)).length ≤ _
  omega
theorem sm_shown {B k : Nat} {d : PyData} (h : Sm B k d) (hB : B ≤ 20000) (hk : k ≤ 8) : Shown d := by
  obtain ⟨h1, h2, h3, h4⟩ := h
  refine ⟨h1, h2, by omega, ?_⟩
  rw [sizeLine_eq]
  omega
def Atom (d : PyData) : Prop := Sm 300 0 d ∧ Nl 0 d
theorem at_int {i : Int} (h : i.natAbs ≤ 200) : Atom (.int i) := by
  refine ⟨⟨decide_eq_true ?_, rfl, Nat.le_refl 0, ?_⟩, trivial⟩
  · exact Nat.lt_of_le_of_lt (Nat.log2_le_self _) (by omega)
  · have := len_str_of_int i
    show (Str.ofString (toString i)).length ≤ 300
    omega
theorem at_none : Atom .none := ⟨⟨rfl, rfl, Nat.le_refl 0, by decide +kernel⟩, trivial⟩
theorem at_true : Atom (.bool true) := ⟨⟨rfl, rfl, Nat.le_refl 0, by decide +kernel⟩, trivial⟩
theorem at_str {z : Str} (h : z.length ≤ 20) (hc : ∀ c ∈ z.cps.toList, c < 16 ^ 8) : Atom (.str z) := by
  refine ⟨⟨rfl, rfl, Nat.le_refl 0, ?_⟩, trivial⟩
  have := PySem.StrLaws.reprText_len z hc
  show (reprText z).length ≤ 300
  omega
def Od (d : PyData) : Prop := Bad d ∧ Shown d ∧ ∃ n, Nl n d
theorem od_row {ds : List PyData} (hl : ds.length ≤ 5) (ha : ∀ d ∈ ds, Atom d) (hk : keep (ds.map toO) = none) : Od (.tuple ds) :=
  ⟨⟨(fun z => nomatch z), hk⟩, sm_shown (sm_tup hl fun d hd => (ha d hd).1) (by decide) (by decide), 1, fun d hd => (ha d hd).2⟩
theorem at_ints {L : List Int} (h : ok99 L) : ∀ d ∈ L.map PyData.int, Atom d := fun d hd => by
  obtain ⟨i, hi, rfl⟩ := List.mem_map.mp hd
  have := h i hi
  exact at_int (by omega)
theorem od_rep {L : List Int} {k : Nat} {d : PyData} (hL : okL L) (hk : k < L.length) (ha : Atom d) (hn : toO d = none) : Od (.tuple (((L.take k).map PyData.int ++ [d]) ++ (L.drop (k + 1)).map PyData.int)) := by
  refine od_row ?_ (fun e he => ?_) (keep_none ?_)
  · have := hL.1
    simp only [List.length_append, List.length_map, List.length_take, List.length_drop, List.length_cons, List.length_nil]
    omega
  · rcases List.mem_append.mp he with h | h
    · rcases List.mem_append.mp h with h | h
      · exact at_ints (fun i hi => hL.2.2 i (List.mem_of_mem_take hi)) e h
      · rw [List.mem_singleton.mp h]; exact ha
    · exact at_ints (fun i hi => hL.2.2 i (List.mem_of_mem_drop hi)) e h
  · refine List.mem_map.mpr ⟨d, ?_, hn⟩
    exact List.mem_append_left _ (List.mem_append_right _ (List.mem_singleton.mpr rfl))
theorem keep_last0 {R : List Int} (h : ok99 R) : keep (((R ++ [0]).map PyData.int).map toO) = none := by
  have k0 : ok99 (R ++ [0]) := fun i hi => by
    rcases List.mem_append.mp hi with e | e
    · exact h i e
    · rw [List.mem_singleton.mp e]; exact ⟨by decide, by decide⟩
  rw [toO_ints k0, keep_map, if_neg ?_]
  rintro ⟨_, h2⟩
  apply h2
  rw [List.getLastD_eq_getLast?, List.getLast?_append]
  rfl
theorem fL_sign {L : List Int} (h : okL L) : ∀ c ∈ (fL L).cps.toList, c < 16 ^ 8 := by
  intro c hc
  have key : c ≤ 57 := by
    unfold fL at hc
    rw [TL.join_eq] at hc
    rcases (mem_join _ _ _).mp hc with ⟨t, ht, h1⟩ | ⟨_, h1⟩
    · obtain ⟨i, hi, rfl⟩ := List.mem_map.mp ht
      exact ((num_ok (h.2.2 i hi).1 (h.2.2 i hi).2).2.2.1 c h1).2
    · have e : ("." : Str).cps.toList = [46] := by decide +kernel
      rw [e] at h1
      rw [List.mem_singleton.mp h1]
      decide
  exact Nat.lt_of_le_of_lt key (by decide)
/-! ### t + u and t[i:j], told once for all ways -/
theorem cat_go {K : PySem.W.Frag} {H : Hp} {Q : VK} {a b : Addr} {xs ys : List V} (ha : SqT K H a xs) (hb : SqT K H b ys) (hl : xs.length + ys.length ≤ 1000) (h : ∀ c H', Same H H' → SqT K H' c (xs ++ ys) → Q (.ref c) H') : rCatA K (.ref a) (.ref b) H Q :=
  ⟨a, b, xs, ys, rfl, rfl, ha, hb, Nat.le_of_lt (small1000 hl), fun e => h b H (Same.refl H) (by rw [e]; exact hb), fun _ e => h a H (Same.refl H) (by rw [e, List.append_nil]; exact ha), fun _ _ p np => h p _ (same_upd np) (.inl (.inl upd_same))⟩
theorem cut_whole {xs : List V} {lo hi : Option Int} (h : HT.sIx xs.length 0 lo = 0 ∧ HT.sIx xs.length xs.length hi = xs.length) : cutV xs lo hi = xs := by
  unfold cutV
  rw [h.1, h.2, List.drop_zero, Nat.sub_zero, List.take_length]
theorem sl_go {K : PySem.W.Frag} {H : Hp} {Q : VK} {a : Addr} {xs : List V} {lo hi : Option Int} (ha : SqT K H a xs) (h : ∀ c H', Same H H' → SqT K H' c (cutV xs lo hi) → Q (.ref c) H') : rSlA K (.ref a) lo hi H Q :=
  ⟨a, xs, rfl, ha, fun e => h a H (Same.refl H) (by rw [cut_whole e]; exact ha), fun _ p np => h p _ (same_upd np) (.inl (.inl upd_same))⟩
theorem cutV_from (xs : List V) (k : Nat) : cutV xs (some (k : Int)) none = xs.drop k := by
  unfold cutV
  rw [HT.sIx_nat]
  have e : HT.sIx xs.length xs.length none = xs.length := HT.sIx_none ..
  rw [e]
  by_cases h : k ≤ xs.length
  · rw [Nat.min_eq_left h, List.take_of_length_le]
    rw [List.length_drop]
    omega
  · rw [Nat.min_eq_right (by omega), Nat.sub_self, List.take_zero, List.drop_eq_nil_of_le (by omega)]
theorem dpAll_app {K : PySem.W.Frag} {H : Hp} : ∀ {vs ws : List V} {ds es : List PyData}, DpAll K H vs ds → DpAll K H ws es → DpAll K H (vs ++ ws) (ds ++ es)
  | _, _, _, _, .nil, h => h
  | _, _, _, _, .cons k r, h => .cons k (dpAll_app r h)
/-- what the law has seen: two ends and what stands between them -/
def Elem (K : PySem.W.Frag) (H : Hp) (r : Addr) : Prop := ∃ (x y z : V) (lo hi : Option (List Int)), H r = some (.lst [x, y, z]) ∧ Dp K H x (oD dL lo) ∧ Dp K H y (oD dL hi) ∧ okO lo ∧ okO hi ∧ Dp K H z (oD dL (btw lo hi))
theorem Elem.same {K : PySem.W.Frag} {H H' : Hp} {r : Addr} (s : Same H H') (h : Elem K H r) : Elem K H' r := by
  obtain ⟨x, y, z, lo, hi, e, hx, hy, ko, kh, hz⟩ := h
  exact ⟨x, y, z, lo, hi, s _ _ e, dp_same s hx, dp_same s hy, ko, kh, dp_same s hz⟩
theorem Elem.put {K : PySem.W.Frag} {H : Hp} {r S : Addr} {ys : List V} {o : HO} (hS : H S = some (.lst ys)) (n : r ≠ S) (h : Elem K H r) : Elem K (upd H S o) r := by
  obtain ⟨x, y, z, lo, hi, e, hx, hy, ko, kh, hz⟩ := h
  exact ⟨x, y, z, lo, hi, by rw [upd_ne n]; exact e, dp_butN hS (But.upd o) hx (nl_O lo), dp_butN hS (But.upd o) hy (nl_O hi), ko, kh, dp_butN hS (But.upd o) hz (nl_O _)⟩
section
variable {P : Program} {w : World} {K : PySem.W.Frag} {mg : Str → Option Value} {base : Heap}
/-! ### the promises -/
def sp_BadLabel_init (K : PySem.W.Frag) (C : Addr) : Sp := fun vs H Q _ => ∃ (a : Addr) (v : V), vs = [.ref a, v] ∧ OexC K C ∧ PySem.W.findIn K (.ref C) "label" = some none ∧ H a = some (exo a C none) ∧ ∀ dx, H dx = none → dx ≠ a → Q .non (upd (upd H dx (exd dx [("label", v)])) a (exo a C (some dx)))
def sp_is_integer (K : PySem.W.Frag) : Sp := fun vs H Q _ => ∃ (v : V) (d : PyData), vs = [v] ∧ Dp K H v d ∧ Q (.bl (isI d)) H
def sp_is_within (K : PySem.W.Frag) : Sp := fun vs H Q _ => ∃ (v : V) (d : PyData) (l m : Int), vs = [v, .int l, .int m] ∧ Dp K H v d ∧ Q (.bl (wI l m d)) H
def sp_is_tuple (K : PySem.W.Frag) : Sp := fun vs H Q _ => ∃ (v : V) (d : PyData), vs = [v] ∧ Dp K H v d ∧ ∀ H', Same H H' → Q (.bl (items d).isSome) H'
def sz (l m : Int) (d : PyData) : Bool := match items d with
  | some ds => decide (l ≤ (ds.length : Int) ∧ (ds.length : Int) ≤ m)
  | none => false
def sp_is_sized (K : PySem.W.Frag) : Sp := fun vs H Q _ => ∃ (v : V) (d : PyData) (l m : Int), vs = [v, .int l, .int m] ∧ Dp K H v d ∧ ∀ H', Same H H' → Q (.bl (sz l m d)) H'
def sp_kept_label (K : PySem.W.Frag) : Sp := fun vs H Q _ => ∃ (v : V) (d : PyData), vs = [v] ∧ Dp K H v d ∧ ∀ y H', Same H H' → Dp K H' y (oD dL (keptD d)) → Q y H'
def sp_judged_label (K : PySem.W.Frag) (C : Addr) : Sp := fun vs H Q E => ∃ (v : V) (d : PyData), vs = [v] ∧ Dp K H v d ∧
  (keptD d = none → ∀ H' dd, Same H H' → H' dd = some (.xd [("label", v)]) → E (.ref C) (some dd) H') ∧ (∀ L, keptD d = some L → ∀ y H', Same H H' → Dp K H' y (dL L) → Q y H')
/-- the first of the two that is bad; else what stands between them -/
def sp_between (K : PySem.W.Frag) (CB CN : Addr) : Sp := fun vs H Q E => ∃ (x y : V) (dx dy : PyData), vs = [x, y] ∧ Dp K H x dx ∧ Dp K H y dy ∧
  (Bad dx → ∀ H' dd, Same H H' → H' dd = some (.xd [("label", x)]) → E (.ref CB) (some dd) H') ∧
  (¬ Bad dx → Bad dy → ∀ H' dd, Same H H' → H' dd = some (.xd [("label", y)]) → E (.ref CB) (some dd) H') ∧
  (¬ Bad dx → ¬ Bad dy → btw (keptD dx) (keptD dy) = none → ∀ H', Same H H' → E (.ref CN) none H') ∧
  (¬ Bad dx → ¬ Bad dy → ∀ L, btw (keptD dx) (keptD dy) = some L → ∀ v H', Same H H' → Dp K H' v (dL L) → Q v H')
def sp_least_above (K : PySem.W.Frag) : Sp := fun vs H Q _ => ∃ (v : V) (o : Option (List Int)) (n : Nat), vs = [v, .int n] ∧ Dp K H v (oD dL o) ∧ (∀ L, o = some L → ok99 L ∧ L.length ≤ 3 ∧ L ≠ []) ∧ 1 ≤ n ∧ n ≤ 3 ∧ ∀ y H', Same H H' → Dp K H' y (oD dL (least (o.getD []) n)) → Q y H'
def sp_source (K : PySem.W.Frag) : Sp := fun vs H Q _ => ∃ (a : Addr) (ns : List Int) (k : Nat), vs = [.ref a, .int k] ∧ SqL K H a (ns.map V.int) ∧ ∀ p H', Same H H' → H p = none → Src H' p → Q (.ref p) H'
def sp_pick (K : PySem.W.Frag) : Sp := fun vs H Q _ => ∃ (a : Addr) (m : Int), vs = [.ref a, .int m] ∧ Src H a ∧ 1 ≤ m ∧ m ≤ 1000000 ∧ ∀ r H', Src H' a → But a H H' → 0 ≤ r → r < m → Q (.int r) H'
def sp_law_is_integer (K : PySem.W.Frag) : Sp := fun vs H Q _ => ∃ i : Int, vs = [.int i] ∧ Q (.bl true) H
def sp_figure (K : PySem.W.Frag) : Sp := fun vs H Q _ => ∃ (a : Addr) (l : Int), vs = [.ref a, .int l] ∧ Src H a ∧ 0 ≤ l ∧ l ≤ 1 ∧ ∀ r H', Src H' a → But a H H' → l ≤ r → r ≤ 99 → Q (.int r) H'
def sp_label (K : PySem.W.Frag) : Sp := fun vs H Q _ => ∃ a : Addr, vs = [.ref a] ∧ Src H a ∧ ∀ v (L : List Int) H', Src H' a → But a H H' → Dp K H' v (dL L) → okL L → Q v H'
def sp_behind (K : PySem.W.Frag) : Sp := fun vs H Q _ => ∃ (a : Addr) (v : V) (L : List Int), vs = [.ref a, v] ∧ Src H a ∧ Dp K H v (dL L) ∧ okL L ∧ ∀ y (M : List Int) H', Src H' a → But a H H' → Dp K H' y (dL M) → okL M → Q y H'
def sp_two (K : PySem.W.Frag) : Sp := fun vs H Q _ => ∃ a : Addr, vs = [.ref a] ∧ Src H a ∧ ∀ p x y (lo hi : Option (List Int)) H', Src H' a → But a H H' → H p = none → H' p = some (.lst [x, y]) → Dp K H' x (oD dL lo) → Dp K H' y (oD dL hi) → okO lo → okO hi → Q (.ref p) H'
def sp_odd (K : PySem.W.Frag) : Sp := fun vs H Q _ => ∃ (a : Addr) (v : V) (L : List Int), vs = [.ref a, v] ∧ Src H a ∧ Dp K H v (dL L) ∧ okL L ∧ ∀ y (d : PyData) H', Src H' a → But a H H' → Dp K H' y d → Bad d → Shown d → (∃ n, Nl n d) → Q y H'
def sp_least (K : PySem.W.Frag) : Sp := fun vs H Q _ => ∃ (v : V) (L : List Int) (n : Nat), vs = [v, .int n] ∧ Dp K H v (dL L) ∧ ok99 L ∧ L.length ≤ 3 ∧ 1 ≤ n ∧ n ≤ 3 ∧ ∀ y H', Same H H' → Dp K H' y (oD dL (least L n)) → Q y H'
def sp_due (K : PySem.W.Frag) : Sp := fun vs H Q _ => ∃ (x y : V) (lo hi : Option (List Int)), vs = [x, y] ∧ Dp K H x (oD dL lo) ∧ Dp K H y (oD dL hi) ∧ okO lo ∧ okO hi ∧ ∀ v H', Same H H' → Dp K H' v (oD dL (btw lo hi)) → Q v H'
def sp_is_label (K : PySem.W.Frag) : Sp := fun vs H Q _ => ∃ (x y : V) (L : List Int), vs = [x, y] ∧ Dp K H x (dL L) ∧ Dp K H y (dL L) ∧ Q (.bl true) H
def sp_asked (K : PySem.W.Frag) : Sp := fun vs H Q _ => ∃ (x y z : V) (b c : Bool) (lo hi : Option (List Int)), vs = [x, y, z] ∧ Dp K H x (dE b lo) ∧ Dp K H y (dE c hi) ∧ okO lo ∧ okO hi ∧ Dp K H z (oD dL (btw lo hi)) ∧ ∀ H', Same H H' → Q (.bl true) H'
def sp_refused (K : PySem.W.Frag) : Sp := fun vs H Q _ => ∃ (x y z : V) (dx dy dz : PyData), vs = [x, y, z] ∧ Dp K H x dx ∧ Dp K H y dy ∧ Dp K H z dz ∧ Shown dz ∧ ((Bad dx ∧ z = x) ∨ (¬ Bad dx ∧ Bad dy ∧ z = y)) ∧ ∀ H', Same H H' → Q (.bl true) H'
def sp_refused_as_base (K : PySem.W.Frag) : Sp := fun vs H Q _ => ∃ (x y : V) (dx dy : PyData), vs = [x, y] ∧ Dp K H x dx ∧ Dp K H y dy ∧ ¬ Bad dx ∧ Bad dy ∧ ∀ H', Same H H' → Q (.bl true) H'
def sp_listed (K : PySem.W.Frag) : Sp := fun vs H Q _ => ∃ (x : V) (lo : Option (List Int)), vs = [x] ∧ Dp K H x (oD dL lo) ∧ ∀ v H', Same H H' → Dp K H' v (dE true lo) → Q v H'
def sp_lists_asked (K : PySem.W.Frag) : Sp := fun vs H Q _ => ∃ (x y z : V) (lo hi : Option (List Int)), vs = [x, y, z] ∧ Dp K H x (oD dL lo) ∧ Dp K H y (oD dL hi) ∧ okO lo ∧ okO hi ∧ Dp K H z (oD dL (btw lo hi)) ∧ ∀ H', Same H H' → Q (.bl true) H'
def sp_law (K : PySem.W.Frag) : Sp := fun vs H Q _ => ∃ (a : Addr) (ns : List Int), vs = [.ref a] ∧ SqL K H a (ns.map V.int) ∧ ns.length ≤ 63 ∧ ∀ H', Q (.bl true) H'
theorem between_bad {K : PySem.W.Frag} {CB CN : Addr} {x y z : V} {dx dy : PyData} {H : Hp} {Q : VK} {E : XK} (hx : Dp K H x dx) (hy : Dp K H y dy) (which : (Bad dx ∧ z = x) ∨ (¬ Bad dx ∧ Bad dy ∧ z = y))
    (h : ∀ H' dd, Same H H' → H' dd = some (.xd [("label", z)]) → E (.ref CB) (some dd) H') : sp_between K CB CN [x, y] H Q E := by
  refine ⟨x, y, dx, dy, rfl, hx, hy, fun b1 H' dd s1 hd => ?_, fun n1 b2 H' dd s1 hd => ?_, fun n1 n2 => ?_, fun n1 n2 => ?_⟩
  · rcases which with ⟨_, rfl⟩ | ⟨n, _⟩
    · exact h H' dd s1 hd
    · exact absurd b1 n
  · rcases which with ⟨b, _⟩ | ⟨_, _, rfl⟩
    · exact absurd b n1
    · exact h H' dd s1 hd
  · rcases which with ⟨b, _⟩ | ⟨_, b, _⟩
    · exact absurd b n1
    · exact absurd b n2
  · rcases which with ⟨b, _⟩ | ⟨_, b, _⟩
    · exact absurd b n1
    · exact absurd b n2
theorem ok_BadLabel_init (T : Tab K mg) : FnOk P w K mg base CX0 1 T.f_BadLabel_init T.d_BadLabel_init ["self", "label"] (sp_BadLabel_init K T.C_BadLabel) := by
  refine T.F_BadLabel_init.ok sc_BadLabel_init (fun vs H Q E h => ?_) (fun cdv A outer s H vs Q E hr h => ?_)
  · obtain ⟨a, v, rfl, _⟩ := h
    rfl
  · obtain ⟨a, v, rfl, hO, hN, ha, q⟩ := h
    refine ⟨_, (pss_one (ps_ost (pv 0) (pv 1))), ?_⟩
    exact ⟨_, rfl, _, rfl, a, _, rfl, hO, hN, .inl ⟨ha, fun dx h1 h2 => q dx h1 h2⟩⟩
theorem ok_is_integer (T : Tab K mg) : FnOk P w K mg base CX0 1 T.f_is_integer T.d_is_integer ["thing"] (sp_is_integer K) := by
  refine T.F_is_integer.ok sc_is_integer (fun vs H Q E h => ?_) (fun cdv A outer s H vs Q E hr h => ?_)
  · obtain ⟨v, d, rfl, _⟩ := h
    rfl
  · obtain ⟨v, d, rfl, hd, q⟩ := h
    refine ⟨_, (pss_one (ps_ret (pe_and (pe_callB call_isi (by rfl) T.m_isinstance (by decide +kernel) (pa_cons (pv 0) (pa_cons (pe_bltn (v := .ty "int") (u := .type "int") (by rfl) T.m_int (by decide +kernel) rfl) pa_nil))) (pe_one (pe_not (pe_callB call_isi (by rfl) T.m_isinstance (by decide +kernel) (pa_cons (pv 0) (pa_cons (pe_bltn (v := .ty "bool") (u := .type "bool") (by rfl) T.m_bool (by decide +kernel) rfl) pa_nil)))))))), ?_⟩
    cases hd with
    | non => exact ⟨_, rfl, _, _, _, _, _, rfl, .ty "int", .base .non, kit_ty (r := false) (by decide +kernel), false, rfl, q⟩
    | bl b =>
      refine ⟨_, rfl, _, _, _, _, _, rfl, .ty "int", .base (.bl b), kit_ty (by decide +kernel), true, rfl, iteT ?_⟩
      exact ⟨_, rfl, _, _, _, _, _, rfl, .ty "bool", .base (.bl b), kit_ty (r := true) (by decide +kernel), true, rfl, q⟩
    | int i =>
      refine ⟨_, rfl, _, _, _, _, _, rfl, .ty "int", .base (.int i), kit_ty (by decide +kernel), true, rfl, iteT ?_⟩
      exact ⟨_, rfl, _, _, _, _, _, rfl, .ty "bool", .base (.int i), kit_ty (r := false) (by decide +kernel), false, rfl, q⟩
    | str z => exact ⟨_, rfl, _, _, _, _, _, rfl, .ty "int", .base (.str z), kit_ty (r := false) (by decide +kernel), false, rfl, q⟩
    | lst h _ => exact ⟨_, rfl, _, _, _, _, _, rfl, .ty "int", ty_L h, kit_ty (r := false) (by decide +kernel), false, rfl, q⟩
    | tup h _ => exact ⟨_, rfl, _, _, _, _, _, rfl, .ty "int", ty_T h, kit_ty (r := false) (by decide +kernel), false, rfl, q⟩
theorem ok_is_tuple (T : Tab K mg) : FnOk P w K mg base CX0 1 T.f_is_tuple T.d_is_tuple ["thing"] (sp_is_tuple K) := by
  refine T.F_is_tuple.ok sc_is_tuple (fun vs H Q E h => ?_) (fun cdv A outer s H vs Q E hr h => ?_)
  · obtain ⟨v, d, rfl, _⟩ := h
    rfl
  · obtain ⟨v, d, rfl, hd, q⟩ := h
    refine ⟨_, (pss_one (ps_ret (pe_callB call_isiT (by rfl) T.m_isinstance (by decide +kernel) (pa_cons (pv 0) (pa_cons (pe_tup (pa_cons (pe_bltn (v := .ty "tuple") (u := .type "tuple") (by rfl) T.m_tuple (by decide +kernel) rfl) (pa_cons (pe_bltn (v := .ty "list") (u := .type "list") (by rfl) T.m_list (by decide +kernel) rfl) pa_nil))) pa_nil))))), ?_⟩
    refine ⟨_, rfl, (by show 2 ≤ sizeLine; decide), fun tp ntp => ?_⟩
    have s1 := same_upd (o := .tup [.ty "tuple", .ty "list"]) ntp
    have q1 := q _ s1
    cases hd with
    | lst h _ => exact ⟨_, tp, _, _, _, true, rfl, upd_same, .cons (.ty "tuple") (.cons (.ty "list") .nil), ty_L (s1.seq h), kit2_L, q1⟩
    | tup h _ => exact ⟨_, tp, _, _, _, true, rfl, upd_same, .cons (.ty "tuple") (.cons (.ty "list") .nil), ty_T (same_seqT s1 h), kit2_T, q1⟩
    | non => exact ⟨_, tp, _, _, _, false, rfl, upd_same, .cons (.ty "tuple") (.cons (.ty "list") .nil), .base .non, kit2_no (by decide +kernel) (by decide +kernel), q1⟩
    | bl b => exact ⟨_, tp, _, _, _, false, rfl, upd_same, .cons (.ty "tuple") (.cons (.ty "list") .nil), .base (.bl b), kit2_no (by decide +kernel) (by decide +kernel), q1⟩
    | int i => exact ⟨_, tp, _, _, _, false, rfl, upd_same, .cons (.ty "tuple") (.cons (.ty "list") .nil), .base (.int i), kit2_no (by decide +kernel) (by decide +kernel), q1⟩
    | str z => exact ⟨_, tp, _, _, _, false, rfl, upd_same, .cons (.ty "tuple") (.cons (.ty "list") .nil), .base (.str z), kit2_no (by decide +kernel) (by decide +kernel), q1⟩
theorem ok_least_above (T : Tab K mg) : FnOk P w K mg base CX0 1 T.f_least_above T.d_least_above ["low", "count"] (sp_least_above K) := by
  refine T.F_least_above.ok sc_least_above (fun vs H Q E h => ?_) (fun cdv A outer s H vs Q E hr h => ?_)
  · obtain ⟨v, o, n, rfl, _⟩ := h
    rfl
  · obtain ⟨v, o, n, rfl, hv, ho, h1, h3, q⟩ := h
    refine ⟨_, (C8.pss_cut (ps_set (i := 2) sc_least_above.nd rfl (.inl rfl) (pe_op op_cat (pe_callTy call_list_of (by rfl) T.m_list (by decide +kernel) (pa_cons (pe_orT (pv 0) (pe_one (pe_tup pa_nil))) pa_nil)) (pe_op op_rep (pe_lst (pa_cons pe_int pa_nil)) (pv 1))))
      (pss_cons (ps_set (i := 3) sc_least_above.nd rfl (.inl rfl) pe_int)
      (pss_cons (ps_for PassesOwn.never rfl (pi_list (pe_slice sl_list (pv 2) po_none (po_some (pv 1)))) (pg_name (i := 4) sc_least_above.nd rfl (.inl rfl))
      (pss_one (ps_set (i := 3) sc_least_above.nd rfl (.inl rfl) (pe_op op_add (pe_op op_mul (pv 3) pe_int) (pv 4)))))
      (pss_cons (ps_set (i := 3) sc_least_above.nd rfl (.inl rfl) (pe_op op_add (pv 3) pe_int))
      (C8.pss_cut (ps_if (pt_cmpR op_eq (pe_op op_mod (pv 3) pe_int) pe_int (nomark _))
      (pss_one (ps_set (i := 3) sc_least_above.nd rfl (.inl rfl) (pe_op op_add (pv 3) pe_int)))
      pss_nil)
      (pss_cons (ps_set (i := 5) sc_least_above.nd rfl (.inl rfl) (pe_lst pa_nil))
      (pss_cons (ps_for PassesOwn.never rfl (pi_range1 (by rfl) T.m_range (pa_cons (pv 1) pa_nil)) (pg_name (i := 6) sc_least_above.nd rfl (.inl rfl))
      (pss_cons (ps_expr (pe_bm PySem.F.plainAttrs_list PySem.F.slot_list_append PySem.F.type_list_append mt_append (pv 5) (pa_cons (pe_op op_mod (pv 3) pe_int) pa_nil)))
        (pss_one (ps_set (i := 3) sc_least_above.nd rfl (.inl rfl) (pe_op op_fdiv (pv 3) pe_int)))))
      (pss_one (ps_ret (pe_ifExp (pt_truth (pv 3) (fun _ => rfl)) pe_non (pe_callTy call_tuple_of (by rfl) T.m_tuple (by decide +kernel) (pa_cons (pe_revL (pv 5) (po_some (pe_un un_neg pe_int))) pa_nil)))))))))))), ?_⟩
    have n1 : (1 : Int) ≤ (n : Int) ∧ (n : Int) ≤ 3 := by omega
    have h99 : ok99 (o.getD []) ∧ (o.getD []).length ≤ 3 := by
      cases o with
      | none => exact ⟨(fun _ h => nomatch h), by decide⟩
      | some L => exact ⟨(ho L rfl).1, (ho L rfl).2.1⟩
    have tl : ∀ (H0 : Hp) (l : Addr), Same H H0 → H0 l = some (.lst ((o.getD []).map V.int)) → ∀ l2, H0 l2 = Option.none → ∀ p3, upd H0 l2 (.lst [V.int 0]) p3 = Option.none →
        Same H (upd (upd H0 l2 (.lst [V.int 0])) p3 (.lst (List.replicate n [V.int 0]).flatten)) ∧ upd (upd H0 l2 (.lst [V.int 0])) p3 (.lst (List.replicate n [V.int 0]).flatten) l = some (.lst ((o.getD []).map V.int)) := fun H0 l s0 e0 l2 m2 p3 m3 => by
      have s1 := same_upd (o := .lst [V.int 0]) m2
      have s2 := same_upd (o := .lst (List.replicate n [V.int 0]).flatten) m3
      exact ⟨(s0.trans s1).trans s2, s2 _ _ (s1 _ _ e0)⟩
    refine ⟨fun σ' H' => ∃ p : Addr, σ' = [some v, some (.int (n : Int)), some (.ref p), none, none, none, none] ∧ Same H H' ∧ H' p = some (.lst ((o.getD [] ++ List.replicate n 0).map V.int)), ?_, ?_⟩
    · have fin : ∀ (H0 : Hp) (l : Addr), Same H H0 → H0 l = some (.lst ((o.getD []).map V.int)) → ∀ l2, H0 l2 = Option.none → ∀ p3, upd H0 l2 (.lst [V.int 0]) p3 = Option.none → _ := fun H0 l s0 e0 l2 m2 p3 m3 => (tl H0 l s0 e0 l2 m2 p3 m3)
      cases o with
      | none =>
        cases hv
        refine ⟨_, rfl, false, rfl, iteF ?_⟩
        refine ⟨Nat.zero_le _, fun t nt => ?_⟩
        refine ⟨t, [], rfl, .inr (.inl (.inl upd_same)), fun l nl => ?_⟩
        have s0 : Same H (upd (upd H t (.tup [])) l (.lst [])) := (same_upd nt).trans (same_upd nl)
        refine ⟨(by show 1 ≤ sizeLine; decide), fun l2 m2 => ?_⟩
        refine ⟨_, rfl, l2, _, [V.int 0], rfl, rfl, upd_same, by omega, by omega, (by show 1 * n ≤ sizeLine; exact Nat.le_of_lt (small1000 (by omega))), fun p3 m3 => ?_⟩
        rw [Int.toNat_natCast]
        obtain ⟨s3, e3⟩ := fin _ l s0 upd_same l2 m2 p3 m3
        refine ⟨l, p3, _, _, rfl, rfl, e3, upd_same, ?_, fun p4 m4 => ?_⟩
        · rw [flat_one, List.length_map, List.length_map, List.length_replicate]; exact Nat.le_of_lt (small1000 (by show 0 + n ≤ 1000; omega))
        · refine ⟨p4, rfl, s3.trans (same_upd m4), ?_⟩
          rw [upd_same, flat_one, List.map_append]
      | some L =>
        obtain ⟨p, rfl, hp⟩ := dL_inv hv
        have hne := (ho L rfl).2.2
        refine ⟨_, rfl, true, .inr (.inl ⟨_, hp, ?_⟩), iteT ?_⟩
        · cases L with
          | nil => exact absurd rfl hne
          | cons x r => rfl
        refine ⟨p, _, rfl, .inr hp, fun l nl => ?_⟩
        have s0 : Same H (upd H l (.lst (L.map V.int))) := same_upd nl
        refine ⟨(by show 1 ≤ sizeLine; decide), fun l2 m2 => ?_⟩
        refine ⟨_, rfl, l2, _, [V.int 0], rfl, rfl, upd_same, by omega, by omega, (by show 1 * n ≤ sizeLine; exact Nat.le_of_lt (small1000 (by omega))), fun p3 m3 => ?_⟩
        rw [Int.toNat_natCast]
        obtain ⟨s3, e3⟩ := fin _ l s0 upd_same l2 m2 p3 m3
        refine ⟨l, p3, _, _, rfl, rfl, e3, upd_same, ?_, fun p4 m4 => ?_⟩
        · rw [flat_one, List.length_map, List.length_map, List.length_replicate]; exact Nat.le_of_lt (small1000 (by have := h99.2; show L.length + n ≤ 1000; have e : (some L).getD [] = L := rfl; rw [e] at this; omega))
        · refine ⟨p4, rfl, s3.trans (same_upd m4), ?_⟩
          rw [upd_same, flat_one, List.map_append]
    generalize o.getD [] = L at h99 q
    rintro σ' H1 ⟨p, rfl, s1, eP⟩
    refine ⟨_, rfl, _, rfl, (n : Int), rfl, _, _, rfl, .inl (.inl eP), fun p2 m2 => ?_⟩
    rw [cutV_to, ← List.map_take] at *
    have s2 : Same H1 (upd H1 p2 (.lst (((L ++ List.replicate n 0).take n).map V.int))) := same_upd m2
    refine ⟨_, rfl, ⟨_, .inl (.inl upd_same)⟩, for_list (xs := ((L ++ List.replicate n 0).take n).map V.int) (fun i σ' H' => ∃ y4 : Option V, σ' = [some v, some (.int (n : Int)), some (.ref p), some (.int (num L i)), y4, none, none] ∧ Same (upd H1 p2 (.lst (((L ++ List.replicate n 0).take n).map V.int))) H' ∧ i ≤ n) ⟨none, rfl, Same.refl _, Nat.zero_le _⟩ (fun i σ' H' _ ⟨_, _, s, _⟩ => .inl (.inl (s _ _ upd_same))) ?_ ?_⟩
    · rintro i x σ' H3 hx ⟨y4, rfl, s3, hin⟩
      have hi : i < n := by
        have := (List.getElem?_eq_some_iff.mp hx).1
        rw [List.length_map, pad_len] at this
        exact this
      rw [List.getElem?_map, pad_at L n i hi] at hx
      cases hx
      have hb := num_small h99.1 (Nat.le_of_lt (Nat.lt_of_lt_of_le hi h3))
      refine ⟨_, rfl, _, _, rfl, rfl, .inl ⟨by omega, by omega⟩, _, rfl, _, _, rfl, rfl, ?_⟩
      exact ⟨_, rfl, s3, hi⟩
    · rintro σ' H3 ⟨y4, rfl, s3, _⟩
      rw [List.length_map, pad_len]
      have hb := num_small h99.1 h3
      have sH := (s1.trans s2).trans s3
      refine ⟨_, rfl, _, _, rfl, rfl, ?_⟩
      refine ⟨fun σ' H' => σ' = [some v, some (.int (n : Int)), some (.ref p), some (.int (bump (num L n + 1))), y4, none, none] ∧ H3 = H', ?_, ?_⟩
      · refine ⟨_, rfl, _, _, rfl, rfl, (by show (0 : Int) < 100; decide), rfl, _, rfl, ite2 (fun e => ?_) (fun e => ?_)⟩
        · have e0 : (num L n + 1) % 100 = 0 := V.int.inj (of_decide_eq_true e)
          refine ⟨_, rfl, _, _, rfl, rfl, ?_, rfl⟩
          unfold bump
          rw [if_pos e0]
          rfl
        · have e0 : ¬ (num L n + 1) % 100 = 0 := fun z => e (decide_eq_true (congrArg V.int z))
          refine ⟨?_, rfl⟩
          unfold bump
          rw [if_neg e0]
          rfl
      rintro σ' H' ⟨rfl, rfl⟩
      have bb := bump_bd (i := num L n + 1) (by omega)
      have el : least L n = if dv (bump (num L n + 1)) n = 0 then some (lsd (bump (num L n + 1)) n).reverse else none := rfl
      generalize bump (num L n + 1) = M at bb el
      refine ⟨Nat.zero_le _, fun D nD => ?_⟩
      refine ⟨_, rfl, _, rfl, by omega, by omega, for_range (lo := 0) (n := n) (fun i σ' H' => ∃ y6 : Option V, σ' = [some v, some (.int (n : Int)), some (.ref p), some (.int (dv M i)), y4, some (.ref D), y6] ∧ Same H3 H' ∧ H' D = some (.lst ((lsd M i).map V.int))) ⟨none, rfl, same_upd nD, upd_same⟩ ?_ ?_⟩
      · rintro i σ' H4 hi ⟨y6, rfl, s4, eD⟩
        have d0 := dv_nn (M := M) (by omega) i
        have dl := dv_le (M := M) (by omega) i
        refine ⟨_, rfl, .inl ⟨rfl, _, .inl (.inl eD)⟩, _, rfl, _, _, rfl, rfl, (by show (0 : Int) < 100; decide), D, _, _, rfl, rfl, eD, ?_, ?_⟩
        · rw [List.length_map, lsd_len]; exact small1000 (by omega)
        refine ⟨_, rfl, _, _, rfl, rfl, ⟨by decide, by decide⟩, _, rfl, same_put s4 nD _, ?_⟩
        rw [upd_same]
        show _ = some (HO.lst ((lsd M i ++ [_]).map V.int))
        rw [List.map_append]
        rfl
      · rintro σ' H4 ⟨y6, rfl, s4, eD⟩
        have sH4 := sH.trans s4
        refine ⟨_, rfl, (dv M n != 0), rfl, ?_⟩
        by_cases hz : dv M n = 0
        · rw [hz]
          refine iteF ?_
          refine ⟨_, rfl, 1, rfl, _, rfl, D, _, rfl, rfl, .inl (.inl eD), fun l nl => ?_⟩
          refine ⟨_, _, rfl, .inl ⟨.inl (.inl upd_same), fun t nt => ?_⟩⟩
          refine q (.ref t) _ ((sH4.trans (same_upd nl)).trans (same_upd nt)) ?_
          rw [el, if_pos hz]
          refine dpL (.inl (.inl ?_))
          rw [upd_same, ← List.map_reverse]
        · have hb2 : (dv M n != 0) = true := by simp [hz]
          rw [hb2]
          refine iteT ?_
          exact q .non _ sH4 (by rw [el, if_neg hz]; exact .non)
theorem ok_source (T : Tab K mg) : FnOk P w K mg base CX0 1 T.f_source T.d_source ["_law_script", "_law_k"] (sp_source K) := by
  refine T.F_source.ok sc_source (fun vs H Q E h => ?_) (fun cdv A outer s H vs Q E hr h => ?_)
  · obtain ⟨a, ns, k, rfl, _⟩ := h
    rfl
  · obtain ⟨a, ns, k, rfl, hS, q⟩ := h
    refine ⟨_, (C8.pss_cut (ps_set (i := 2) sc_source.nd rfl (.inl rfl) (pe_ifExp (pt_cmpR op_lt (pv 1) (pe_callB call_len_seq (by rfl) T.m_len PySem.boot_len (pa_cons (pv 0) pa_nil)) (nomark _)) (pe_ix ix_list (pv 0) (pv 1) (fun _ _ => rfl)) (pe_op op_add (pe_op op_mod (pe_callTy call_int1 (by rfl) T.m_int (by decide +kernel) (pa_cons (pe_op op_add (pe_callB (cr_sum rfl) (by rfl) T.m_sum (by decide +kernel) (pa_cons (pe_slice sl_list (pv 0) po_none (po_some pe_int)) pa_nil)) (pe_op op_mul pe_int (pe_callB (cr_sum rfl) (by rfl) T.m_sum (by decide +kernel) (pa_cons (pe_slice sl_list (pv 0) (po_some pe_int) (po_some pe_int)) pa_nil)))) pa_nil)) pe_int) (pe_op op_mul pe_int (pv 1)))))
      (pss_cons (ps_set (i := 3) sc_source.nd rfl (.inl rfl) (pe_callB call_abs (by rfl) T.m_abs (by decide +kernel) (pa_cons (pv 2) pa_nil)))
      (C8.pss_cut (ps_set (i := 4) sc_source.nd rfl (.inl rfl) (pe_ifExp (pt_cmpR op_ge (pv 3) pe_int (nomark _)) (pv 3) pe_int))
      (pss_one (ps_ret (pe_lst (pa_cons (pv 4) (pa_cons (pe_op op_mod (pe_callTy call_int1 (by rfl) T.m_int (by decide +kernel) (pa_cons (pe_op op_add (pe_op op_add (pe_op op_add (pe_op op_mul (pv 3) pe_int) (pe_callTy call_int1 (by rfl) T.m_int (by decide +kernel) (pa_cons (pe_cmpR op_lt (pv 2) pe_int (nomark _)) pa_nil))) (pe_op op_mul pe_int (pv 1))) pe_int) pa_nil)) pe_int) (pa_cons pe_int pa_nil))))))))), ?_⟩
    refine ⟨fun σ' H' => ∃ c : Int, σ' = [some (.ref a), some (.int k), some (.int c), none, none] ∧ Same H H', ?_, ?_⟩
    · refine ⟨_, rfl, _, rfl, _, _, rfl, .inl hS, _, _, rfl, rfl, _, rfl, ite2 (fun e => ?_) (fun e => ?_)⟩
      · have e1 : (k : Int) < ((ns.map V.int).length : Int) := of_decide_eq_true e
        rw [List.length_map] at e1
        have hk : k < ns.length := by omega
        have g : (ns.map V.int)[k]? = some (.int ns[k]) := by
          rw [List.getElem?_map, List.getElem?_eq_getElem hk]
          rfl
        exact ⟨_, rfl, _, rfl, _, _, _, _, rfl, rfl, hS, atI_nat g, _, rfl, Same.refl H⟩
      · refine ⟨_, rfl, 1, rfl, _, _, rfl, hS, fun p1 n1 => ?_⟩
        obtain ⟨m1, c1⟩ := cut_map ns none (some 1)
        rw [c1]
        have s1 : Same H (upd H p1 (.lst (m1.map V.int))) := same_upd n1
        refine ⟨_, m1, rfl, .inl (.inl upd_same), _, rfl, 1, rfl, 2, rfl, _, _, rfl, s1.seq hS, fun p2 n2 => ?_⟩
        obtain ⟨m2, c2⟩ := cut_map ns (some 1) (some 2)
        rw [c2]
        refine ⟨_, m2, rfl, .inl (.inl upd_same), _, _, rfl, rfl, .inl ⟨by decide, by decide⟩, _, _, rfl, rfl, .inl ⟨_, rfl, _, _, rfl, rfl, (by show (0 : Int) < 1000003; decide), _, rfl, _, _, rfl, rfl, .inl ⟨by decide, by decide⟩, _, _, rfl, rfl, _, rfl, s1.trans (same_upd n2)⟩⟩
    · rintro σ' H1 ⟨c, rfl, s1⟩
      refine ⟨_, rfl, _, rfl, ?_⟩
      refine ⟨fun σ' H' => ∃ n g : Int, σ' = [some (.ref a), some (.int k), some (.int c), some (.int n), some (.int g)] ∧ H' = H1, ?_, ?_⟩
      · refine ⟨_, rfl, _, _, rfl, rfl, _, rfl, ite2 (fun e => ?_) (fun e => ?_)⟩
        · exact ⟨_, rfl, _, _, rfl, rfl⟩
        · exact ⟨_, _, rfl, rfl⟩
      · rintro σ' H' ⟨n, g, rfl, rfl⟩
        refine ⟨_, rfl, _, rfl, _, _, rfl, rfl, .inr ⟨by decide, by decide⟩, _, rfl, _, _, rfl, rfl, .inr ⟨_, rfl, _, _, rfl, rfl, _, rfl, _, _, rfl, rfl, .inl ⟨by decide, by decide⟩, _, _, rfl, rfl, _, _, rfl, rfl, .inl ⟨_, rfl, _, _, rfl, rfl, (by show (0 : Int) < 2147483647; decide), ?_⟩⟩⟩
        refine ⟨(by show 3 ≤ sizeLine; decide), fun p np => ?_⟩
        exact q p _ (s1.trans (same_upd np)) (s1.free np) ⟨_, _, _, upd_same⟩
theorem ok_pick (T : Tab K mg) : FnOk P w K mg base CX0 1 T.f_pick T.d_pick ["_law_source_here", "_law_many"] (sp_pick K) := by
  refine T.F_pick.ok sc_pick (fun vs H Q E h => ?_) (fun cdv A outer s H vs Q E hr h => ?_)
  · obtain ⟨a, m, rfl, _⟩ := h
    rfl
  · obtain ⟨a, m, rfl, ⟨g, x, c, hs⟩, h1, h2, q⟩ := h
    refine ⟨_, (pss_cons (ps_if (pt_cmpR op_lt (pv 1) pe_int (nomark _))
      (pss_one (ps_ret pe_int))
      pss_nil)
      (pss_cons (ps_if (pt_cmpR op_gt (pe_ix ix_list (pv 0) pe_int (fun _ _ => rfl)) pe_int (nomark _))
      (pss_cons (ps_set (i := 2) sc_pick.nd rfl (.inl rfl) (pe_op op_mod (pe_callTy call_int1 (by rfl) T.m_int (by decide +kernel) (pa_cons (pe_ix ix_list (pv 0) pe_int (fun _ _ => rfl)) pa_nil)) (pv 1)))
        (pss_cons (ps_asg (pe_op op_fdiv (pe_ix ix_list (pv 0) pe_int (fun _ _ => rfl)) (pv 1)) (pg_sub (pv 0) pe_int set_list))
        (pss_one (ps_ret (pv 2)))))
      pss_nil)
      (pss_cons (ps_asg (pe_op op_add (pe_ix ix_list (pv 0) pe_int (fun _ _ => rfl)) pe_int) (pg_sub (pv 0) pe_int set_list))
      (pss_cons (ps_asg (pe_op op_mod (pe_callTy call_int1 (by rfl) T.m_int (by decide +kernel) (pa_cons (pe_op op_add (pe_op op_add (pe_op op_mul (pe_ix ix_list (pv 0) pe_int (fun _ _ => rfl)) pe_int) (pe_op op_mul (pe_ix ix_list (pv 0) pe_int (fun _ _ => rfl)) pe_int)) pe_int) pa_nil)) pe_int) (pg_sub (pv 0) pe_int set_list))
      (pss_one (ps_ret (pe_op op_mod (pe_callTy call_int1 (by rfl) T.m_int (by decide +kernel) (pa_cons (pe_op op_fdiv (pe_op op_mod (pe_callTy call_int1 (by rfl) T.m_int (by decide +kernel) (pa_cons (pe_op op_add (pe_op op_add (pe_op op_mul (pe_ix ix_list (pv 0) pe_int (fun _ _ => rfl)) pe_int) (pe_op op_mul (pe_ix ix_list (pv 0) pe_int (fun _ _ => rfl)) pe_int)) pe_int) pa_nil)) pe_int) pe_int) pa_nil)) (pv 1)))))))), ?_⟩
    refine ⟨_, rfl, _, _, rfl, rfl, _, rfl, ite2 (fun e => ?_) (fun e => ?_)⟩
    · exact q 0 H ⟨g, x, c, hs⟩ (But.refl a H) (by decide) (by omega)
    · have hm : ¬ m < 2 := fun z => e (decide_eq_true z)
      refine ⟨_, rfl, _, _, _, _, rfl, rfl, .inl (.inl hs), rfl, _, _, rfl, rfl, _, rfl, ite2 (fun e => ?_) (fun e => ?_)⟩
      · refine ⟨_, rfl, _, _, _, _, rfl, rfl, .inl (.inl hs), rfl, .inl ⟨_, rfl, _, rfl, _, _, rfl, rfl, (by omega), ?_⟩⟩
        refine ⟨_, rfl, _, _, _, _, rfl, rfl, .inl (.inl hs), rfl, _, rfl, _, _, rfl, rfl, ⟨by omega, by omega⟩, ?_⟩
        refine ⟨_, rfl, _, _, _, _, rfl, rfl, hs, rfl, ?_⟩
        refine ⟨_, rfl, ?_⟩
        exact q _ _ ⟨_, _, _, upd_same⟩ (But.upd _) (Int.emod_nonneg _ (by omega)) (Int.emod_lt_of_pos _ (by omega))
      · refine ⟨_, rfl, _, _, _, _, rfl, rfl, .inl (.inl hs), rfl, _, _, rfl, rfl, _, rfl, _, _, _, _, rfl, rfl, hs, rfl, ?_⟩
        refine ⟨_, rfl, _, _, _, _, rfl, rfl, .inl (.inl upd_same), rfl, _, _, rfl, rfl, .inr ⟨by decide, by decide⟩, _, rfl, _, _, _, _, rfl, rfl, .inl (.inl upd_same), rfl, _, _, rfl, rfl, .inr ⟨by decide, by decide⟩, _, _, rfl, rfl, _, _, rfl, rfl, .inl ⟨_, rfl, _, _, rfl, rfl, (by show (0 : Int) < 2147483647; decide), ?_⟩⟩
        refine ⟨_, rfl, _, _, _, _, rfl, rfl, upd_same, rfl, ?_⟩
        refine ⟨_, rfl, _, _, _, _, rfl, rfl, .inl (.inl upd_same), rfl, _, _, rfl, rfl, .inr ⟨by decide, by decide⟩, _, rfl, _, _, _, _, rfl, rfl, .inl (.inl upd_same), rfl, _, _, rfl, rfl, .inr ⟨by decide, by decide⟩, _, _, rfl, rfl, _, _, rfl, rfl, .inl ⟨_, rfl, _, _, rfl, rfl, (by show (0 : Int) < 2147483629; decide), _, _, rfl, rfl, ⟨by decide, by decide⟩, .inl ⟨_, rfl, _, rfl, _, _, rfl, rfl, (by omega), ?_⟩⟩⟩
        exact q _ _ ⟨_, _, _, upd_same⟩ (((But.upd _).trans (But.upd _))) (Int.emod_nonneg _ (by omega)) (Int.emod_lt_of_pos _ (by omega))
theorem ok_law_is_integer (T : Tab K mg) : FnOk P w K mg base CX0 1 T.f_law_is_integer T.d_law_is_integer ["_law_actual"] (sp_law_is_integer K) := by
  refine T.F_law_is_integer.ok sc_law_is_integer (fun vs H Q E h => ?_) (fun cdv A outer s H vs Q E hr h => ?_)
  · obtain ⟨i, rfl, _⟩ := h
    rfl
  · obtain ⟨i, rfl, q⟩ := h
    refine ⟨_, (pss_one (ps_ret (pe_and (pe_callB call_isi (by rfl) T.m_isinstance (by decide +kernel) (pa_cons (pv 0) (pa_cons (pe_bltn (v := .ty "int") (u := .type "int") (by rfl) T.m_int (by decide +kernel) rfl) pa_nil))) (pe_one (pe_not (pe_callB call_isi (by rfl) T.m_isinstance (by decide +kernel) (pa_cons (pv 0) (pa_cons (pe_bltn (v := .ty "bool") (u := .type "bool") (by rfl) T.m_bool (by decide +kernel) rfl) pa_nil)))))))), ?_⟩
    refine ⟨_, rfl, _, _, _, _, _, rfl, .ty "int", .base (.int i), kit_ty (by decide +kernel), true, rfl, iteT ?_⟩
    exact ⟨_, rfl, _, _, _, _, _, rfl, .ty "bool", .base (.int i), kit_ty (r := false) (by decide +kernel), false, rfl, q⟩
theorem ok_least (T : Tab K mg) : FnOk P w K mg base CX0 1 T.f_least T.d_least ["_law_low", "_law_size"] (sp_least K) := by
  refine T.F_least.ok sc_least (fun vs H Q E h => ?_) (fun cdv A outer s H vs Q E hr h => ?_)
  · obtain ⟨v, L, n, rfl, _⟩ := h
    rfl
  · obtain ⟨v, L, n, rfl, hv, h99, hl, h1, h3, q⟩ := h
    refine ⟨_, (pss_cons (ps_set (i := 2) sc_least.nd rfl (.inl rfl) pe_int)
      (pss_cons (ps_for PassesOwn.never rfl (pi_range1 (by rfl) T.m_range (pa_cons (pv 1) pa_nil)) (pg_name (i := 3) sc_least.nd rfl (.inl rfl))
      (pss_cons (ps_set (i := 2) sc_least.nd rfl (.inl rfl) (pe_op op_mul (pv 2) pe_int))
        (pss_one (ps_if (pt_cmpR op_lt (pv 3) (pe_callB call_len_seq (by rfl) T.m_len PySem.boot_len (pa_cons (pv 0) pa_nil)) (nomark _))
        (pss_one (ps_set (i := 2) sc_least.nd rfl (.inl rfl) (pe_op op_add (pv 2) (pe_ix (ix_tupK (K := K) rfl) (pv 0) (pv 3) (fun _ _ => rfl)))))
        pss_nil))))
      (C8.pss_cut (ps_if (pt_cmpR op_ge (pe_callB call_len_seq (by rfl) T.m_len PySem.boot_len (pa_cons (pv 0) pa_nil)) (pv 1) (nomark _))
      (pss_one (ps_set (i := 2) sc_least.nd rfl (.inl rfl) (pe_op op_add (pv 2) pe_int)))
      pss_nil)
      (C8.pss_cut (ps_if (pt_cmpR op_eq (pe_op op_mod (pe_callTy call_int1 (by rfl) T.m_int (by decide +kernel) (pa_cons (pv 2) pa_nil)) pe_int) pe_int (nomark _))
      (pss_one (ps_set (i := 2) sc_least.nd rfl (.inl rfl) (pe_op op_add (pv 2) pe_int)))
      pss_nil)
      (pss_cons (ps_if (pt_cmpR op_ge (pv 2) (pe_ix (ix_listK (K := K) rfl) (pe_lst (pa_cons pe_int (pa_cons pe_int (pa_cons pe_int pa_nil)))) (pe_op op_sub (pv 1) pe_int) (fun _ _ => rfl)) (nomark _))
      (pss_one (ps_ret pe_non))
      pss_nil)
      (pss_cons (ps_set (i := 4) sc_least.nd rfl (.inr rfl) (pe_lst pa_nil))
      (pss_cons (ps_for PassesOwn.never rfl (pi_range1 (by rfl) T.m_range (pa_cons (pv 1) pa_nil)) (pg_name (i := 3) sc_least.nd rfl (.inl rfl))
      (pss_cons (ps_expr (pe_bm PySem.F.plainAttrs_list PySem.F.slot_list_append PySem.F.type_list_append mt_append (pv 4) (pa_cons (pe_op op_mod (pe_callTy call_int1 (by rfl) T.m_int (by decide +kernel) (pa_cons (pv 2) pa_nil)) pe_int) pa_nil)))
        (pss_one (ps_set (i := 2) sc_least.nd rfl (.inl rfl) (pe_op op_fdiv (pv 2) pe_int)))))
      (pss_one (ps_ret (pe_callTy call_tuple_of (by rfl) T.m_tuple (by decide +kernel) (pa_cons (pe_lc (own := [("_law_step", 3)]) (g := gName 3) (by rfl) sc_least.nd (pi_range1 (by rfl) T.m_range (pa_cons (pv 1) pa_nil)) (blkOk_by (own := [("_law_step", 3)]) (N := N_least) (sc := defScope s_least) (by decide +kernel)) (fun _ _ _ _ _ => pg_name (i := 3) sc_least.nd rfl (.inl rfl)) (fun _ _ _ _ _ => pts_nil) (fun _ _ _ _ _ => (pe_ix (ix_listK (K := K) rfl) (pv 4) (pe_op op_sub (pe_op op_sub (pv 1) pe_int) (pv 3)) (fun _ _ => rfl)))) pa_nil))))))))))), ?_⟩
    obtain ⟨p, rfl, hp⟩ := dL_inv hv
    have hlen : (L.map V.int).length = L.length := List.length_map ..
    refine ⟨_, rfl, _, rfl, by omega, by omega, for_range (lo := 0) (n := n) (fun i σ' H' => ∃ y3 : Option V, σ' = [some (.ref p), some (.int (n : Int)), some (.int (num L i)), y3, none] ∧ H = H') ⟨none, rfl, rfl⟩ ?_ ?_⟩
    · rintro i σ' H' hi ⟨y3, rfl, rfl⟩
      have hb := num_small h99 (Nat.le_of_lt (Nat.lt_of_lt_of_le hi h3))
      refine ⟨_, rfl, _, _, rfl, rfl, .inl ⟨by omega, by omega⟩, ?_⟩
      refine ⟨_, rfl, _, rfl, _, _, rfl, .inr hp, _, _, rfl, rfl, _, rfl, ite2 (fun e => ?_) (fun e => ?_)⟩
      · have e1 : (0 : Int) + (i : Int) < ((L.map V.int).length : Int) := of_decide_eq_true e
        rw [hlen] at e1
        have hk : i < L.length := by omega
        have g : (L.map V.int)[i]? = some (.int (L.getD i 0)) := by
          rw [List.getElem?_map, List.getElem?_eq_getElem hk, List.getD_eq_getElem?_getD, List.getElem?_eq_getElem hk]
          rfl
        refine ⟨_, rfl, _, rfl, _, rfl, _, _, _, _, rfl, rfl, hp, at_of' (by omega) g, _, _, rfl, rfl, ?_⟩
        exact ⟨_, rfl, rfl⟩
      · have e1 : ¬ ((0 : Int) + (i : Int) < ((L.map V.int).length : Int)) := fun z => e (decide_eq_true z)
        rw [hlen] at e1
        have e0 : L.getD i 0 = 0 := by rw [List.getD_eq_getElem?_getD, List.getElem?_eq_none (by omega)]; rfl
        refine ⟨some (.int (0 + (i : Int))), ?_, rfl⟩
        rw [num_foo, e0, Int.add_zero]
        rfl
    · rintro σ' H' ⟨y3, rfl, rfl⟩
      have hb := num_small h99 h3
      refine ⟨fun σ' H' => ∃ N : Int, σ' = [some (.ref p), some (.int (n : Int)), some (.int N), y3, none] ∧ H = H' ∧ bump N = bump (num L n + 1) ∧ 0 ≤ N ∧ N ≤ num L n + 1, ?_, ?_⟩
      · refine ⟨_, rfl, _, _, rfl, .inr hp, _, rfl, _, _, rfl, rfl, _, rfl, ite2 (fun e => ?_) (fun e => ?_)⟩
        · refine ⟨_, rfl, _, _, rfl, rfl, ?_⟩
          exact ⟨_, rfl, rfl, rfl, by omega, by omega⟩
        · have e1 : ¬ ((n : Int) ≤ ((L.map V.int).length : Int)) := fun z => e (decide_eq_true z)
          rw [hlen] at e1
          obtain ⟨m, rfl⟩ : ∃ m, n = m + 1 := ⟨n - 1, by omega⟩
          exact ⟨_, rfl, rfl, bump_two (num_end (by omega)), by omega, by omega⟩
      rintro σ' H' ⟨N, rfl, rfl, eN, N0, N1⟩
      refine ⟨fun σ' H' => σ' = [some (.ref p), some (.int (n : Int)), some (.int (bump N)), y3, none] ∧ H = H', ?_, ?_⟩
      · refine ⟨_, rfl, .inl ⟨N, rfl, _, _, rfl, rfl, (by show (0 : Int) < 100; decide), rfl, _, rfl, ite2 (fun e => ?_) (fun e => ?_)⟩⟩
        · have e0 : N % 100 = 0 := V.int.inj (of_decide_eq_true e)
          refine ⟨_, rfl, _, _, rfl, rfl, ?_, rfl⟩
          unfold bump
          rw [if_pos e0]
          rfl
        · have e0 : ¬ N % 100 = 0 := fun z => e (decide_eq_true (congrArg V.int z))
          refine ⟨?_, rfl⟩
          unfold bump
          rw [if_neg e0]
      rintro σ' H' ⟨rfl, rfl⟩
      have bb := bump_bd (i := N) N0
      have el : least L n = if dv (bump N) n = 0 then some (lsd (bump N) n).reverse else none := by unfold least; rw [eN]
      generalize bump N = M at bb el
      have M0 : 0 ≤ M := by omega
      obtain ⟨G, eG⟩ : ∃ G : Int, G = if n = 1 then (100 : Int) else if n = 2 then 10000 else 1000000 := ⟨_, rfl⟩
      have hat : atI [V.int 100, .int 10000, .int 1000000] ((n : Int) - 1) = some (.int G) := by
        rw [eG]
        have : n = 1 ∨ n = 2 ∨ n = 3 := by omega
        rcases this with rfl | rfl | rfl <;> rfl
      have d3 := dv3 M0 h1 h3
      rw [← eG] at d3
      refine ⟨_, rfl, (by show 3 ≤ sizeLine; decide), fun l nl => ?_⟩
      have sl := same_upd (o := .lst [V.int 100, .int 10000, .int 1000000]) nl
      refine ⟨_, rfl, _, _, rfl, rfl, l, _, _, _, rfl, rfl, .inl (.inl upd_same), hat, _, _, rfl, rfl, _, rfl, ite2 (fun e => ?_) (fun e => ?_)⟩
      · have e1 : G ≤ M := of_decide_eq_true e
        refine q .non _ sl ?_
        rw [el, if_neg (by rw [d3]; exact fun z => z e1)]
        exact .non
      have e1 : dv M n = 0 := by rw [d3]; exact fun z => e (decide_eq_true z)
      rw [if_pos e1] at el
      refine ⟨Nat.zero_le _, fun D nD => ?_⟩
      refine ⟨_, rfl, _, rfl, by omega, by omega, for_range (lo := 0) (n := n) (fun i σ' H' => ∃ y3 : Option V, σ' = [some (.ref p), some (.int (n : Int)), some (.int (dv M i)), y3, some (.ref D)] ∧ Same H H' ∧ H' D = some (.lst ((lsd M i).map V.int))) ⟨_, rfl, sl.trans (same_upd nD), upd_same⟩ ?_ ?_⟩
      · rintro i σ' H4 hi ⟨y6, rfl, s4, eD⟩
        have d0 := dv_nn M0 i
        have dl := dv_le M0 i
        refine ⟨_, rfl, .inl ⟨rfl, _, .inl (.inl eD)⟩, _, rfl, .inl ⟨_, rfl, _, _, rfl, rfl, (by show (0 : Int) < 100; decide), D, _, _, rfl, rfl, eD, ?_, ?_⟩⟩
        · rw [List.length_map, lsd_len]; exact small1000 (by omega)
        have nDH : H D = none := sl.free nD
        refine ⟨_, rfl, _, _, rfl, rfl, ⟨by decide, by decide⟩, _, rfl, same_put s4 nDH _, ?_⟩
        rw [upd_same]
        show _ = some (HO.lst ((lsd M i ++ [_]).map V.int))
        rw [List.map_append]
        rfl
      · rintro σ' H4 ⟨y6, rfl, s4, eD⟩
        refine ⟨_, rfl, _, rfl, by omega, by omega, fun D2 nD2 => ?_⟩
        refine lc_range (lo := 0) (n := n) (fun i H' => Same H4 H' ∧ H' D2 = some (.lst (((lsd M n).reverse.take i).map V.int))) ⟨same_upd nD2, upd_same⟩ ?_ ?_
        · rintro i H5 hi ⟨s5, eD2⟩
          have ll := lsd_len M n
          obtain ⟨z, gi⟩ : ∃ z, (lsd M n)[n - 1 - i]? = some z := ⟨_, List.getElem?_eq_getElem (by omega)⟩
          have gr : (lsd M n).reverse[i]? = some z := by
            rw [List.getElem?_reverse (by omega), ll]
            exact gi
          refine ⟨rfl, ?_⟩
          refine ⟨_, rfl, _, rfl, _, _, rfl, rfl, _, rfl, _, _, rfl, rfl, D, _, _, .int z, rfl, rfl, .inl (.inl (s5 _ _ eD)), at_of' (j := n - 1 - i) (by omega) (by rw [List.getElem?_map, gi]; rfl), _, eD2, ?_, same_put s5 nD2 _, ?_⟩
          · rw [List.length_map, List.length_take]; exact small1000 (by omega)
          · rw [upd_same, List.take_add_one, gr, List.map_append]; rfl
        · rintro H5 ⟨s5, eD2⟩
          have ll : (lsd M n).reverse.length = n := by rw [List.length_reverse, lsd_len]
          rw [List.take_of_length_le (by omega)] at eD2
          refine ⟨D2, _, rfl, .inl ⟨.inl (.inl eD2), fun t nt => ?_⟩⟩
          refine q (.ref t) _ ((s4.trans s5).trans (same_upd nt)) ?_
          rw [el]
          exact dpL (.inl (.inl upd_same))
theorem ok_listed (T : Tab K mg) : FnOk P w K mg base CX0 1 T.f_listed T.d_listed ["_law_label_here"] (sp_listed K) := by
  refine T.F_listed.ok sc_listed (fun vs H Q E h => ?_) (fun cdv A outer s H vs Q E hr h => ?_)
  · obtain ⟨x, lo, rfl, _⟩ := h
    rfl
  · obtain ⟨x, lo, rfl, hx, q⟩ := h
    refine ⟨_, (pss_cons (ps_if (pt_cmpR op_isN (pv 0) pe_non (nomark _))
      (pss_one (ps_ret pe_non))
      pss_nil)
      (pss_one (ps_ret (pe_callTy call_list_of (by rfl) T.m_list (by decide +kernel) (pa_cons (pv 0) pa_nil))))), ?_⟩
    cases lo with
    | none =>
      cases hx
      refine ⟨_, rfl, rfl, _, rfl, ite2 (fun _ => ?_) (fun e => absurd (decide_eq_true rfl) e)⟩
      exact q .non H (Same.refl H) .non
    | some L =>
      obtain ⟨p, rfl, hp⟩ := dL_inv hx
      refine ⟨_, rfl, rfl, _, rfl, ite2 (fun e => by simp at e) (fun _ => ?_)⟩
      refine ⟨_, rfl, p, _, rfl, .inr hp, fun l nl => ?_⟩
      exact q (.ref l) _ (same_upd nl) (.lst (.inl (.inl upd_same)) (dp_ints L))
theorem ok_is_within (T : Tab K mg) : FnOk P w K mg base CX0 2 T.f_is_within T.d_is_within ["thing", "least", "most"] (sp_is_within K) := by
  refine T.F_is_within.ok sc_is_within (fun vs H Q E h => ?_) (fun cdv A outer s H vs Q E hr h => ?_)
  · obtain ⟨v, d, l, m, rfl, _⟩ := h
    rfl
  · obtain ⟨v, d, l, m, rfl, hd, q⟩ := h
    refine ⟨_, (pss_one (ps_ret (pe_and (pe_call (ok_is_integer T) (hr.mono (by decide)) (by rfl) T.g_is_integer T.F_is_integer.kp T.b_is_integer .nil pass0 (pa_cons (pv 0) pa_nil)) (pe_one (pe_chain op_le op_le (pv 1) (pv 0) (pv 2)))))), ?_⟩
    refine ⟨_, rfl, _, d, rfl, hd, ?_⟩
    cases hd with
    | int i =>
      refine ⟨true, rfl, iteT ?_⟩
      refine ⟨_, rfl, _, rfl, _, _, rfl, rfl, _, rfl, ite2 (fun e => ?_) (fun e => ?_)⟩
      · have h1 : l ≤ i := of_decide_eq_true e
        refine ⟨_, rfl, _, _, rfl, rfl, ?_⟩
        have : wI l m (.int i) = decide (i ≤ m) := by
          show decide (l ≤ i ∧ i ≤ m) = _
          simp [h1]
        rw [this] at q
        exact q
      · have h1 : ¬ l ≤ i := fun h => e (decide_eq_true h)
        have : wI l m (.int i) = false := by
          show decide (l ≤ i ∧ i ≤ m) = _
          simp [h1]
        rw [this] at q
        exact q
    | non => exact ⟨false, rfl, q⟩
    | bl b => exact ⟨false, rfl, q⟩
    | str z => exact ⟨false, rfl, q⟩
    | lst h _ => exact ⟨false, rfl, q⟩
    | tup h _ => exact ⟨false, rfl, q⟩
theorem ok_is_sized (T : Tab K mg) : FnOk P w K mg base CX0 2 T.f_is_sized T.d_is_sized ["thing", "least", "most"] (sp_is_sized K) := by
  refine T.F_is_sized.ok sc_is_sized (fun vs H Q E h => ?_) (fun cdv A outer s H vs Q E hr h => ?_)
  · obtain ⟨v, d, l, m, rfl, _⟩ := h
    rfl
  · obtain ⟨v, d, l, m, rfl, hd, q⟩ := h
    refine ⟨_, (pss_one (ps_ret (pe_and (pe_call (ok_is_tuple T) (hr.mono (by decide)) (by rfl) T.g_is_tuple T.F_is_tuple.kp T.b_is_tuple .nil pass0 (pa_cons (pv 0) pa_nil)) (pe_one (pe_chain op_le op_le (pv 1) (pe_callB call_len_seq (by rfl) T.m_len PySem.boot_len (pa_cons (pv 0) pa_nil)) (pv 2)))))), ?_⟩
    refine ⟨_, rfl, _, d, rfl, hd, fun H1 s1 => ?_⟩
    have q1 := q H1 s1
    have cut : ∀ ds : List PyData, items d = some ds → ∀ e : Bool, (l ≤ (ds.length : Int)) → (decide ((ds.length : Int) ≤ m) = e) → sz l m d = e := fun ds hi e h1 h2 => by
      unfold sz
      rw [hi]
      simp only
      rw [← h2]
      simp [h1]
    have cut0 : ∀ ds : List PyData, items d = some ds → ¬ (l ≤ (ds.length : Int)) → sz l m d = false := fun ds hi h1 => by
      unfold sz
      rw [hi]
      simp [h1]
    cases hd with
    | lst h k =>
      rename_i a xs ds
      have el := dpAll_len k
      refine ⟨true, rfl, iteT ?_⟩
      refine ⟨_, rfl, _, rfl, _, _, rfl, .inl (s1.seq h), _, _, rfl, rfl, _, rfl, ite2 (fun e => ?_) (fun e => ?_)⟩
      · have h1 := of_decide_eq_true e
        rw [el] at h1 ⊢
        refine ⟨_, rfl, _, _, rfl, rfl, ?_⟩
        rw [cut ds rfl _ h1 rfl] at q1
        exact q1
      · have h1 : ¬ (l ≤ (ds.length : Int)) := fun z => e (by rw [el]; exact decide_eq_true z)
        rw [cut0 ds rfl h1] at q1
        exact q1
    | tup h k =>
      rename_i a xs ds
      have el := dpAll_len k
      refine ⟨true, rfl, iteT ?_⟩
      refine ⟨_, rfl, _, rfl, _, _, rfl, .inr (same_seqT s1 h), _, _, rfl, rfl, _, rfl, ite2 (fun e => ?_) (fun e => ?_)⟩
      · have h1 := of_decide_eq_true e
        rw [el] at h1 ⊢
        refine ⟨_, rfl, _, _, rfl, rfl, ?_⟩
        rw [cut ds rfl _ h1 rfl] at q1
        exact q1
      · have h1 : ¬ (l ≤ (ds.length : Int)) := fun z => e (by rw [el]; exact decide_eq_true z)
        rw [cut0 ds rfl h1] at q1
        exact q1
    | non => exact ⟨false, rfl, q1⟩
    | bl b => exact ⟨false, rfl, q1⟩
    | int i => exact ⟨false, rfl, q1⟩
    | str z => exact ⟨false, rfl, q1⟩
theorem ok_figure (T : Tab K mg) : FnOk P w K mg base CX0 2 T.f_figure T.d_figure ["_law_source_here", "_law_least_here"] (sp_figure K) := by
  refine T.F_figure.ok sc_figure (fun vs H Q E h => ?_) (fun cdv A outer s H vs Q E hr h => ?_)
  · obtain ⟨a, l, rfl, _⟩ := h
    rfl
  · obtain ⟨a, l, rfl, src, l0, l1, q⟩ := h
    refine ⟨_, (pss_cons (ps_set (i := 2) sc_figure.nd rfl (.inl rfl) (pe_call (ok_pick T) (hr.mono (by decide)) (by rfl) T.g_pick T.F_pick.kp T.b_pick .nil pass0 (pa_cons (pv 0) (pa_cons pe_int pa_nil))))
      (pss_cons (ps_if (pt_cmpR op_eq (pv 2) pe_int (nomark _))
      (pss_one (ps_ret (pe_op op_add (pv 1) (pe_call (ok_pick T) (hr.mono (by decide)) (by rfl) T.g_pick T.F_pick.kp T.b_pick .nil pass0 (pa_cons (pv 0) (pa_cons pe_int pa_nil))))))
      pss_nil)
      (pss_cons (ps_if (pt_cmpR op_eq (pv 2) pe_int (nomark _))
      (pss_one (ps_ret (pe_op op_add pe_int (pe_call (ok_pick T) (hr.mono (by decide)) (by rfl) T.g_pick T.F_pick.kp T.b_pick .nil pass0 (pa_cons (pv 0) (pa_cons pe_int pa_nil))))))
      pss_nil)
      (pss_one (ps_ret (pe_op op_add (pv 1) (pe_call (ok_pick T) (hr.mono (by decide)) (by rfl) T.g_pick T.F_pick.kp T.b_pick .nil pass0 (pa_cons (pv 0) (pa_cons (pe_op op_sub pe_int (pv 1)) pa_nil))))))))), ?_⟩
    refine ⟨_, rfl, _, _, rfl, src, by decide, by decide, fun w1 H1 s1 b1 p1 p2 => ?_⟩
    refine ⟨_, rfl, rfl, _, rfl, ite2 (fun e => ?_) (fun e => ?_)⟩
    · refine ⟨_, rfl, _, rfl, _, _, rfl, s1, by decide, by decide, fun r H2 s2 b2 p3 p4 => ?_⟩
      refine ⟨_, _, rfl, rfl, ?_⟩
      exact q _ H2 s2 (b1.trans b2) (by omega) (by omega)
    refine ⟨_, rfl, rfl, _, rfl, ite2 (fun e => ?_) (fun e => ?_)⟩
    · refine ⟨_, rfl, _, _, rfl, s1, by decide, by decide, fun r H2 s2 b2 p3 p4 => ?_⟩
      refine ⟨_, _, rfl, rfl, ?_⟩
      exact q _ H2 s2 (b1.trans b2) (by omega) (by omega)
    refine ⟨_, rfl, _, rfl, _, rfl, _, _, rfl, rfl, _, _, rfl, s1, by omega, by omega, fun r H2 s2 b2 p3 p4 => ?_⟩
    refine ⟨_, _, rfl, rfl, ?_⟩
    exact q _ H2 s2 (b1.trans b2) (by omega) (by omega)
theorem ok_odd (T : Tab K mg) : FnOk P w K mg base CX0 2 T.f_odd T.d_odd ["_law_source_here", "_law_label_here"] (sp_odd K) := by
  refine T.F_odd.ok sc_odd (fun vs H Q E h => ?_) (fun cdv A outer s H vs Q E hr h => ?_)
  · obtain ⟨a, v, L, rfl, _⟩ := h
    rfl
  · obtain ⟨a, v, L, rfl, src, hv, hL, q0⟩ := h
    refine ⟨_, (pss_cons (ps_set (i := 2) sc_odd.nd rfl (.inl rfl) (pe_call (ok_pick T) (hr.mono (by decide)) (by rfl) T.g_pick T.F_pick.kp T.b_pick .nil pass0 (pa_cons (pv 0) (pa_cons pe_int pa_nil))))
      (pss_cons (ps_set (i := 3) sc_odd.nd rfl (.inl rfl) (pe_call (ok_pick T) (hr.mono (by decide)) (by rfl) T.g_pick T.F_pick.kp T.b_pick .nil pass0 (pa_cons (pv 0) (pa_cons (pe_callB call_len_seq (by rfl) T.m_len PySem.boot_len (pa_cons (pv 1) pa_nil)) pa_nil))))
      (pss_cons (ps_if (pt_cmpR op_eq (pv 2) pe_int (nomark _))
      (pss_one (ps_ret (pe_tup pa_nil)))
      pss_nil)
      (pss_cons (ps_if (pt_cmpR op_eq (pv 2) pe_int (nomark _))
      (pss_one (ps_ret (pe_op op_catA (pv 1) (pe_tup (pa_cons pe_int pa_nil)))))
      pss_nil)
      (pss_cons (ps_if (pt_cmpR op_eq (pv 2) pe_int (nomark _))
      (pss_one (ps_ret (pe_op op_catA (pe_op op_catA (pe_slice sl_tupA (pv 1) po_none (po_some (pv 3))) (pe_tup (pa_cons (pe_op op_add pe_int (pe_call (ok_pick T) (hr.mono (by decide)) (by rfl) T.g_pick T.F_pick.kp T.b_pick .nil pass0 (pa_cons (pv 0) (pa_cons pe_int pa_nil)))) pa_nil))) (pe_slice sl_tupA (pv 1) (po_some (pe_op op_add (pv 3) pe_int)) po_none))))
      pss_nil)
      (pss_cons (ps_if (pt_cmpR op_eq (pv 2) pe_int (nomark _))
      (pss_one (ps_ret (pe_op op_catA (pe_op op_catA (pe_slice sl_tupA (pv 1) po_none (po_some (pv 3))) (pe_tup (pa_cons (pe_op op_sub (pe_un un_neg pe_int) (pe_call (ok_pick T) (hr.mono (by decide)) (by rfl) T.g_pick T.F_pick.kp T.b_pick .nil pass0 (pa_cons (pv 0) (pa_cons pe_int pa_nil)))) pa_nil))) (pe_slice sl_tupA (pv 1) (po_some (pe_op op_add (pv 3) pe_int)) po_none))))
      pss_nil)
      (pss_cons (ps_if (pt_cmpR op_eq (pv 2) pe_int (nomark _))
      (pss_one (ps_ret (pe_op op_catA (pe_slice sl_tupA (pv 1) po_none (po_some (pe_un un_neg pe_int))) (pe_tup (pa_cons pe_int pa_nil)))))
      pss_nil)
      (pss_cons (ps_if (pt_cmpR op_eq (pv 2) pe_int (nomark _))
      (pss_one (ps_ret (pe_op op_catA (pe_op op_catA (pe_tup (pa_cons pe_int (pa_cons pe_int pa_nil))) (pe_slice sl_tupA (pv 1) po_none (po_some pe_int))) (pe_tup (pa_cons pe_int pa_nil)))))
      pss_nil)
      (pss_cons (ps_if (pt_cmpR op_eq (pv 2) pe_int (nomark _))
      (pss_one (ps_ret (pe_op op_catA (pe_op op_catA (pe_slice sl_tupA (pv 1) po_none (po_some (pv 3))) (pe_tup (pa_cons pe_bl pa_nil))) (pe_slice sl_tupA (pv 1) (po_some (pe_op op_add (pv 3) pe_int)) po_none))))
      pss_nil)
      (pss_cons (ps_if (pt_cmpR op_eq (pv 2) pe_int (nomark _))
      (pss_one (ps_ret (pe_op op_catA (pe_op op_catA (pe_slice sl_tupA (pv 1) po_none (po_some (pv 3))) (pe_tup (pa_cons (pe_callTy call_str_int (by rfl) T.m_str (by decide +kernel) (pa_cons (pe_ix (ix_tupK (K := K) rfl) (pv 1) (pv 3) (fun _ _ => rfl)) pa_nil)) pa_nil))) (pe_slice sl_tupA (pv 1) (po_some (pe_op op_add (pv 3) pe_int)) po_none))))
      pss_nil)
      (pss_cons (ps_if (pt_cmpR op_eq (pv 2) pe_int (nomark _))
      (pss_one (ps_ret (pe_op op_catA (pe_op op_catA (pe_slice sl_tupA (pv 1) po_none (po_some (pv 3))) (pe_tup (pa_cons pe_non pa_nil))) (pe_slice sl_tupA (pv 1) (po_some (pe_op op_add (pv 3) pe_int)) po_none))))
      pss_nil)
      (pss_cons (ps_if (pt_cmpR op_eq (pv 2) pe_int (nomark _))
      (pss_one (ps_ret (pe_ix (ix_tupK (K := K) rfl) (pv 1) (pe_un un_neg pe_int) (fun _ _ => rfl))))
      pss_nil)
      (pss_cons (ps_if (pt_cmpR op_eq (pv 2) pe_int (nomark _))
      (pss_one (ps_ret (pe_join pe_str (pe_lc (own := [("_law_part", 4)]) (g := gName 4) (by rfl) sc_odd.nd (pi_tup (pv 1)) (blkOk_by (own := [("_law_part", 4)]) (N := N_odd) (sc := defScope s_odd) (by decide +kernel)) (fun _ _ _ _ _ => pg_name (i := 4) sc_odd.nd rfl (.inl rfl)) (fun _ _ _ _ _ => pts_nil) (fun _ _ _ _ _ => (pe_callTy call_str_int (by rfl) T.m_str (by decide +kernel) (pa_cons (pv 4) pa_nil)))))))
      pss_nil)
      (pss_one (ps_ret (pe_tup (pa_cons (pv 1) pa_nil))))))))))))))))), ?_⟩
    obtain ⟨p, rfl, hp0⟩ := dL_inv hv
    have q : ∀ y (d : PyData) H', Src H' a → But a H H' → Dp K H' y d → Od d → Q y H' := fun y d H' h1 h2 h3 h4 => q0 y d H' h1 h2 h3 h4.1 h4.2.1 h4.2.2
    have hl1 : 1 ≤ L.length := by
      have := okL_ne hL
      cases L with
      | nil => exact absurd rfl this
      | cons x r => exact Nat.succ_le_succ (Nat.zero_le _)
    have hl3 := hL.1
    have hlen : (L.map V.int).length = L.length := List.length_map ..
    refine ⟨_, rfl, _, _, rfl, src, by decide, by decide, fun w H1 s1 b1 w0 w1 => ?_⟩
    have hp1 := sqT_src src b1 hp0
    refine ⟨_, rfl, _, rfl, _, _, rfl, .inr hp1, _, _, rfl, s1, by omega, by omega, fun k H2 s2 b2 k0 k1 => ?_⟩
    rw [hlen] at k1
    have hp := sqT_src s1 b2 hp1
    have b12 := b1.trans b2
    obtain ⟨n, rfl⟩ := Int.eq_ofNat_of_zero_le k0
    have hn : n < L.length := by omega
    have tk : ∀ {Hx : Hp} {c : Addr}, SqT K Hx c (cutV (L.map V.int) none (some (n : Int))) → SqT K Hx c ((L.take n).map V.int) := fun h => by rw [cutV_to, ← List.map_take] at h; exact h
    have dr : ∀ {Hx : Hp} {c : Addr}, SqT K Hx c (cutV (L.map V.int) (some ((n : Int) + 1)) none) → SqT K Hx c ((L.drop (n + 1)).map V.int) := fun h => by
      rw [show ((n : Int) + 1) = ((n + 1 : Nat) : Int) by omega, cutV_from, ← List.map_drop] at h
      exact h
    have lt : ((L.take n).map V.int).length ≤ 3 := by rw [List.length_map, List.length_take]; omega
    have ld : ((L.drop (n + 1)).map V.int).length ≤ 3 := by rw [List.length_map, List.length_drop]; omega
    -- one integer exchanged: from the first part and the row of one on
    have rep : ∀ (H5 : Hp) (c t : Addr) (x : V) (d : PyData), Src H5 a → But a H H5 → SqT K H5 p (L.map V.int) → SqT K H5 c ((L.take n).map V.int) → SqT K H5 t [x] → (∀ Hx, Dp K Hx x d) → Atom d → toO d = none →
        ∀ M : VK, (∀ y H6, rSlA K (.ref p) (some ((n : Int) + 1)) none H6 (fun z H7 => rCatA K y z H7 Q) → M y H6) → rCatA K (.ref c) (.ref t) H5 M := fun H5 c t x d s5 b5 hp5 hc ht hx ha hnn M hM => by
      refine cat_go hc ht (by show _ + 1 ≤ 1000; omega) fun c2 H6 s6 h6 => hM _ _ ?_
      refine sl_go (same_seqT s6 hp5) fun c3 H7 s7 h7 => ?_
      refine cat_go (same_seqT s7 h6) (dr h7) (by rw [List.length_append]; show _ + 1 + _ ≤ 1000; omega) fun c4 H8 s8 h8 => ?_
      have s58 := (s6.trans s7).trans s8
      refine q (.ref c4) _ H8 ?_ (b5.trans (But.of s58)) (.tup h8 (dpAll_app (dpAll_app (dp_ints _) (.cons (hx _) .nil)) (dp_ints _))) (od_rep hL hn ha hnn)
      obtain ⟨g, y, z, e⟩ := s5
      exact ⟨g, y, z, s58 _ _ e⟩
    have srcS : ∀ {Hx Hy : Hp}, Src Hx a → Same Hx Hy → Src Hy a := fun s m => by
      obtain ⟨g, y, z, e⟩ := s
      exact ⟨g, y, z, m _ _ e⟩
    -- 0
    refine ⟨_, rfl, rfl, _, rfl, ite2 (fun e => ?_) (fun e => ?_)⟩
    · exact ⟨Nat.zero_le _, fun t nt => q (.ref t) (.tuple []) _ (srcN s2 nt _) (b12.trans (But.of (same_upd nt))) (.tup (.inl (.inl upd_same)) .nil) (od_row (by decide) (fun _ h => nomatch h) rfl)⟩
    -- 1
    refine ⟨_, rfl, rfl, _, rfl, ite2 (fun e => ?_) (fun e => ?_)⟩
    · refine ⟨_, rfl, (by show 1 ≤ sizeLine; decide), fun t nt => ?_⟩
      have st := same_upd (o := .tup [V.int 0]) nt
      refine cat_go (same_seqT st hp) (.inl (.inl upd_same)) (by rw [hlen]; show _ + 1 ≤ 1000; omega) fun c H3 s3 h3 => ?_
      have s23 := st.trans s3
      refine q (.ref c) (.tuple ((L ++ [0]).map PyData.int)) H3 (srcS s2 s23) (b12.trans (But.of s23)) (.tup (by rw [List.map_append]; exact h3) (dp_ints _)) (od_row (by rw [List.length_map, List.length_append]; show L.length + 1 ≤ 5; omega) (at_ints fun i hi => ?_) (keep_last0 hL.2.2))
      rcases List.mem_append.mp hi with h | h
      · exact hL.2.2 i h
      · rw [List.mem_singleton.mp h]; exact ⟨by decide, by decide⟩
    -- 2
    refine ⟨_, rfl, rfl, _, rfl, ite2 (fun e => ?_) (fun e => ?_)⟩
    · refine ⟨_, rfl, _, rfl, _, rfl, sl_go hp fun c H3 s3 h3 => ?_⟩
      refine ⟨_, rfl, _, _, rfl, srcS s2 s3, by decide, by decide, fun r H4 s4 b4 r0 r1 => ?_⟩
      refine ⟨_, _, rfl, rfl, (by show 1 ≤ sizeLine; decide), fun t nt => ?_⟩
      have st := same_upd (o := .tup [V.int (100 + r)]) nt
      have s3a := srcS s2 s3
      exact rep _ c t (.int (100 + r)) (.int (100 + r)) (srcN s4 nt _) (((b12.trans (But.of s3)).trans b4).trans (But.of st)) (same_seqT st (sqT_src s3a b4 (same_seqT s3 hp))) (same_seqT st (sqT_src s3a b4 (tk h3))) (.inl (.inl upd_same)) (fun _ => .int _) (at_int (by omega)) (if_neg (by omega)) _ (fun y H6 h => ⟨_, rfl, _, rfl, _, _, rfl, rfl, _, rfl, h⟩)
    -- 3
    refine ⟨_, rfl, rfl, _, rfl, ite2 (fun e => ?_) (fun e => ?_)⟩
    · refine ⟨_, rfl, _, rfl, _, rfl, sl_go hp fun c H3 s3 h3 => ?_⟩
      refine ⟨1, rfl, _, rfl, _, _, rfl, srcS s2 s3, by decide, by decide, fun r H4 s4 b4 r0 r1 => ?_⟩
      refine ⟨_, _, rfl, rfl, (by show 1 ≤ sizeLine; decide), fun t nt => ?_⟩
      have st := same_upd (o := .tup [V.int (-1 - r)]) nt
      have s3a := srcS s2 s3
      exact rep _ c t (.int (-1 - r)) (.int (-1 - r)) (srcN s4 nt _) (((b12.trans (But.of s3)).trans b4).trans (But.of st)) (same_seqT st (sqT_src s3a b4 (same_seqT s3 hp))) (same_seqT st (sqT_src s3a b4 (tk h3))) (.inl (.inl upd_same)) (fun _ => .int _) (at_int (by omega)) (if_neg (by omega)) _ (fun y H6 h => ⟨_, rfl, _, rfl, _, _, rfl, rfl, _, rfl, h⟩)
    -- 4
    refine ⟨_, rfl, rfl, _, rfl, ite2 (fun e => ?_) (fun e => ?_)⟩
    · obtain ⟨R, z, rfl, r9, r2, z1, z9⟩ := okL_split hL
      refine ⟨_, rfl, 1, rfl, _, rfl, sl_go hp fun c H3 s3 h3 => ?_⟩
      rw [cut_last, ← List.map_dropLast, List.dropLast_concat] at h3
      refine ⟨(by show 1 ≤ sizeLine; decide), fun t nt => ?_⟩
      have st := same_upd (o := .tup [V.int 0]) nt
      refine cat_go (same_seqT st h3) (.inl (.inl upd_same)) (by rw [List.length_map]; show _ + 1 ≤ 1000; omega) fun c2 H4 s4 h4 => ?_
      have s24 := (s3.trans st).trans s4
      refine q (.ref c2) (.tuple ((R ++ [0]).map PyData.int)) H4 (srcS s2 s24) (b12.trans (But.of s24)) (.tup (by rw [List.map_append]; exact h4) (dp_ints _)) (od_row (by rw [List.length_map, List.length_append]; show R.length + 1 ≤ 5; omega) (at_ints fun i hi => ?_) (keep_last0 r9))
      rcases List.mem_append.mp hi with h | h
      · exact r9 i h
      · rw [List.mem_singleton.mp h]; exact ⟨by decide, by decide⟩
    -- 5
    refine ⟨_, rfl, rfl, _, rfl, ite2 (fun e => ?_) (fun e => ?_)⟩
    · refine ⟨(by show 2 ≤ sizeLine; decide), fun t nt => ?_⟩
      have st := same_upd (o := .tup [V.int 1, V.int 0]) nt
      refine ⟨_, rfl, 1, rfl, sl_go (same_seqT st hp) fun c H3 s3 h3 => ?_⟩
      have h3 : SqT K H3 c ((L.take 1).map V.int) := by
        have e := cutV_to (L.map V.int) 1
        rw [← List.map_take] at e
        rw [show cutV (L.map V.int) none (some (1 : Int)) = (L.take 1).map V.int from e] at h3
        exact h3
      refine cat_go (same_seqT s3 (.inl (.inl upd_same))) h3 (by rw [List.length_map, List.length_take]; show 2 + _ ≤ 1000; omega) fun c2 H4 s4 h4 => ?_
      refine ⟨(by show 1 ≤ sizeLine; decide), fun t2 nt2 => ?_⟩
      have st2 := same_upd (o := .tup [V.int 1]) nt2
      refine cat_go (same_seqT st2 h4) (.inl (.inl upd_same)) (by rw [List.length_append, List.length_map, List.length_take]; show 2 + _ + 1 ≤ 1000; omega) fun c3 H5 s5 h5 => ?_
      have s25 := (((st.trans s3).trans s4).trans st2).trans s5
      obtain ⟨x, r, rfl⟩ : ∃ x r, L = x :: r := by
        cases L with
        | nil => exact absurd rfl (okL_ne hL)
        | cons x r => exact ⟨x, r, rfl⟩
      have hx := hL.2.2 x (List.mem_cons_self ..)
      have k4 : ok99 [1, 0, x, 1] := fun i hi => by
        simp only [List.mem_cons, List.not_mem_nil, or_false] at hi
        omega
      refine q (.ref c3) (.tuple ([1, 0, x, 1].map PyData.int)) H5 (srcS s2 s25) (b12.trans (But.of s25)) (.tup h5 (dp_ints [1, 0, x, 1])) (od_row (by show 4 ≤ 5; decide) (at_ints k4) ?_)
      rw [toO_ints k4, keep_map, if_neg (fun h => absurd h.1 (by show ¬ 4 ≤ 3; decide))]
    -- 6
    refine ⟨_, rfl, rfl, _, rfl, ite2 (fun e => ?_) (fun e => ?_)⟩
    · refine ⟨_, rfl, _, rfl, _, rfl, sl_go hp fun c H3 s3 h3 => ?_⟩
      refine ⟨(by show 1 ≤ sizeLine; decide), fun t nt => ?_⟩
      have st := same_upd (o := .tup [V.bl true]) nt
      exact rep _ c t (.bl true) (.bool true) (srcS s2 (s3.trans st)) (b12.trans (But.of (s3.trans st))) (same_seqT (s3.trans st) hp) (same_seqT st (tk h3)) (.inl (.inl upd_same)) (fun _ => .bl _) at_true rfl _ (fun y H6 h => ⟨_, rfl, _, rfl, _, _, rfl, rfl, _, rfl, h⟩)
    -- 7
    refine ⟨_, rfl, rfl, _, rfl, ite2 (fun e => ?_) (fun e => ?_)⟩
    · refine ⟨_, rfl, _, rfl, _, rfl, sl_go hp fun c H3 s3 h3 => ?_⟩
      have g : (L.map V.int)[n]? = some (.int L[n]) := by
        rw [List.getElem?_map, List.getElem?_eq_getElem hn]
        rfl
      have hb := hL.2.2 L[n] (List.getElem_mem hn)
      generalize L[n] = i at g hb
      refine ⟨_, rfl, _, rfl, p, _, _, _, rfl, rfl, same_seqT s3 hp, atI_nat g, i, rfl, log_small (by omega), (by show 1 ≤ sizeLine; decide), fun t nt => ?_⟩
      have st := same_upd (o := .tup [V.str (toString i)]) nt
      have no := num_ok hb.1 hb.2
      exact rep _ c t (.str (toString i)) (.str (toString i)) (srcS s2 (s3.trans st)) (b12.trans (But.of (s3.trans st))) (same_seqT (s3.trans st) hp) (same_seqT st (tk h3)) (.inl (.inl upd_same)) (fun _ => .str _) (at_str (by omega) (fun ch hc => Nat.lt_of_le_of_lt (no.2.2.1 ch hc).2 (by decide))) rfl _ (fun y H6 h => ⟨_, rfl, _, rfl, _, _, rfl, rfl, _, rfl, h⟩)
    -- 8
    refine ⟨_, rfl, rfl, _, rfl, ite2 (fun e => ?_) (fun e => ?_)⟩
    · refine ⟨_, rfl, _, rfl, _, rfl, sl_go hp fun c H3 s3 h3 => ?_⟩
      refine ⟨(by show 1 ≤ sizeLine; decide), fun t nt => ?_⟩
      have st := same_upd (o := .tup [V.non]) nt
      exact rep _ c t .non .none (srcS s2 (s3.trans st)) (b12.trans (But.of (s3.trans st))) (same_seqT (s3.trans st) hp) (same_seqT st (tk h3)) (.inl (.inl upd_same)) (fun _ => .non) at_none rfl _ (fun y H6 h => ⟨_, rfl, _, rfl, _, _, rfl, rfl, _, rfl, h⟩)
    -- 9
    refine ⟨_, rfl, rfl, _, rfl, ite2 (fun e => ?_) (fun e => ?_)⟩
    · obtain ⟨R, z, rfl, r9, r2, z1, z9⟩ := okL_split hL
      refine ⟨_, rfl, 1, rfl, p, _, _, _, rfl, rfl, hp, at_end R z, ?_⟩
      exact q (.int z) (.int z) H2 s2 b12 (.int z) ⟨⟨(fun h => nomatch h), rfl⟩, sm_shown (at_int (by omega)).1 (by decide) (by decide), 0, trivial⟩
    -- 10
    refine ⟨_, rfl, rfl, _, rfl, ite2 (fun e => ?_) (fun e => ?_)⟩
    · refine ⟨⟨_, rfl⟩, _, rfl, p, rfl, ⟨_, hp⟩, fun D nD => ?_⟩
      refine lc_tup (xs := L.map V.int) (fun i H' => Same H2 H' ∧ H' D = some (.lst (((L.take i).map fun i => (toString i : Str)).map V.str))) ⟨same_upd nD, upd_same⟩ (fun i H' _ hh => same_seqT hh.1 hp) ?_ ?_
      · rintro i x H' hx ⟨sm, eD⟩
        obtain ⟨m, rfl, hm⟩ : ∃ n, x = V.int n ∧ L[i]? = some n := by
          rw [List.getElem?_map] at hx
          cases e : L[i]? with
          | none => rw [e] at hx; cases hx
          | some n => rw [e] at hx; exact ⟨n, (Option.some.inj hx).symm, rfl⟩
        have hb := hL.2.2 m (List.mem_of_getElem? hm)
        refine ⟨rfl, ?_⟩
        refine ⟨_, rfl, m, rfl, log_small (by omega), _, eD, ?_, same_put sm nD _, ?_⟩
        · rw [List.length_map, List.length_map, List.length_take]; exact small1000 (by omega)
        · rw [upd_same, List.take_add_one, hm, List.map_append, List.map_append]; rfl
      rintro H' ⟨sm, eD⟩
      rw [List.length_map, List.take_length] at eD
      refine ⟨_, D, _, rfl, rfl, .inl (.inl (.inl eD)), ?_, ?_⟩
      · exact num_fit hL
      have fl := fL_len hL
      exact q (.str (fL L)) (.str (fL L)) H' (srcS s2 sm) (b12.trans (But.of sm)) (.str _) ⟨⟨(fun h => nomatch h), rfl⟩, sm_shown (at_str (by omega) (fL_sign hL)).1 (by decide) (by decide), 0, trivial⟩
    -- the rest
    refine ⟨_, rfl, (by show 1 ≤ sizeLine; decide), fun t nt => ?_⟩
    have st := same_upd (o := .tup [V.ref p]) nt
    have sl : Sm (5 * 300 + 13) 1 (dL L) := sm_tup (by rw [List.length_map]; omega) fun d hd => (at_ints hL.2.2 d hd).1
    refine q (.ref t) (.tuple [dL L]) _ (srcN s2 nt _) (b12.trans (But.of st)) (.tup (.inl (.inl upd_same)) (.cons (dpL (same_seqT st hp)) .nil)) ⟨⟨(fun h => nomatch h), rfl⟩, sm_shown (sm_tup (B := 5 * 300 + 13) (k := 1) (by show 1 ≤ 5; decide) fun d hd => by rw [List.mem_singleton.mp hd]; exact sl) (by decide) (by decide), 2, fun d hd => ?_⟩
    rw [List.mem_singleton.mp hd]
    intro d hd
    obtain ⟨i, _, rfl⟩ := List.mem_map.mp hd
    trivial
theorem ok_due (T : Tab K mg) : FnOk P w K mg base CX0 2 T.f_due T.d_due ["_law_low", "_law_high"] (sp_due K) := by
  refine T.F_due.ok sc_due (fun vs H Q E h => ?_) (fun cdv A outer s H vs Q E hr h => ?_)
  · obtain ⟨x, y, lo, hi, rfl, _⟩ := h
    rfl
  · obtain ⟨x, y, lo, hi, rfl, hx, hy, ko, kh, q⟩ := h
    refine ⟨_, (pss_cons (ps_set (i := 2) sc_due.nd rfl (.inl rfl) (pe_tup pa_nil))
      (C8.pss_cut (ps_if (pt_cmpR op_notN (pv 0) pe_non (nomark _))
      (pss_one (ps_set (i := 2) sc_due.nd rfl (.inl rfl) (pv 0)))
      pss_nil)
      (pss_cons (ps_for PassesOwn.never rfl (pi_list (pe_lst (pa_cons pe_int (pa_cons pe_int (pa_cons pe_int pa_nil))))) (pg_name (i := 3) sc_due.nd rfl (.inl rfl))
      (pss_cons (ps_set (i := 4) sc_due.nd rfl (.inl rfl) (pe_call (ok_least T) (hr.mono (by decide)) (by rfl) T.g_least T.F_least.kp T.b_least .nil pass0 (pa_cons (pv 2) (pa_cons (pv 3) pa_nil))))
        (pss_one (ps_if (PW.pt (pw_and (pt_cmpR op_notN (pv 4) pe_non (nomark _)) (pw_and1 (PW.pt (pw_or (pt_cmpR op_isN (pv 1) pe_non (nomark _)) (pw_or1 (pt_cmpR (op_ltT hr.units0) (pv 4) (pv 1) (nomark _))))))))
        (pss_one (ps_ret (pv 4)))
        pss_nil))))
      (pss_one (ps_ret pe_non))))), ?_⟩
    refine ⟨Nat.zero_le _, fun t nt => ?_⟩
    have st := same_upd (o := .tup []) nt
    have h99 : ok99 (lo.getD []) ∧ (lo.getD []).length ≤ 3 := by
      cases lo with
      | none => exact ⟨(fun _ h => nomatch h), by decide⟩
      | some L => exact ⟨(ko L rfl).2.2, (ko L rfl).1⟩
    refine ⟨fun σ' H' => ∃ s, σ' = [some x, some y, some s, none, none] ∧ Same H H' ∧ Dp K H' s (dL (lo.getD [])), ?_, ?_⟩
    · cases lo with
      | none =>
        cases hx
        refine ⟨_, rfl, rfl, _, rfl, ite2 (fun e => by simp at e) (fun _ => ?_)⟩
        exact ⟨_, rfl, st, dpL (.inl (.inl upd_same))⟩
      | some L =>
        obtain ⟨p, rfl, hp⟩ := dL_inv hx
        refine ⟨_, rfl, rfl, _, rfl, ite2 (fun _ => ?_) (fun e => absurd (show (!decide (V.ref p = V.non)) = true by simp) e)⟩
        exact ⟨_, rfl, _, rfl, st, dpL (same_seqT st hp)⟩
    rintro σ' H1 ⟨s, rfl, s1, hs⟩
    refine ⟨(by show 3 ≤ sizeLine; decide), fun l nl => ?_⟩
    have sl := same_upd (o := .lst [V.int 1, .int 2, .int 3]) nl
    refine ⟨l, rfl, ⟨_, .inl (.inl upd_same)⟩, for_list (xs := [V.int 1, .int 2, .int 3]) (fun i σ' H' => ∃ (n3 n4 : Option V), σ' = [some x, some y, some s, n3, n4] ∧ Same (upd H1 l (.lst [V.int 1, .int 2, .int 3])) H' ∧ pickN lo hi ([1, 2, 3].drop i) = btw lo hi) ⟨none, none, rfl, Same.refl _, rfl⟩ (fun i σ' H' _ ⟨_, _, _, s, _⟩ => .inl (.inl (s _ _ upd_same))) ?_ ?_⟩
    · rintro i z σ' H3 hz ⟨n3, n4, rfl, s3, ep⟩
      have ei : ∃ n : Nat, z = .int (n : Int) ∧ [1, 2, 3].drop i = n :: [1, 2, 3].drop (i + 1) ∧ 1 ≤ n ∧ n ≤ 3 := by
        have : i < 3 := (List.getElem?_eq_some_iff.mp hz).1
        have : i = 0 ∨ i = 1 ∨ i = 2 := by omega
        rcases this with rfl | rfl | rfl
        · exact ⟨1, (Option.some.inj hz).symm, rfl, by decide, by decide⟩
        · exact ⟨2, (Option.some.inj hz).symm, rfl, by decide, by decide⟩
        · exact ⟨3, (Option.some.inj hz).symm, rfl, by decide, by decide⟩
      obtain ⟨n, rfl, ei, n1, n3'⟩ := ei
      rw [ei] at ep
      have s13 := s1.trans (sl.trans s3)
      have hs3 := dp_same (sl.trans s3) hs
      have hy3 := dp_same s13 hy
      refine ⟨_, rfl, _, rfl, s, lo.getD [], n, rfl, hs3, h99.1, h99.2, n1, n3', fun v H4 s4 hv => ?_⟩
      have go : ∀ {n4 : Option V}, pickN lo hi ([1, 2, 3].drop (i + 1)) = btw lo hi → ∃ (n3 n4' : Option V), [some x, some y, some s, some (V.int (n : Int)), n4] = [some x, some y, some s, n3, n4'] ∧ Same (upd H1 l (.lst [V.int 1, .int 2, .int 3])) H4 ∧ pickN lo hi ([1, 2, 3].drop (i + 1)) = btw lo hi := fun {n4} b => ⟨_, n4, rfl, s3.trans s4, b⟩
      have s14 := s13.trans s4
      cases el : least (lo.getD []) n with
      | none =>
        rw [el] at hv
        cases hv
        refine ⟨_, rfl, rfl, _, rfl, ite2 (fun e => by simp at e) (fun _ => iteF ?_)⟩
        exact go ((pickN_none el).symm.trans ep)
      | some L =>
        rw [el] at hv
        obtain ⟨p, rfl, hp⟩ := dL_inv hv
        have hy4 := dp_same s4 hy3
        refine ⟨_, rfl, rfl, _, rfl, ite2 (fun _ => ?_) (fun e => absurd (show (!decide (V.ref p = V.non)) = true by simp) e)⟩
        cases hi with
        | none =>
          cases hy4
          refine ⟨_, rfl, rfl, _, rfl, ite2 (fun _ => iteT ?_) (fun e => absurd (decide_eq_true rfl) e)⟩
          refine ⟨_, rfl, q _ _ s14 ?_⟩
          rw [ep.symm.trans (pickN_yes (hi := none) el rfl)]
          exact hv
        | some M =>
          obtain ⟨r, rfl, hr4⟩ := dL_inv hy4
          refine ⟨_, rfl, rfl, _, rfl, ite2 (fun e => by simp at e) (fun _ => ?_)⟩
          refine ⟨_, rfl, _, rfl, p, r, L, M, rfl, rfl, hp, hr4, _, rfl, ?_⟩
          by_cases hlt : HT.lexLt L M = true
          · rw [hlt]
            refine iteT ⟨_, rfl, q _ _ s14 ?_⟩
            rw [ep.symm.trans (pickN_yes (hi := some M) el hlt)]
            exact hv
          · rw [Bool.not_eq_true] at hlt
            rw [hlt]
            exact iteF (go ((pickN_no (hi := some M) el hlt).symm.trans ep))
    · rintro σ' H3 ⟨n3, n4, rfl, s3, ep⟩
      refine q .non _ (s1.trans (sl.trans s3)) ?_
      rw [← ep]
      exact .non
theorem ok_is_label (T : Tab K mg) : FnOk P w K mg base CX0 2 T.f_is_label T.d_is_label ["_law_actual", "_law_due_here"] (sp_is_label K) := by
  refine T.F_is_label.ok sc_is_label (fun vs H Q E h => ?_) (fun cdv A outer s H vs Q E hr h => ?_)
  · obtain ⟨x, y, L, rfl, _⟩ := h
    rfl
  · obtain ⟨x, y, L, rfl, hx, hy, q⟩ := h
    refine ⟨_, (pss_cons (ps_if (PW.pt (pw_or (pt_not (pt_val (pe_callB call_isi (by rfl) T.m_isinstance (by decide +kernel) (pa_cons (pv 0) (pa_cons (pe_bltn (v := .ty "tuple") (u := .type "tuple") (by rfl) T.m_tuple (by decide +kernel) rfl) pa_nil))))) (pw_or1 (pt_cmpR op_ne (pe_callB call_len_seq (by rfl) T.m_len PySem.boot_len (pa_cons (pv 0) pa_nil)) (pe_callB call_len_seq (by rfl) T.m_len PySem.boot_len (pa_cons (pv 1) pa_nil)) (nomark _)))))
      (pss_one (ps_ret pe_bl))
      pss_nil)
      (pss_cons (ps_for PassesOwn.never rfl (pi_tup (pv 0)) (pg_name (i := 2) sc_is_label.nd rfl (.inl rfl))
      (pss_one (ps_if (pt_not (pt_val (pe_call (ok_law_is_integer T) (hr.mono (by decide)) (by rfl) T.g_law_is_integer T.F_law_is_integer.kp T.b_law_is_integer .nil pass0 (pa_cons (pv 2) pa_nil))))
        (pss_one (ps_ret pe_bl))
        pss_nil)))
      (pss_one (ps_ret (pe_cmpR (op_eqD hr.units) (pv 0) (pv 1) (nomark _)))))), ?_⟩
    obtain ⟨a, rfl, ha⟩ := dL_inv hx
    obtain ⟨b, rfl, hb⟩ := dL_inv hy
    refine ⟨_, rfl, _, _, _, _, _, rfl, .ty "tuple", ty_T ha, kit_ty (by decide +kernel), true, rfl, iteF ?_⟩
    refine ⟨_, rfl, _, _, rfl, .inr ha, _, rfl, _, _, rfl, .inr hb, rfl, _, rfl, ite2 (fun e => by simp at e) (fun _ => ?_)⟩
    refine ⟨_, rfl, a, rfl, ⟨_, ha⟩, for_tup (xs := L.map V.int) (fun i σ' H' => ∃ y2 : Option V, σ' = [some (.ref a), some (.ref b), y2] ∧ H = H') ⟨none, rfl, rfl⟩ (fun i σ' H' _ ⟨_, _, e⟩ => e ▸ ha) ?_ ?_⟩
    · rintro i x σ' H' hx' ⟨y2, rfl, rfl⟩
      rw [List.getElem?_map] at hx'
      cases e : L[i]? with
      | none => rw [e] at hx'; cases hx'
      | some z =>
        rw [e] at hx'
        cases hx'
        refine ⟨_, rfl, z, rfl, true, rfl, iteF ?_⟩
        exact ⟨_, rfl, rfl⟩
    · rintro σ' H' ⟨y2, rfl, rfl⟩
      refine ⟨_, rfl, _, rfl, _, _, hx, hy, shaped_it L, shaped_it L, ?_⟩
      have e : PyData.eqv (dL L) (dL L) = true := by
        show PyData.eqvAll (L.map PyData.int) (L.map PyData.int) = true
        rw [eqv_ints]
        exact decide_eq_true rfl
      rw [e]
      exact q
theorem ok_kept_label (T : Tab K mg) : FnOk P w K mg base CX0 3 T.f_kept_label T.d_kept_label ["thing"] (sp_kept_label K) := by
  refine T.F_kept_label.ok sc_kept_label (fun vs H Q E h => ?_) (fun cdv A outer s H vs Q E hr h => ?_)
  · obtain ⟨v, d, rfl, _⟩ := h
    rfl
  · obtain ⟨v, d, rfl, hd, q⟩ := h
    refine ⟨_, (pss_cons (ps_if (pt_not (pt_val (pe_call (ok_is_sized T) (hr.mono (by decide)) (by rfl) T.g_is_sized T.F_is_sized.kp T.b_is_sized .nil pass0 (pa_cons (pv 0) (pa_cons pe_int (pa_cons (pe_glob (v := .int 3) (by rfl) T.c_MOST_PARTS ⟨_, rfl⟩) pa_nil))))))
      (pss_one (ps_ret pe_non))
      pss_nil)
      (pss_cons (ps_if (PW.pt (pw_or (pt_not (pt_val (pe_callB (cr_all rfl) (by rfl) T.m_all (by decide +kernel) (pa_cons (pe_lc (own := [("part", 1)]) (g := gName 1) (by rfl) sc_kept_label.nd (pi_or (pi_list (pv 0)) (pi_tup (pv 0))) (blkOk_by (own := [("part", 1)]) (N := N_kept_label) (sc := defScope s_kept_label) (by decide +kernel)) (fun _ _ _ _ _ => pg_name (i := 1) sc_kept_label.nd rfl (.inl rfl)) (fun _ _ _ _ _ => pts_nil) (fun _ _ _ _ _ => (pe_call (ok_is_within T) (hr.mono (by decide)) (by rfl) T.g_is_within T.F_is_within.kp T.b_is_within .nil pass0 (pa_cons (pv 1) (pa_cons pe_int (pa_cons pe_int pa_nil)))))) pa_nil)))) (pw_or1 (pt_cmpR op_eq (pe_ix (IxR.or ix_list ix_tup) (pv 0) (pe_un un_neg pe_int) (fun _ _ => rfl)) pe_int (nomark _)))))
      (pss_one (ps_ret pe_non))
      pss_nil)
      (pss_one (ps_ret (pe_callTy call_tuple_of (by rfl) T.m_tuple (by decide +kernel) (pa_cons (pv 0) pa_nil)))))), ?_⟩
    refine ⟨_, rfl, _, d, 1, 3, rfl, hd, fun H1 s1 => ⟨_, rfl, ?_⟩⟩
    have no : keptD d = none → Q .non H1 := fun e => q .non H1 s1 (by rw [e]; exact .non)
    -- of a row: all of it is looked at
    have row : ∀ (ds : List PyData), items d = some ds → sz 1 3 d = decide ((1 : Int) ≤ (ds.length : Int) ∧ (ds.length : Int) ≤ 3) := fun ds hi => by unfold sz; rw [hi]
    have kd : ∀ (ds : List PyData), items d = some ds → keptD d = keep (ds.map toO) := fun ds hi => by unfold keptD; rw [hi]
    have kb : ∀ (ds : List PyData), items d = some ds → ¬ ((1 : Int) ≤ (ds.length : Int) ∧ (ds.length : Int) ≤ 3) → keptD d = none := fun ds hi h => by
      rw [kd ds hi]
      unfold keep
      cases e : allSome (ds.map toO) with
      | none => rfl
      | some L =>
        have eo := allSome_all e
        have el : ds.length = L.length := by have := congrArg List.length eo; rw [List.length_map, List.length_map] at this; exact this
        simp only
        rw [if_neg ?_]
        rintro ⟨h1, h2⟩
        apply h
        rw [el]
        refine ⟨?_, by omega⟩
        cases L with
        | nil => exact absurd rfl h2
        | cons x r => simp only [List.length_cons]; omega
    cases hd with
    | non => exact no rfl
    | bl b => exact no rfl
    | int i => exact no rfl
    | str z => exact no rfl
    | lst h k => 
      rename_i a xs ds
      have hl := dpAll_len k
      by_cases hsz : (1 : Int) ≤ (ds.length : Int) ∧ (ds.length : Int) ≤ 3
      · rw [row ds rfl, decide_eq_true hsz]
        have hS := s1.seq h
        have k1 := dpAll_same s1 k
        refine .inl ⟨_, rfl, a, rfl, ⟨_, hS⟩, fun D nD => ?_⟩
        refine lc_list (xs := xs) (fun i H' => Same H1 H' ∧ H' D = some (.lst ((ds.take i).map fun d => V.bl (wI 0 99 d)))) ⟨same_upd nD, upd_same⟩ (fun i H' _ hh => Same.seq hh.1 hS) ?_ ?_
        · rintro i x H' hx ⟨sm, eD⟩
          obtain ⟨e, he, hde⟩ := dpAll_get k1 hx
          refine ⟨rfl, ?_⟩
          refine ⟨_, rfl, _, e, 0, 99, rfl, dp_same sm hde, _, eD, ?_, same_put sm nD _, ?_⟩
          · rw [List.length_map, List.length_take]; exact small1000 (by omega)
          · rw [upd_same, List.take_add_one, he, List.map_append]; rfl
        · rintro H' ⟨sm, eD⟩
          rw [hl, List.take_length, map_bl] at eD
          have s2 := s1.trans sm
          refine ⟨D, _, rfl, .inl (.inl eD), _, rfl, ?_⟩
          rw [all_bl]
          by_cases hA : ds.all (wI 0 99) = true
          · obtain ⟨L, rfl, hL9⟩ := all_ints hA
            obtain ⟨R, z, rfl⟩ : ∃ R z, L = R ++ [z] := by
              have hne : L ≠ [] := fun e => by rw [e] at hsz; simp at hsz
              exact ⟨_, _, (List.dropLast_concat_getLast hne).symm⟩
            rw [hA]
            have ex : xs = (R ++ [z]).map V.int := dp_ints_inv k
            rw [ex] at h hS
            have ekd := kd _ rfl
            rw [toO_ints hL9, keep_map] at ekd
            have egl : (R ++ [z]).getLastD 0 = z := by rw [List.getLastD_eq_getLast?, List.getLast?_append]; rfl
            rw [egl] at ekd
            have l3 : (R ++ [z]).length ≤ 3 := by rw [List.length_map] at hsz; omega
            refine ⟨_, rfl, 1, rfl, .inl ⟨_, _, _, _, rfl, rfl, Same.seq sm hS, at_end R z, rfl, _, rfl, ?_⟩⟩
            by_cases h0 : z = 0
            · rw [decide_eq_true (congrArg V.int h0)]
              exact q .non H' s2 (by rw [ekd, if_neg (fun h => h.2 h0)]; exact .non)
            · rw [decide_eq_false (fun h => h0 (V.int.inj h))]
              refine ⟨_, rfl, _, _, rfl, .inl ⟨Same.seq sm hS, fun l nl => ?_⟩⟩
              exact q (.ref l) _ (s2.trans (same_upd nl)) (by rw [ekd, if_pos ⟨l3, h0⟩]; exact dpL (.inl (.inl upd_same)))
          · rw [Bool.not_eq_true] at hA
            rw [hA]
            exact q .non H' s2 (by rw [kd ds rfl, keep_none (not_all hA)]; exact .non)
      · rw [row ds rfl, decide_eq_false hsz]
        exact no (kb ds rfl hsz)
    | tup h k =>
      rename_i a xs ds
      have hl := dpAll_len k
      by_cases hsz : (1 : Int) ≤ (ds.length : Int) ∧ (ds.length : Int) ≤ 3
      · rw [row ds rfl, decide_eq_true hsz]
        have hS := same_seqT s1 h
        have k1 := dpAll_same s1 k
        refine .inr ⟨_, rfl, a, rfl, ⟨_, hS⟩, fun D nD => ?_⟩
        refine lc_tup (xs := xs) (fun i H' => Same H1 H' ∧ H' D = some (.lst ((ds.take i).map fun d => V.bl (wI 0 99 d)))) ⟨same_upd nD, upd_same⟩ (fun i H' _ hh => same_seqT hh.1 hS) ?_ ?_
        · rintro i x H' hx ⟨sm, eD⟩
          obtain ⟨e, he, hde⟩ := dpAll_get k1 hx
          refine ⟨rfl, ?_⟩
          refine ⟨_, rfl, _, e, 0, 99, rfl, dp_same sm hde, _, eD, ?_, same_put sm nD _, ?_⟩
          · rw [List.length_map, List.length_take]; exact small1000 (by omega)
          · rw [upd_same, List.take_add_one, he, List.map_append]; rfl
        · rintro H' ⟨sm, eD⟩
          rw [hl, List.take_length, map_bl] at eD
          have s2 := s1.trans sm
          refine ⟨D, _, rfl, .inl (.inl eD), _, rfl, ?_⟩
          rw [all_bl]
          by_cases hA : ds.all (wI 0 99) = true
          · obtain ⟨L, rfl, hL9⟩ := all_ints hA
            obtain ⟨R, z, rfl⟩ : ∃ R z, L = R ++ [z] := by
              have hne : L ≠ [] := fun e => by rw [e] at hsz; simp at hsz
              exact ⟨_, _, (List.dropLast_concat_getLast hne).symm⟩
            rw [hA]
            have ex : xs = (R ++ [z]).map V.int := dp_ints_inv k
            rw [ex] at h hS
            have ekd := kd _ rfl
            rw [toO_ints hL9, keep_map] at ekd
            have egl : (R ++ [z]).getLastD 0 = z := by rw [List.getLastD_eq_getLast?, List.getLast?_append]; rfl
            rw [egl] at ekd
            have l3 : (R ++ [z]).length ≤ 3 := by rw [List.length_map] at hsz; omega
            refine ⟨_, rfl, 1, rfl, .inr ⟨_, _, _, _, rfl, rfl, same_seqT sm hS, at_end R z, rfl, _, rfl, ?_⟩⟩
            by_cases h0 : z = 0
            · rw [decide_eq_true (congrArg V.int h0)]
              exact q .non H' s2 (by rw [ekd, if_neg (fun h => h.2 h0)]; exact .non)
            · rw [decide_eq_false (fun h => h0 (V.int.inj h))]
              refine ⟨_, rfl, _, _, rfl, .inr ⟨same_seqT sm hS, ?_⟩⟩
              exact q (.ref a) _ s2 (by rw [ekd, if_pos ⟨l3, h0⟩]; exact dpL (same_seqT sm hS))
          · rw [Bool.not_eq_true] at hA
            rw [hA]
            exact q .non H' s2 (by rw [kd ds rfl, keep_none (not_all hA)]; exact .non)
      · rw [row ds rfl, decide_eq_false hsz]
        exact no (kb ds rfl hsz)
theorem ok_label (T : Tab K mg) : FnOk P w K mg base CX0 3 T.f_label T.d_label ["_law_source_here"] (sp_label K) := by
  refine T.F_label.ok sc_label (fun vs H Q E h => ?_) (fun cdv A outer s H vs Q E hr h => ?_)
  · obtain ⟨a, rfl, _⟩ := h
    rfl
  · obtain ⟨a, rfl, src, q⟩ := h
    refine ⟨_, (pss_cons (ps_set (i := 1) sc_label.nd rfl (.inl rfl) (pe_op op_add pe_int (pe_call (ok_pick T) (hr.mono (by decide)) (by rfl) T.g_pick T.F_pick.kp T.b_pick .nil pass0 (pa_cons (pv 0) (pa_cons pe_int pa_nil)))))
      (pss_cons (ps_set (i := 2) sc_label.nd rfl (.inl rfl) (pe_lst pa_nil))
      (pss_cons (ps_for PassesOwn.never rfl (pi_range1 (by rfl) T.m_range (pa_cons (pe_op op_sub (pv 1) pe_int) pa_nil)) (pg_name (i := 3) sc_label.nd rfl (.inl rfl))
      (pss_one (ps_expr (pe_bm PySem.F.plainAttrs_list PySem.F.slot_list_append PySem.F.type_list_append mt_append (pv 2) (pa_cons (pe_call (ok_figure T) (hr.mono (by decide)) (by rfl) T.g_figure T.F_figure.kp T.b_figure .nil pass0 (pa_cons (pv 0) (pa_cons pe_int pa_nil))) pa_nil)))))
      (pss_cons (ps_expr (pe_bm PySem.F.plainAttrs_list PySem.F.slot_list_append PySem.F.type_list_append mt_append (pv 2) (pa_cons (pe_call (ok_figure T) (hr.mono (by decide)) (by rfl) T.g_figure T.F_figure.kp T.b_figure .nil pass0 (pa_cons (pv 0) (pa_cons pe_int pa_nil))) pa_nil)))
      (pss_one (ps_ret (pe_callTy call_tuple_of (by rfl) T.m_tuple (by decide +kernel) (pa_cons (pv 2) pa_nil)))))))), ?_⟩
    refine ⟨_, rfl, _, _, rfl, src, by decide, by decide, fun n1 H1 s1 b1 p1 p2 => ?_⟩
    refine ⟨_, _, rfl, rfl, ?_⟩
    refine ⟨Nat.zero_le _, fun D nD => ?_⟩
    have nDa : D ≠ a := (s1.ne nD).symm
    have fD : H D = none := b1.none nD nDa
    have grow : ∀ {L : List Int} {v : Int}, ok99 L → 0 ≤ v → v ≤ 99 → ok99 (L ++ [v]) := fun {L v} hL h0 h9 i hi => by
      rcases List.mem_append.mp hi with h | h
      · exact hL _ h
      · rw [List.mem_singleton.mp h]; exact ⟨h0, h9⟩
    refine ⟨_, rfl, _, _, rfl, rfl, _, rfl, by omega, by omega, for_range (lo := 0) (n := (1 + n1 - 1).toNat) (fun j σ' H' => ∃ (L : List Int) (y : Option V), σ' = [some (.ref a), some (.int (1 + n1)), some (.ref D), y] ∧ Src H' a ∧ But a H H' ∧ H' D = some (.lst (L.map V.int)) ∧ L.length = j ∧ ok99 L) ⟨[], none, rfl, s1.put nDa.symm _, b1.put fD _, upd_same, rfl, (fun _ h => nomatch h)⟩ ?_ ?_⟩
    · rintro j σ' H2 hj ⟨L, y, rfl, s2, b2, eD, lL, bL⟩
      refine ⟨_, rfl, .inl ⟨rfl, _, .inl (.inl eD)⟩, _, rfl, a, 0, rfl, s2, by decide, by decide, fun v H3 s3 b3 p3 p4 => ?_⟩
      have eD3 := b3 _ _ nDa eD
      refine ⟨D, _, _, rfl, rfl, eD3, ?_, L ++ [v], _, rfl, s3.put nDa.symm _, (b2.trans b3).put fD _, ?_, ?_, grow bL (by omega) p4⟩
      · rw [List.length_map]; exact small1000 (by omega)
      · rw [upd_same, List.map_append]; rfl
      · rw [List.length_append, lL]; rfl
    · rintro σ' H2 ⟨L, y, rfl, s2, b2, eD, lL, bL⟩
      refine ⟨_, rfl, .inl ⟨rfl, _, .inl (.inl eD)⟩, _, rfl, a, 1, rfl, s2, by decide, by decide, fun v H3 s3 b3 p3 p4 => ?_⟩
      have eD3 := b3 _ _ nDa eD
      refine ⟨D, _, _, rfl, rfl, eD3, ?_, ?_⟩
      · rw [List.length_map]; exact small1000 (by omega)
      have e4 : upd H3 D (.lst (L.map V.int ++ [V.int v])) D = some (.lst ((L ++ [v]).map V.int)) := by rw [upd_same, List.map_append]; rfl
      refine ⟨_, rfl, D, _, rfl, .inl ⟨.inl (.inl e4), fun t nt => ?_⟩⟩
      have s4 := s3.put nDa.symm (.lst (L.map V.int ++ [V.int v]))
      have b4 := (b2.trans b3).put fD (.lst (L.map V.int ++ [V.int v]))
      refine q (.ref t) (L ++ [v]) _ (s4.put (s4.ne nt) _) (b4.trans (But.of (same_upd nt))) (dpL (.inl (.inl upd_same))) ⟨?_, ?_, grow bL (by omega) p4⟩
      · rw [List.length_append, lL]; show _ + 1 ≤ 3; omega
      · rw [List.getLastD_eq_getLast?, List.getLast?_append]
        show v ≠ 0
        omega
theorem ok_judged_label (T : Tab K mg) : FnOk P w K mg base (L2.CX P w) 4 T.f_judged_label T.d_judged_label ["thing"] (sp_judged_label K T.C_BadLabel) := by
  refine T.F_judged_label.okX sc_judged_label (fun vs H Q E h => ?_) (fun cdv A outer s H vs Q E hr h => ?_)
  · obtain ⟨v, d, rfl, _⟩ := h
    rfl
  · obtain ⟨v, d, rfl, hd, kE, kQ⟩ := h
    refine ⟨_, (pss_cons (ps_set (i := 1) sc_judged_label.nd rfl (.inl rfl) (pe_call (ok_kept_label T) (hr.mono (by decide)) (by rfl) T.g_kept_label T.F_kept_label.kp T.b_kept_label .nil pass0 (pa_cons (pv 0) pa_nil)))
      (pss_cons (ps_if (pt_cmpR op_isN (pv 1) pe_non (nomark _))
      (pss_one (ps_raise rfl (takes_of rfl rfl rfl rfl) (pmk_oex T.o_BadLabel T.g_BadLabel_init T.i_BadLabel (ok_BadLabel_init T) (hr.mono (by decide)) T.b_BadLabel_init .nil (fun _ _ _ _ _ _ _ h => h.elim) (by rfl) T.cg_BadLabel (pa_cons (pv 0) pa_nil))))
      pss_nil)
      (pss_one (ps_ret (pv 1))))), ?_⟩
    refine ⟨_, rfl, _, d, rfl, hd, fun y H1 s1 dp => ?_⟩
    refine ⟨_, rfl, rfl, _, rfl, ite2 (fun e => ?_) (fun e => ?_)⟩
    · have ek : keptD d = none := by
        cases q : keptD d with
        | none => rfl
        | some L =>
          rw [q] at dp
          obtain ⟨a, rfl, _⟩ := dL_inv dp
          exact absurd (of_decide_eq_true e) (by intro z; cases z)
      refine ⟨_, rfl, (by show 1 ≤ 1000; decide), fun a na => ?_⟩
      refine ⟨a, v, rfl, T.o_BadLabel, T.n_BadLabel_label, upd_same, fun dx n1 n2 => ⟨rfl, dx, [("label", v)], upd_same, ?_, ?_, ?_⟩⟩
      · rw [upd_ne n2, upd_same]
      · rw [upd_ne n2] at n1
        exact n1
      · exact kE ek _ dx (same_made s1 na n1 n2) upd_same
    · cases q : keptD d with
      | none =>
        rw [q] at dp
        cases dp
        exact absurd (decide_eq_true rfl) e
      | some L =>
        rw [q] at dp
        exact ⟨_, rfl, kQ L q y H1 s1 dp⟩
theorem ok_behind (T : Tab K mg) : FnOk P w K mg base CX0 4 T.f_behind T.d_behind ["_law_source_here", "_law_low"] (sp_behind K) := by
  refine T.F_behind.ok sc_behind (fun vs H Q E h => ?_) (fun cdv A outer s H vs Q E hr h => ?_)
  · obtain ⟨a, v, L, rfl, _⟩ := h
    rfl
  · obtain ⟨a, v, L, rfl, src, hv, hL, q⟩ := h
    refine ⟨_, (pss_cons (ps_set (i := 2) sc_behind.nd rfl (.inl rfl) (pe_call (ok_pick T) (hr.mono (by decide)) (by rfl) T.g_pick T.F_pick.kp T.b_pick .nil pass0 (pa_cons (pv 0) (pa_cons pe_int pa_nil))))
      (C8.pss_cut (ps_if (PW.pt (pw_and (pt_cmpR op_eq (pv 2) pe_int (nomark _)) (pw_and1 (pt_cmpR op_lt (pe_callB call_len_seq (by rfl) T.m_len PySem.boot_len (pa_cons (pv 1) pa_nil)) pe_int (nomark _)))))
      (pss_one (ps_ret (pe_op op_catA (pv 1) (pe_tup (pa_cons (pe_op op_add pe_int (pe_call (ok_pick T) (hr.mono (by decide)) (by rfl) T.g_pick T.F_pick.kp T.b_pick .nil pass0 (pa_cons (pv 0) (pa_cons pe_int pa_nil)))) pa_nil)))))
      pss_nil)
      (C8.pss_cut (ps_if (PW.pt (pw_and (pt_cmpR op_eq (pv 2) pe_int (nomark _)) (pw_and1 (pt_cmpR op_eq (pe_callB call_len_seq (by rfl) T.m_len PySem.boot_len (pa_cons (pv 1) pa_nil)) pe_int (nomark _)))))
      (pss_one (ps_ret (pe_op op_catA (pv 1) (pe_tup (pa_cons pe_int (pa_cons (pe_op op_add pe_int (pe_call (ok_pick T) (hr.mono (by decide)) (by rfl) T.g_pick T.F_pick.kp T.b_pick .nil pass0 (pa_cons (pv 0) (pa_cons pe_int pa_nil)))) pa_nil))))))
      pss_nil)
      (C8.pss_cut (ps_if (PW.pt (pw_and (pt_cmpR op_eq (pv 2) pe_int (nomark _)) (pw_and1 (pt_cmpR op_lt (pe_ix ix_tup (pv 1) (pe_un un_neg pe_int) (fun _ _ => rfl)) pe_int (nomark _)))))
      (pss_one (ps_ret (pe_op op_catA (pe_slice sl_tup (pv 1) po_none (po_some (pe_un un_neg pe_int))) (pe_tup (pa_cons (pe_op op_add (pe_op op_add (pe_ix ix_tup (pv 1) (pe_un un_neg pe_int) (fun _ _ => rfl)) pe_int) (pe_call (ok_pick T) (hr.mono (by decide)) (by rfl) T.g_pick T.F_pick.kp T.b_pick .nil pass0 (pa_cons (pv 0) (pa_cons pe_int pa_nil)))) pa_nil)))))
      pss_nil)
      (C8.pss_cut (ps_if (PW.pt (pw_and (pt_cmpR op_eq (pv 2) pe_int (nomark _)) (pw_and (pt_cmpR op_gt (pe_callB call_len_seq (by rfl) T.m_len PySem.boot_len (pa_cons (pv 1) pa_nil)) pe_int (nomark _)) (pw_and1 (pt_cmpR op_lt (pe_ix ix_tup (pv 1) pe_int (fun _ _ => rfl)) pe_int (nomark _))))))
      (pss_one (ps_ret (pe_tup (pa_cons (pe_op op_add (pe_ix ix_tup (pv 1) pe_int (fun _ _ => rfl)) pe_int) pa_nil))))
      pss_nil)
      (C8.pss_cut (ps_if (PW.pt (pw_and (pt_cmpR op_eq (pv 2) pe_int (nomark _)) (pw_and (pt_cmpR op_eq (pe_callB call_len_seq (by rfl) T.m_len PySem.boot_len (pa_cons (pv 1) pa_nil)) pe_int (nomark _)) (pw_and1 (pt_cmpR op_lt (pe_ix ix_tup (pv 1) pe_int (fun _ _ => rfl)) pe_int (nomark _))))))
      (pss_one (ps_ret (pe_tup (pa_cons (pe_ix ix_tup (pv 1) pe_int (fun _ _ => rfl)) (pa_cons (pe_op op_add (pe_ix ix_tup (pv 1) pe_int (fun _ _ => rfl)) pe_int) pa_nil)))))
      pss_nil)
      (C8.pss_cut (ps_if (pt_cmpR op_eq (pv 2) pe_int (nomark _))
      (pss_one (ps_ret (pv 1)))
      pss_nil)
      (pss_one (ps_ret (pe_call (ok_label T) (hr.mono (by decide)) (by rfl) T.g_label T.F_label.kp T.b_label .nil pass0 (pa_cons (pv 0) pa_nil))))))))))), ?_⟩
    obtain ⟨p, rfl, hp0⟩ := dL_inv hv
    obtain ⟨R, z, rfl, r9, r2, z1, z9⟩ := okL_split hL
    refine ⟨_, rfl, _, _, rfl, src, by decide, by decide, fun w H1 s1 b1 w0 w1 => ?_⟩
    have hp := sqT_src src b1 hp0
    have hlen : ((R ++ [z]).map V.int).length = R.length + 1 := by rw [List.length_map, List.length_append]; rfl
    have hne : (R ++ [z]).map V.int ≠ [] := fun e => by rw [e] at hlen; cases hlen
    -- a new tuple is what is told
    have fin : ∀ (H2 : Hp) (M : List Int) (t : Addr), Src H2 a → But a H1 H2 → H2 t = none → okL M → Q (.ref t) (upd H2 t (.tup (M.map V.int))) := fun H2 M t s2 b2 nt k =>
      q (.ref t) M _ (srcN s2 nt _) ((b1.trans b2).trans (But.of (same_upd nt))) (dpL (.inl (.inl upd_same))) k
    refine ⟨fun σ' H' => σ' = [some (.ref a), some (.ref p), some (.int w)] ∧ H1 = H', ?_, ?_⟩
    · refine ⟨_, rfl, rfl, _, rfl, ite2 (fun e => ?_) (fun e => iteF ⟨rfl, rfl⟩)⟩
      refine ⟨_, rfl, _, _, rfl, .inr hp, _, _, rfl, rfl, _, rfl, ite2 (fun e => ?_) (fun e => ⟨rfl, rfl⟩)⟩
      have e1 : (((R ++ [z]).map V.int).length : Int) < 3 := of_decide_eq_true e
      rw [hlen] at e1
      refine ⟨_, rfl, _, rfl, _, _, rfl, s1, by decide, by decide, fun r H2 s2 b2 p3 p4 => ?_⟩
      refine ⟨_, _, rfl, rfl, (by show 1 ≤ sizeLine; decide), fun t nt => ?_⟩
      have hp2 := same_seqT (same_upd (o := .tup [V.int (1 + r)]) nt) (sqT_src s1 b2 hp)
      refine ⟨p, t, _, _, rfl, rfl, hp2, .inl (.inl upd_same), ?_, fun e => absurd e hne, fun _ e => (nomatch e), fun _ _ u nu => ?_⟩
      · rw [hlen]; exact Nat.le_of_lt (small1000 (by show R.length + 1 + 1 ≤ 1000; omega))
      have := fin _ ((R ++ [z]) ++ [1 + r]) u (srcN s2 nt _) (b2.trans (But.of (same_upd nt))) nu (okL_snoc hL.2.2 (by rw [List.length_append]; show R.length + 1 ≤ 2; omega) (by omega) (by omega))
      rw [List.map_append] at this
      exact this
    rintro σ' H' ⟨rfl, rfl⟩
    refine ⟨fun σ' H' => σ' = [some (.ref a), some (.ref p), some (.int w)] ∧ H1 = H', ?_, ?_⟩
    · refine ⟨_, rfl, rfl, _, rfl, ite2 (fun e => ?_) (fun e => iteF ⟨rfl, rfl⟩)⟩
      refine ⟨_, rfl, _, _, rfl, .inr hp, rfl, _, rfl, ite2 (fun e => ?_) (fun e => ⟨rfl, rfl⟩)⟩
      have e1 : (((R ++ [z]).map V.int).length : Int) = 1 := V.int.inj (of_decide_eq_true e)
      rw [hlen] at e1
      refine ⟨_, rfl, _, rfl, _, _, rfl, s1, by decide, by decide, fun r H2 s2 b2 p3 p4 => ?_⟩
      refine ⟨_, _, rfl, rfl, (by show 2 ≤ sizeLine; decide), fun t nt => ?_⟩
      have hp2 := same_seqT (same_upd (o := .tup [V.int 0, V.int (1 + r)]) nt) (sqT_src s1 b2 hp)
      refine ⟨p, t, _, _, rfl, rfl, hp2, .inl (.inl upd_same), ?_, fun e => absurd e hne, fun _ e => (nomatch e), fun _ _ u nu => ?_⟩
      · rw [hlen]; exact Nat.le_of_lt (small1000 (by show R.length + 1 + 2 ≤ 1000; omega))
      have k0 : ok99 ((R ++ [z]) ++ [0]) := fun i hi => by
        rcases List.mem_append.mp hi with h | h
        · exact hL.2.2 i h
        · rw [List.mem_singleton.mp h]; exact ⟨by decide, by decide⟩
      have := fin _ (((R ++ [z]) ++ [0]) ++ [1 + r]) u (srcN s2 nt _) (b2.trans (But.of (same_upd nt))) nu (okL_snoc k0 (by rw [List.length_append, List.length_append]; show R.length + 1 + 1 ≤ 2; omega) (by omega) (by omega))
      rw [List.map_append, List.map_append, List.append_assoc] at this
      exact this
    rintro σ' H' ⟨rfl, rfl⟩
    refine ⟨fun σ' H' => σ' = [some (.ref a), some (.ref p), some (.int w)] ∧ H1 = H', ?_, ?_⟩
    · refine ⟨_, rfl, rfl, _, rfl, ite2 (fun e => ?_) (fun e => iteF ⟨rfl, rfl⟩)⟩
      refine ⟨_, rfl, 1, rfl, _, _, _, _, rfl, rfl, hp, at_end R z, _, _, rfl, rfl, _, rfl, ite2 (fun e => ?_) (fun e => ⟨rfl, rfl⟩)⟩
      have e1 : z < 98 := of_decide_eq_true e
      have ec : cutV ((R ++ [z]).map V.int) none (some (-1)) = R.map V.int := by
        rw [cut_last, ← List.map_dropLast, List.dropLast_concat]
      refine ⟨_, rfl, 1, rfl, _, rfl, p, _, rfl, hp, ?_, fun t nt => ?_⟩
      · rintro ⟨_, h⟩
        have : HT.sIx ((R ++ [z]).map V.int).length ((R ++ [z]).map V.int).length (some (-1)) = R.length := by
          rw [hlen]
          show ((-1 : Int) + ((R.length + 1 : Nat) : Int)).toNat = R.length
          omega
        omega
      rw [ec]
      have st := same_upd (o := .tup (R.map V.int)) nt
      have hp1 := same_seqT st hp
      have s1' := srcN s1 nt (.tup (R.map V.int))
      refine ⟨_, rfl, 1, rfl, _, _, _, _, rfl, rfl, hp1, at_end R z, _, _, rfl, rfl, _, rfl, _, _, rfl, s1', by decide, by decide, fun r H2 s2 b2 p3 p4 => ?_⟩
      refine ⟨_, _, rfl, rfl, (by show 1 ≤ sizeLine; decide), fun u nu => ?_⟩
      have bb : But a H1 H2 := (But.of st).trans b2
      have ht2 : SqT K H2 t (R.map V.int) := sqT_src s1' b2 (.inl (.inl upd_same))
      have hk : okL (R ++ [z + 1 + r]) := okL_snoc r9 r2 (by omega) (by omega)
      have su := same_upd (o := .tup [V.int (z + 1 + r)]) nu
      refine ⟨t, u, _, _, rfl, rfl, same_seqT su ht2, .inl (.inl upd_same), ?_, fun e => ?_, fun _ e => (nomatch e), fun _ _ x nx => ?_⟩
      · rw [List.length_map]; exact Nat.le_of_lt (small1000 (by show R.length + 1 ≤ 1000; omega))
      · have e2 : R = [] := List.map_eq_nil_iff.mp e
        rw [e2] at hk
        exact fin _ [z + 1 + r] u s2 bb nu hk
      · have := fin _ (R ++ [z + 1 + r]) x (srcN s2 nu _) (bb.trans (But.of su)) nx hk
        rw [List.map_append] at this
        exact this
    rintro σ' H' ⟨rfl, rfl⟩
    refine ⟨fun σ' H' => σ' = [some (.ref a), some (.ref p), some (.int w)] ∧ H1 = H', ?_, ?_⟩
    · refine ⟨_, rfl, rfl, _, rfl, ite2 (fun e => ?_) (fun e => iteF ⟨rfl, rfl⟩)⟩
      refine ⟨_, rfl, _, _, rfl, .inr hp, _, _, rfl, rfl, _, rfl, ite2 (fun e => ?_) (fun e => iteF ⟨rfl, rfl⟩)⟩
      have e1 : (1 : Int) < (((R ++ [z]).map V.int).length : Int) := of_decide_eq_true e
      rw [hlen] at e1
      obtain ⟨f, R', rfl⟩ : ∃ f R', R = f :: R' := by
        cases R with
        | nil => simp at e1
        | cons f R' => exact ⟨f, R', rfl⟩
      have hat : atI (((f :: R') ++ [z]).map V.int) 0 = some (.int f) := atI_nat (j := 0) rfl
      refine ⟨_, rfl, p, _, 0, _, rfl, rfl, hp, hat, _, _, rfl, rfl, _, rfl, ite2 (fun e => ?_) (fun e => ⟨rfl, rfl⟩)⟩
      have e2 : f < 99 := of_decide_eq_true e
      refine ⟨_, rfl, p, _, 0, _, rfl, rfl, hp, hat, _, _, rfl, rfl, (by show 1 ≤ sizeLine; decide), fun t nt => ?_⟩
      have f0 := r9 f (by simp)
      exact fin H1 [f + 1] t s1 (But.refl a H1) nt (okL_snoc (R := []) (fun _ h => nomatch h) (by decide) (by omega) (by omega))
    rintro σ' H' ⟨rfl, rfl⟩
    refine ⟨fun σ' H' => σ' = [some (.ref a), some (.ref p), some (.int w)] ∧ H1 = H', ?_, ?_⟩
    · refine ⟨_, rfl, rfl, _, rfl, ite2 (fun e => ?_) (fun e => iteF ⟨rfl, rfl⟩)⟩
      refine ⟨_, rfl, _, _, rfl, .inr hp, rfl, _, rfl, ite2 (fun e => ?_) (fun e => iteF ⟨rfl, rfl⟩)⟩
      have e1 : (((R ++ [z]).map V.int).length : Int) = 3 := V.int.inj (of_decide_eq_true e)
      rw [hlen] at e1
      obtain ⟨f, g, rfl⟩ : ∃ f g, R = [f, g] := by
        match R, e1 with
        | [f, g], _ => exact ⟨f, g, rfl⟩
        | [], h => simp at h
        | [_], h => simp at h
        | _ :: _ :: _ :: r, h => simp at h; omega
      have hat : atI (([f, g] ++ [z]).map V.int) 0 = some (.int f) := atI_nat (j := 0) rfl
      have hat1 : atI (([f, g] ++ [z]).map V.int) 1 = some (.int g) := atI_nat (j := 1) rfl
      refine ⟨_, rfl, p, _, 1, _, rfl, rfl, hp, hat1, _, _, rfl, rfl, _, rfl, ite2 (fun e => ?_) (fun e => ⟨rfl, rfl⟩)⟩
      have e2 : g < 99 := of_decide_eq_true e
      refine ⟨_, rfl, p, _, 0, _, rfl, rfl, hp, hat, _, rfl, p, _, 1, _, rfl, rfl, hp, hat1, _, _, rfl, rfl, (by show 2 ≤ sizeLine; decide), fun t nt => ?_⟩
      have f0 := r9 f (by simp)
      have g0 := r9 g (by simp)
      exact fin H1 ([f] ++ [g + 1]) t s1 (But.refl a H1) nt (okL_snoc (R := [f]) (fun i h => by rw [List.mem_singleton.mp h]; exact f0) (Nat.le_succ 1) (by omega) (by omega))
    rintro σ' H' ⟨rfl, rfl⟩
    refine ⟨fun σ' H' => σ' = [some (.ref a), some (.ref p), some (.int w)] ∧ H1 = H', ?_, ?_⟩
    · refine ⟨_, rfl, rfl, _, rfl, ite2 (fun e => ?_) (fun e => ⟨rfl, rfl⟩)⟩
      exact ⟨_, rfl, q (.ref p) (R ++ [z]) H1 s1 b1 (dpL hp) hL⟩
    rintro σ' H' ⟨rfl, rfl⟩
    exact ⟨_, rfl, a, rfl, s1, fun x M H2 s2 b2 hx hM => q x M H2 s2 (b1.trans b2) hx hM⟩
theorem ok_between (T : Tab K mg) : FnOk P w K mg base (L2.CX P w) 5 T.f_between T.d_between ["low", "high"] (sp_between K T.C_BadLabel T.C_NoRoom) := by
  refine T.F_between.okX sc_between (fun vs H Q E h => ?_) (fun cdv A outer s H vs Q E hr h => ?_)
  · obtain ⟨x, y, dx, dy, rfl, _⟩ := h
    rfl
  · obtain ⟨x, y, dx, dy, rfl, hx, hy, kB1, kB2, kN, kY⟩ := h
    refine ⟨_, (C8.pss_cut (ps_set (i := 0) sc_between.nd rfl (.inl rfl) (pe_ifExp (pt_cmpR op_isN (pv 0) pe_non (nomark _)) pe_non (pe_call (ok_judged_label T) (hr.mono (by decide)) (by rfl) T.g_judged_label T.F_judged_label.kp T.b_judged_label .nil (passes_call (takes_of rfl rfl rfl rfl) (fun _ _ _ _ h => h)) (pa_cons (pv 0) pa_nil))))
      (C8.pss_cut (ps_set (i := 1) sc_between.nd rfl (.inl rfl) (pe_ifExp (pt_cmpR op_isN (pv 1) pe_non (nomark _)) pe_non (pe_call (ok_judged_label T) (hr.mono (by decide)) (by rfl) T.g_judged_label T.F_judged_label.kp T.b_judged_label .nil (passes_call (takes_of rfl rfl rfl rfl) (fun _ _ _ _ h => h)) (pa_cons (pv 1) pa_nil))))
      (pss_cons (ps_for (passes_of rfl) rfl (pi_range2 (by rfl) T.m_range (pa_cons pe_int (pa_cons (pe_op op_add (pe_glob (v := .int 3) (by rfl) T.c_MOST_PARTS ⟨_, rfl⟩) pe_int) pa_nil))) (pg_name (i := 2) sc_between.nd rfl (.inl rfl))
      (pss_cons (ps_set (i := 3) sc_between.nd rfl (.inl rfl) (pe_call (ok_least_above T) (hr.mono (by decide)) (by rfl) T.g_least_above T.F_least_above.kp T.b_least_above .nil pass0 (pa_cons (pv 0) (pa_cons (pv 2) pa_nil))))
        (pss_one (ps_if (PW.pt (pw_and (pt_cmpR op_notN (pv 3) pe_non (nomark _)) (pw_and1 (PW.pt (pw_or (pt_cmpR op_isN (pv 1) pe_non (nomark _)) (pw_or1 (pt_cmpR (op_ltT hr.units0) (pv 3) (pv 1) (nomark _))))))))
        (pss_one (ps_ret (pv 3)))
        pss_nil))))
      (pss_one (ps_raise rfl (takes_of rfl rfl rfl rfl) (pmk_own0 PySem.F.excBase_ValueError T.x_NoRoom T.cg_NoRoom T.k_NoRoom (raises_own T.hs_NoRoom T.t_NoRoom) (by rfl))))))), ?_⟩
    have non : ∀ {v : V} {d : PyData} {H0 : Hp}, Dp K H0 v d → (v = .non ↔ d = .none) := fun hd => by
      cases hd <;> simp
    -- low
    refine ⟨fun σ' H' => ∃ x', σ' = [some x', some y, none, none] ∧ Same H H' ∧ ¬ Bad dx ∧ Dp K H' x' (oD dL (keptD dx)), ?_, ?_⟩
    · refine ⟨_, rfl, rfl, _, rfl, ite2 (fun e => ?_) (fun e => ?_)⟩
      · have e1 := (non hx).mp (of_decide_eq_true e)
        subst e1
        exact ⟨.non, rfl, Same.refl H, fun z => z.1 rfl, .non⟩
      · have e1 : dx ≠ .none := fun z => e (decide_eq_true ((non hx).mpr z))
        refine ⟨_, rfl, x, dx, rfl, hx, fun ek H' dd s1 hd => kB1 ⟨e1, ek⟩ H' dd s1 hd, fun L ek v H' s1 hv => ?_⟩
        exact ⟨v, rfl, s1, fun z => (by have z2 := z.2; rw [ek] at z2; cases z2), by rw [ek]; exact hv⟩
    rintro σ' H1 ⟨x', rfl, s1, nb, hx'⟩
    -- high
    refine ⟨fun σ' H' => ∃ y', σ' = [some x', some y', none, none] ∧ Same H1 H' ∧ ¬ Bad dy ∧ Dp K H' y' (oD dL (keptD dy)), ?_, ?_⟩
    · have hy1 := dp_same s1 hy
      refine ⟨_, rfl, rfl, _, rfl, ite2 (fun e => ?_) (fun e => ?_)⟩
      · have e1 := (non hy1).mp (of_decide_eq_true e)
        subst e1
        exact ⟨.non, rfl, Same.refl H1, fun z => z.1 rfl, .non⟩
      · have e1 : dy ≠ .none := fun z => e (decide_eq_true ((non hy1).mpr z))
        refine ⟨_, rfl, y, dy, rfl, hy1, fun ek H' dd s2 hd => kB2 nb ⟨e1, ek⟩ H' dd (s1.trans s2) hd, fun L ek v H' s2 hv => ?_⟩
        exact ⟨v, rfl, s2, fun z => (by have z2 := z.2; rw [ek] at z2; cases z2), by rw [ek]; exact hv⟩
    rintro σ' H2 ⟨y', rfl, s2, nb2, hy'⟩
    have s12 := s1.trans s2
    have hx2 := dp_same s2 hx'
    refine ⟨_, _, rfl, rfl, ?_⟩
    refine ⟨1, 4, rfl, ⟨by decide, by decide, by decide, by decide⟩, for_range (lo := 1) (n := 3) (fun i σ' H' => ∃ (n3 n4 : Option V), σ' = [some x', some y', n3, n4] ∧ Same H2 H' ∧ pickN (keptD dx) (keptD dy) ([1, 2, 3].drop i) = btw (keptD dx) (keptD dy)) ⟨none, none, rfl, Same.refl H2, rfl⟩ ?_ ?_⟩
    · rintro i σ' H3 hi ⟨n3, n4, rfl, s3, ep⟩
      have hx3 := dp_same s3 hx2
      have hy3 := dp_same s3 hy'
      have h99 : ∀ L, keptD dx = some L → ok99 L ∧ L.length ≤ 3 ∧ L ≠ [] := fun L h => kept_ok h
      have ei : [1, 2, 3].drop i = (i + 1) :: [1, 2, 3].drop (i + 1) := by
        have : i = 0 ∨ i = 1 ∨ i = 2 := by omega
        rcases this with rfl | rfl | rfl <;> rfl
      rw [ei] at ep
      have e1 : (1 : Int) + (i : Int) = ((i + 1 : Nat) : Int) := by omega
      refine ⟨_, rfl, _, rfl, x', keptD dx, i + 1, (by show [x', V.int (1 + (i : Int))] = _; rw [e1]), hx3, h99, by omega, by omega, fun v H4 s4 hv => ?_⟩
      have go : ∀ {n4 : Option V}, Same H2 H4 → pickN (keptD dx) (keptD dy) ([1, 2, 3].drop (i + 1)) = btw (keptD dx) (keptD dy) → ∃ (n3 n4' : Option V), [some x', some y', some (V.int (1 + (i : Int))), n4] = [some x', some y', n3, n4'] ∧ Same H2 H4 ∧ pickN (keptD dx) (keptD dy) ([1, 2, 3].drop (i + 1)) = btw (keptD dx) (keptD dy) := fun {n4} a b => ⟨_, n4, rfl, a, b⟩
      cases el : least ((keptD dx).getD []) (i + 1) with
      | none =>
        rw [el] at hv
        cases hv
        refine ⟨_, rfl, rfl, _, rfl, ite2 (fun e => by simp at e) (fun _ => iteF ?_)⟩
        exact go (s3.trans s4) ((pickN_none el).symm.trans ep)
      | some L =>
        rw [el] at hv
        obtain ⟨p, rfl, hp⟩ := dL_inv hv
        have hy4 := dp_same s4 hy3
        have s124 := s12.trans (s3.trans s4)
        refine ⟨_, rfl, rfl, _, rfl, ite2 (fun _ => ?_) (fun e => absurd (show (!decide (V.ref p = V.non)) = true by simp) e)⟩
        cases ek : keptD dy with
        | none =>
          rw [ek] at hy4
          cases hy4
          refine ⟨_, rfl, rfl, _, rfl, ite2 (fun _ => iteT ?_) (fun e => absurd (decide_eq_true rfl) e)⟩
          exact ⟨_, rfl, kY nb nb2 L (ep.symm.trans (pickN_yes el (by rw [ek]; rfl))) _ _ s124 hv⟩
        | some M =>
          rw [ek] at hy4
          obtain ⟨r, rfl, hr4⟩ := dL_inv hy4
          refine ⟨_, rfl, rfl, _, rfl, ite2 (fun e => by simp at e) (fun _ => ?_)⟩
          refine ⟨_, rfl, _, rfl, p, r, L, M, rfl, rfl, hp, hr4, _, rfl, ?_⟩
          by_cases hlt : HT.lexLt L M = true
          · rw [hlt]
            refine iteT ?_
            exact ⟨_, rfl, kY nb nb2 L (ep.symm.trans (pickN_yes el (by rw [ek]; exact hlt))) _ _ s124 hv⟩
          · rw [Bool.not_eq_true] at hlt
            rw [hlt]
            refine iteF ?_
            have := go (n4 := some (V.ref p)) (s3.trans s4) ((pickN_no el (by rw [ek]; exact hlt)).symm.trans ep)
            rw [ek] at this
            exact this
    · rintro σ' H3 ⟨n3, n4, rfl, s3, ep⟩
      exact kN nb nb2 ep.symm _ (s12.trans s3)
theorem ok_two (T : Tab K mg) : FnOk P w K mg base CX0 5 T.f_two T.d_two ["_law_source_here"] (sp_two K) := by
  refine T.F_two.ok sc_two (fun vs H Q E h => ?_) (fun cdv A outer s H vs Q E hr h => ?_)
  · obtain ⟨a, rfl, _⟩ := h
    rfl
  · obtain ⟨a, rfl, src, q⟩ := h
    refine ⟨_, (pss_cons (ps_set (i := 1) sc_two.nd rfl (.inl rfl) (pe_call (ok_label T) (hr.mono (by decide)) (by rfl) T.g_label T.F_label.kp T.b_label .nil pass0 (pa_cons (pv 0) pa_nil)))
      (pss_cons (ps_set (i := 2) sc_two.nd rfl (.inl rfl) (pe_call (ok_behind T) (hr.mono (by decide)) (by rfl) T.g_behind T.F_behind.kp T.b_behind .nil pass0 (pa_cons (pv 0) (pa_cons (pv 1) pa_nil))))
      (pss_cons (ps_set (i := 3) sc_two.nd rfl (.inl rfl) (pe_call (ok_pick T) (hr.mono (by decide)) (by rfl) T.g_pick T.F_pick.kp T.b_pick .nil pass0 (pa_cons (pv 0) (pa_cons pe_int pa_nil))))
      (pss_cons (ps_if (pt_cmpR op_eq (pv 3) pe_int (nomark _))
      (pss_one (ps_ret (pe_lst (pa_cons pe_non (pa_cons (pv 2) pa_nil)))))
      pss_nil)
      (pss_cons (ps_if (pt_cmpR op_eq (pv 3) pe_int (nomark _))
      (pss_one (ps_ret (pe_lst (pa_cons (pv 1) (pa_cons pe_non pa_nil)))))
      pss_nil)
      (pss_cons (ps_if (pt_cmpR op_eq (pv 3) pe_int (nomark _))
      (pss_one (ps_ret (pe_lst (pa_cons pe_non (pa_cons pe_non pa_nil)))))
      pss_nil)
      (pss_cons (ps_if (pt_cmpR op_eq (pv 3) pe_int (nomark _))
      (pss_one (ps_ret (pe_lst (pa_cons (pv 2) (pa_cons (pv 1) pa_nil)))))
      pss_nil)
      (pss_one (ps_ret (pe_lst (pa_cons (pv 1) (pa_cons (pv 2) pa_nil)))))))))))), ?_⟩
    refine ⟨_, rfl, a, rfl, src, fun x L H1 s1 b1 hx okx => ?_⟩
    refine ⟨_, rfl, _, rfl, a, x, L, rfl, s1, hx, okx, fun y M H2 s2 b2 hy oky => ?_⟩
    refine ⟨_, rfl, _, _, rfl, s2, by decide, by decide, fun w H3 s3 b3 p1 p2 => ?_⟩
    have hx3 := dpN_src s2 b3 (dpN_src s1 b2 hx (nl_L L)) (nl_L L)
    have hy3 := dpN_src s2 b3 hy (nl_L M)
    have b13 := (b1.trans b2).trans b3
    have fin : ∀ (x' y' : V) (lo hi : Option (List Int)), Dp K H3 x' (oD dL lo) → Dp K H3 y' (oD dL hi) → okO lo → okO hi → ∀ p, H3 p = none → Q (.ref p) (upd H3 p (.lst [x', y'])) := fun x' y' lo hi h1 h2 k1 k2 p np =>
      q p x' y' lo hi _ (srcN s3 np _) (b13.trans (But.of (same_upd np))) (b13.none np (s3.ne np).symm) upd_same (dp_same (same_upd np) h1) (dp_same (same_upd np) h2) k1 k2
    have kL : okO (some L) := fun _ e => by cases e; exact okx
    have kM : okO (some M) := fun _ e => by cases e; exact oky
    have kN : okO none := fun _ e => by cases e
    refine ⟨_, rfl, rfl, _, rfl, ite2 (fun e => ?_) (fun e => ?_)⟩
    · exact ⟨_, rfl, (by show 2 ≤ sizeLine; decide), fun p np => fin .non y none (some M) .non hy3 kN kM p np⟩
    refine ⟨_, rfl, rfl, _, rfl, ite2 (fun e => ?_) (fun e => ?_)⟩
    · exact ⟨_, rfl, (by show 2 ≤ sizeLine; decide), fun p np => fin x .non (some L) none hx3 .non kL kN p np⟩
    refine ⟨_, rfl, rfl, _, rfl, ite2 (fun e => ?_) (fun e => ?_)⟩
    · exact ⟨(by show 2 ≤ sizeLine; decide), fun p np => fin .non .non none none .non .non kN kN p np⟩
    refine ⟨_, rfl, rfl, _, rfl, ite2 (fun e => ?_) (fun e => ?_)⟩
    · exact ⟨_, rfl, _, rfl, (by show 2 ≤ sizeLine; decide), fun p np => fin y x (some M) (some L) hy3 hx3 kM kL p np⟩
    exact ⟨_, rfl, _, rfl, (by show 2 ≤ sizeLine; decide), fun p np => fin x y (some L) (some M) hx3 hy3 kL kM p np⟩
theorem ok_asked (T : Tab K mg) : FnOk P w K mg base CX0 6 T.f_asked T.d_asked ["_law_low", "_law_high", "_law_due_here"] (sp_asked K) := by
  refine T.F_asked.ok sc_asked (fun vs H Q E h => ?_) (fun cdv A outer s H vs Q E hr h => ?_)
  · obtain ⟨x, y, z, b, c, lo, hi, rfl, _⟩ := h
    rfl
  · obtain ⟨x, y, z, b, c, lo, hi, rfl, hx, hy, ko, kh, hz, q⟩ := h
    refine ⟨_, (pss_cons (ps_try_as (i := 4) (c := .ref T.C_NoRoom) (Wout := fun _ _ _ _ => False) rfl rfl sc_asked.nd rfl rfl ⟨by rfl, by decide, Or.inl T.cg_NoRoom⟩ takes0
      (fun W pn xe tk _ => (pss_one (ps_set (i := 3) sc_asked.nd rfl (.inl rfl) (pe_callS (ok_between T) (hr.mono (by decide)) (by rfl) T.g_between T.F_between.kp T.b_between (fun σ => passAt tk σ) (pa_cons (pv 0) (pa_cons (pv 1) pa_nil))))))
      (fun a oe cls d pn hz hf => (pss_cons (ps_set (i := 5) sc_asked.nd rfl (.inl rfl) (pe_and (pe_callB (call_isX hz hf) (by rfl) T.m_isinstance (by decide +kernel) (pa_cons (pv 4) (pa_cons (pe_glob (v := .ref T.C_AfterError) (by rfl) T.cg_AfterError rfl) pa_nil))) (pe_one (pe_callB (call_isX hz hf) (by rfl) T.m_isinstance (by decide +kernel) (pa_cons (pv 4) (pa_cons (pe_bltn (v := .ty "ValueError") (u := .type "ValueError") (by rfl) T.m_ValueError (by decide +kernel) rfl) pa_nil))))))
        (pss_one (ps_ret (pe_and (pe_cmpR op_isN (pv 2) pe_non (nomark _)) (pe_and (pv 5) (pe_and (pe_not (pe_callB (call_isX hz hf) (by rfl) T.m_isinstance (by decide +kernel) (pa_cons (pv 4) (pa_cons (pe_glob (v := .ref T.C_BadForm) (by rfl) T.cg_BadForm rfl) pa_nil)))) (pe_one (pe_not (pe_callB (call_isX hz hf) (by rfl) T.m_isinstance (by decide +kernel) (pa_cons (pv 4) (pa_cons (pe_glob (v := .ref T.C_NotThere) (by rfl) T.cg_NotThere rfl) pa_nil)))))))))))))
      (pss_one (ps_ret (pe_and (pe_cmpR op_notN (pv 2) pe_non (nomark _)) (pe_one (pe_call (ok_is_label T) (hr.mono (by decide)) (by rfl) T.g_is_label T.F_is_label.kp T.b_is_label .nil pass0 (pa_cons (pv 3) (pa_cons (pv 2) pa_nil)))))))), ?_⟩
    obtain ⟨nx, kx⟩ := dE_end (b := b) ko
    obtain ⟨ny, ky⟩ := dE_end (b := c) kh
    have XC : ExcC K T.C_NoRoom := excC_of T.hg_NoRoom T.hk_NoRoom T.hs_NoRoom T.hd_NoRoom T.ha_NoRoom T.hn_NoRoom T.ht_NoRoom T.hm_NoRoom
    refine ⟨_, rfl, _, rfl, x, y, _, _, rfl, hx, hy, fun bad => absurd bad nx, fun _ bad => absurd bad ny, fun _ _ eb H' s1 => ?_, fun _ _ L eb v H' s1 hv => ?_⟩
    · rw [kx, ky] at eb
      rw [eb] at hz
      cases hz
      refine ⟨true, T.e_NoRoom_NoRoom, fun _ a ha => ?_, fun z => nomatch z⟩
      refine ⟨_, rfl, T.C_NoRoom, _, _, true, rfl, rfl, XC, relRef, .inl rfl, T.q_NoRoom_AfterError, true, rfl, iteT ?_⟩
      refine ⟨_, rfl, T.C_NoRoom, _, _, true, rfl, rfl, XC, relTy, .inl rfl, T.q_NoRoom_ValueError, ?_⟩
      refine ⟨_, rfl, rfl, true, rfl, iteT ?_⟩
      refine ⟨_, rfl, true, rfl, iteT ?_⟩
      refine ⟨_, rfl, T.C_NoRoom, _, _, false, rfl, rfl, XC, relRef, .inl rfl, T.q_NoRoom_BadForm, _, rfl, true, rfl, iteT ?_⟩
      refine ⟨_, rfl, T.C_NoRoom, _, _, false, rfl, rfl, XC, relRef, .inl rfl, T.q_NoRoom_NotThere, _, rfl, ?_⟩
      exact q _ s1
    · rw [kx, ky] at eb
      rw [eb] at hz
      obtain ⟨r, rfl, hr⟩ := dL_inv hz
      have hz1 := dp_same s1 hz
      refine ⟨_, rfl, rfl, true, ?_, iteT ?_⟩
      · simp
      exact ⟨_, rfl, _, rfl, v, _, L, rfl, hv, hz1, q _ s1⟩
theorem ok_refused (T : Tab K mg) : GnOk P w K mg base CX0 6 T.f_refused T.d_refused ["_law_low", "_law_high", "_law_thing"] (sp_refused K) := by
  refine gn_ok T.F_refused sc_refused (fun vs H Q E h => ?_) (fun cdv A outer s H vs Q E hr hg h => ?_)
  · obtain ⟨x, y, z, dx, dy, dz, rfl, _⟩ := h
    rfl
  · obtain ⟨x, y, z, dx, dy, dz, rfl, hx, hy, hz, sh, which, q⟩ := h
    refine ⟨_, (pss_cons (ps_try_as (i := 3) (c := .ref T.C_BadLabel) (Wout := fun _ _ _ _ => False) rfl rfl sc_refused.nd rfl rfl ⟨by rfl, by decide, Or.inl T.cg_BadLabel⟩ takes0
      (fun W pn xe tk _ => (pss_one (ps_expr (pe_callS (ok_between T) (hr.mono (by decide)) (by rfl) T.g_between T.F_between.kp T.b_between (fun σ => passAt tk σ) (pa_cons (pv 0) (pa_cons (pv 1) pa_nil))))))
      (fun a oe cls d pn hz hf => (pss_cons (ps_set (i := 4) sc_refused.nd rfl (.inl rfl) (pe_and (pe_callB (call_isX hz hf) (by rfl) T.m_isinstance (by decide +kernel) (pa_cons (pv 3) (pa_cons (pe_glob (v := .ref T.C_BadForm) (by rfl) T.cg_BadForm rfl) pa_nil))) (pe_and (pe_callB (call_isX hz hf) (by rfl) T.m_isinstance (by decide +kernel) (pa_cons (pv 3) (pa_cons (pe_glob (v := .ref T.C_AfterError) (by rfl) T.cg_AfterError rfl) pa_nil))) (pe_one (pe_not (pe_callB (call_isX hz hf) (by rfl) T.m_isinstance (by decide +kernel) (pa_cons (pv 3) (pa_cons (pe_glob (v := .ref T.C_NotThere) (by rfl) T.cg_NotThere rfl) pa_nil))))))))
        (pss_one (ps_ret (pe_and (pv 4) (pe_one (pe_cmpR op_eq (pe_callB (call_reprS (by exact hg) (by exact un20 hr)) (by rfl) T.m_repr (by decide +kernel) (pa_cons (pe_xf ⟨T.hg_BadLabel, T.hk_BadLabel, T.hs_BadLabel, T.hd_BadLabel⟩ T.n_BadLabel_label hz hf (pv 3)) pa_nil)) (pe_callB (call_reprS (by exact hg) (by exact un20 hr)) (by rfl) T.m_repr (by decide +kernel) (pa_cons (pv 2) pa_nil)) (nomark _)))))))))
      (pss_one (ps_ret pe_bl))), ?_⟩
    have XC : ExcC K T.C_BadLabel := excC_of T.hg_BadLabel T.hk_BadLabel T.hs_BadLabel T.hd_BadLabel T.ha_BadLabel T.hn_BadLabel T.ht_BadLabel T.hm_BadLabel
    obtain ⟨sh1, sh2, sh3, sh4⟩ := sh
    refine ⟨_, rfl, _, rfl, between_bad hx hy which fun H' dd s1 hd => ?_⟩
    have hz1 := dp_same s1 hz
    refine ⟨true, T.e_BadLabel_BadLabel, fun _ a ha => ?_, fun w => nomatch w⟩
    refine ⟨_, rfl, T.C_BadLabel, _, _, true, rfl, rfl, XC, relRef, .inr ⟨dd, _, rfl, hd⟩, T.q_BadLabel_BadForm, true, rfl, iteT ?_⟩
    refine ⟨_, rfl, T.C_BadLabel, _, _, true, rfl, rfl, XC, relRef, .inr ⟨dd, _, rfl, hd⟩, T.q_BadLabel_AfterError, true, rfl, iteT ?_⟩
    refine ⟨_, rfl, T.C_BadLabel, _, _, false, rfl, rfl, XC, relRef, .inr ⟨dd, _, rfl, hd⟩, T.q_BadLabel_NotThere, _, rfl, ?_⟩
    refine ⟨_, rfl, true, rfl, iteT ?_⟩
    refine ⟨_, rfl, rfl, rfl, dd, _, z, rfl, hd, rfl, ?_⟩
    refine ⟨_, dz, rfl, hz1, sh1, sh2, sh3, sh4, ?_⟩
    refine ⟨_, rfl, _, dz, rfl, hz1, sh1, sh2, sh3, sh4, ?_⟩
    refine ⟨rfl, ?_⟩
    rw [decide_eq_true rfl]
    exact q _ s1
theorem ok_refused_as_base (T : Tab K mg) : FnOk P w K mg base CX0 6 T.f_refused_as_base T.d_refused_as_base ["_law_low", "_law_high"] (sp_refused_as_base K) := by
  refine T.F_refused_as_base.ok sc_refused_as_base (fun vs H Q E h => ?_) (fun cdv A outer s H vs Q E hr h => ?_)
  · obtain ⟨x, y, dx, dy, rfl, _⟩ := h
    rfl
  · obtain ⟨x, y, dx, dy, rfl, hx, hy, nx, by', q⟩ := h
    refine ⟨_, (pss_cons (ps_try_as (i := 2) (c := .ref T.C_AfterError) (Wout := fun _ _ _ _ => False) rfl rfl sc_refused_as_base.nd rfl rfl ⟨by rfl, by decide, Or.inl T.cg_AfterError⟩ takes0
      (fun W pn xe tk _ => (pss_one (ps_expr (pe_callS (ok_between T) (hr.mono (by decide)) (by rfl) T.g_between T.F_between.kp T.b_between (fun σ => passAt tk σ) (pa_cons (pv 0) (pa_cons (pv 1) pa_nil))))))
      (fun a oe cls d pn hz hf => (pss_one (ps_ret (pe_and (pe_callB (call_isX hz hf) (by rfl) T.m_isinstance (by decide +kernel) (pa_cons (pv 2) (pa_cons (pe_glob (v := .ref T.C_BadLabel) (by rfl) T.cg_BadLabel rfl) pa_nil))) (pe_and (pe_callB (call_isX hz hf) (by rfl) T.m_isinstance (by decide +kernel) (pa_cons (pv 2) (pa_cons (pe_bltn (v := .ty "ValueError") (u := .type "ValueError") (by rfl) T.m_ValueError (by decide +kernel) rfl) pa_nil))) (pe_one (pe_not (pe_callB (call_isX hz hf) (by rfl) T.m_isinstance (by decide +kernel) (pa_cons (pv 2) (pa_cons (pe_glob (v := .ref T.C_NoRoom) (by rfl) T.cg_NoRoom rfl) pa_nil)))))))))))
      (pss_one (ps_ret pe_bl))), ?_⟩
    have XC : ExcC K T.C_BadLabel := excC_of T.hg_BadLabel T.hk_BadLabel T.hs_BadLabel T.hd_BadLabel T.ha_BadLabel T.hn_BadLabel T.ht_BadLabel T.hm_BadLabel
    refine ⟨_, rfl, _, rfl, between_bad hx hy (.inr ⟨nx, by', rfl⟩) fun H' dd s1 hd => ?_⟩
    refine ⟨true, T.e_BadLabel_AfterError, fun _ a ha => ?_, fun w => nomatch w⟩
    refine ⟨_, rfl, T.C_BadLabel, _, _, true, rfl, rfl, XC, relRef, .inr ⟨dd, _, rfl, hd⟩, T.q_BadLabel_BadLabel, true, rfl, iteT ?_⟩
    refine ⟨_, rfl, T.C_BadLabel, _, _, true, rfl, rfl, XC, relTy, .inr ⟨dd, _, rfl, hd⟩, T.q_BadLabel_ValueError, true, rfl, iteT ?_⟩
    refine ⟨_, rfl, T.C_BadLabel, _, _, false, rfl, rfl, XC, relRef, .inr ⟨dd, _, rfl, hd⟩, T.q_BadLabel_NoRoom, _, rfl, ?_⟩
    exact q _ s1
theorem ok_lists_asked (T : Tab K mg) : FnOk P w K mg base CX0 7 T.f_lists_asked T.d_lists_asked ["_law_low", "_law_high", "_law_due_here"] (sp_lists_asked K) := by
  refine T.F_lists_asked.ok sc_lists_asked (fun vs H Q E h => ?_) (fun cdv A outer s H vs Q E hr h => ?_)
  · obtain ⟨x, y, z, lo, hi, rfl, _⟩ := h
    rfl
  · obtain ⟨x, y, z, lo, hi, rfl, hx, hy, ko, kh, hz, q⟩ := h
    refine ⟨_, (pss_cons (ps_set (i := 3) sc_lists_asked.nd rfl (.inl rfl) (pe_call (ok_listed T) (hr.mono (by decide)) (by rfl) T.g_listed T.F_listed.kp T.b_listed .nil pass0 (pa_cons (pv 0) pa_nil)))
      (pss_cons (ps_set (i := 4) sc_lists_asked.nd rfl (.inl rfl) (pe_call (ok_listed T) (hr.mono (by decide)) (by rfl) T.g_listed T.F_listed.kp T.b_listed .nil pass0 (pa_cons (pv 1) pa_nil)))
      (pss_cons (ps_if (PW.pt (pw_or (pt_not (pt_val (pe_call (ok_asked T) (hr.mono (by decide)) (by rfl) T.g_asked T.F_asked.kp T.b_asked .nil pass0 (pa_cons (pv 3) (pa_cons (pv 1) (pa_cons (pv 2) pa_nil)))))) (pw_or (pt_not (pt_val (pe_call (ok_asked T) (hr.mono (by decide)) (by rfl) T.g_asked T.F_asked.kp T.b_asked .nil pass0 (pa_cons (pv 0) (pa_cons (pv 4) (pa_cons (pv 2) pa_nil)))))) (pw_or1 (pt_not (pt_val (pe_call (ok_asked T) (hr.mono (by decide)) (by rfl) T.g_asked T.F_asked.kp T.b_asked .nil pass0 (pa_cons (pv 3) (pa_cons (pv 4) (pa_cons (pv 2) pa_nil))))))))))
      (pss_one (ps_ret pe_bl))
      pss_nil)
      (pss_one (ps_ret (pe_and (pe_cmpR (op_eqD hr.units) (pv 3) (pe_call (ok_listed T) (hr.mono (by decide)) (by rfl) T.g_listed T.F_listed.kp T.b_listed .nil pass0 (pa_cons (pv 0) pa_nil)) (nomark _)) (pe_one (pe_cmpR (op_eqD hr.units) (pv 4) (pe_call (ok_listed T) (hr.mono (by decide)) (by rfl) T.g_listed T.F_listed.kp T.b_listed .nil pass0 (pa_cons (pv 1) pa_nil)) (nomark _))))))))), ?_⟩
    refine ⟨_, rfl, x, lo, rfl, hx, fun v H1 s1 hv => ?_⟩
    refine ⟨_, rfl, y, hi, rfl, dp_same s1 hy, fun w H2 s2 hw => ?_⟩
    have s12 := s1.trans s2
    refine ⟨_, rfl, _, rfl, _, rfl, v, y, z, true, false, lo, hi, rfl, dp_same s2 hv, (by rw [dE_false]; exact dp_same s12 hy), ko, kh, dp_same s12 hz, fun H3 s3 => ⟨true, rfl, iteF ?_⟩⟩
    have s13 := s12.trans s3
    refine ⟨_, rfl, _, rfl, _, rfl, x, w, z, false, true, lo, hi, rfl, (by rw [dE_false]; exact dp_same s13 hx), dp_same s3 hw, ko, kh, dp_same s13 hz, fun H4 s4 => ⟨true, rfl, iteF ?_⟩⟩
    have s14 := s13.trans s4
    have hv4 := dp_same ((s2.trans s3).trans s4) hv
    have hw4 := dp_same (s3.trans s4) hw
    refine ⟨_, rfl, _, rfl, _, rfl, v, w, z, true, true, lo, hi, rfl, hv4, hw4, ko, kh, dp_same s14 hz, fun H5 s5 => ⟨true, rfl, iteF ?_⟩⟩
    have s15 := s14.trans s5
    have eqd : ∀ o : Option (List Int), SeqAt.shaped (dE true o) = true ∧ PyData.eqv (dE true o) (dE true o) = true := fun o => by
      cases o with
      | none => exact ⟨rfl, rfl⟩
      | some L =>
        refine ⟨shaped_il L, ?_⟩
        show PyData.eqvAll (L.map PyData.int) (L.map PyData.int) = true
        rw [eqv_ints]
        exact decide_eq_true rfl
    refine ⟨_, rfl, _, rfl, x, lo, rfl, dp_same s15 hx, fun v2 H6 s6 hv2 => ⟨_, _, dp_same (s5.trans s6) hv4, hv2, (eqd lo).1, (eqd lo).1, true, by rw [(eqd lo).2], iteT ?_⟩⟩
    have s16 := s15.trans s6
    refine ⟨_, rfl, _, rfl, y, hi, rfl, dp_same s16 hy, fun w2 H7 s7 hw2 => ⟨_, _, dp_same ((s5.trans s6).trans s7) hw4, hw2, (eqd hi).1, (eqd hi).1, ?_⟩⟩
    rw [(eqd hi).2]
    exact q _ (s16.trans s7)
theorem ok_law (T : Tab K mg) : GnOk P w K mg base CX0 8 T.f_law T.d_law ["_law_script"] (sp_law K) := by
  refine gn_ok T.F_law sc_law (fun vs H Q E h => ?_) (fun cdv A outer s H vs Q E hr hg h => ?_)
  · obtain ⟨a, ns, rfl, _⟩ := h
    rfl
  · obtain ⟨a, ns, rfl, hS, hlen, q⟩ := h
    refine ⟨_, (pss_cons (ps_set (i := 1) sc_law.nd rfl (.inl rfl) (pe_lst pa_nil))
      (pss_cons (ps_for PassesOwn.never rfl (pi_range1 (by rfl) T.m_range (pa_cons (pe_callB (call_max2 rfl) (by rfl) T.m_max (by decide +kernel) (pa_cons pe_int (pa_cons (pe_callB (call_min2 rfl) (by rfl) T.m_min (by decide +kernel) (pa_cons pe_int (pa_cons (pe_callB call_len_seq (by rfl) T.m_len PySem.boot_len (pa_cons (pv 0) pa_nil)) pa_nil))) pa_nil))) pa_nil)) (pg_name (i := 2) sc_law.nd rfl (.inl rfl))
      (pss_cons (ps_set (i := 3) sc_law.nd rfl (.inl rfl) (pe_call (ok_source T) (hr.mono (by decide)) (by rfl) T.g_source T.F_source.kp T.b_source .nil pass0 (pa_cons (pv 0) (pa_cons (pv 2) pa_nil))))
        (pss_cons (ps_asg (pe_call (ok_two T) (hr.mono (by decide)) (by rfl) T.g_two T.F_two.kp T.b_two .nil pass0 (pa_cons (pv 3) pa_nil)) (pg_or (pg_tup (by rfl) (pgs_cons (pg_name (i := 4) sc_law.nd rfl (.inl rfl)) (pgs_cons (pg_name (i := 5) sc_law.nd rfl (.inl rfl)) pgs_nil))) (pg_unl (by rfl) (pgs_cons (pg_name (i := 4) sc_law.nd rfl (.inl rfl)) (pgs_cons (pg_name (i := 5) sc_law.nd rfl (.inl rfl)) pgs_nil)))))
        (pss_cons (ps_set (i := 6) sc_law.nd rfl (.inl rfl) (pe_call (ok_due T) (hr.mono (by decide)) (by rfl) T.g_due T.F_due.kp T.b_due .nil pass0 (pa_cons (pv 4) (pa_cons (pv 5) pa_nil))))
        (pss_cons (ps_if (PW.pt (pw_or (pt_not (pt_val (pe_call (ok_asked T) (hr.mono (by decide)) (by rfl) T.g_asked T.F_asked.kp T.b_asked .nil pass0 (pa_cons (pv 4) (pa_cons (pv 5) (pa_cons (pv 6) pa_nil)))))) (pw_or1 (pt_not (pt_val (pe_call (ok_lists_asked T) (hr.mono (by decide)) (by rfl) T.g_lists_asked T.F_lists_asked.kp T.b_lists_asked .nil pass0 (pa_cons (pv 4) (pa_cons (pv 5) (pa_cons (pv 6) pa_nil)))))))))
        (pss_one (ps_ret pe_bl))
        pss_nil)
        (pss_cons (ps_set (i := 7) sc_law.nd rfl (.inl rfl) (pe_call (ok_label T) (hr.mono (by decide)) (by rfl) T.g_label T.F_label.kp T.b_label .nil pass0 (pa_cons (pv 3) pa_nil)))
        (pss_cons (ps_set (i := 8) sc_law.nd rfl (.inl rfl) (pe_call (ok_odd T) (hr.mono (by decide)) (by rfl) T.g_odd T.F_odd.kp T.b_odd .nil pass0 (pa_cons (pv 3) (pa_cons (pv 7) pa_nil))))
        (pss_cons (ps_set (i := 9) sc_law.nd rfl (.inl rfl) (pe_call (ok_odd T) (hr.mono (by decide)) (by rfl) T.g_odd T.F_odd.kp T.b_odd .nil pass0 (pa_cons (pv 3) (pa_cons (pv 7) pa_nil))))
        (pss_cons (ps_if (PW.pt (pw_or (pt_not (pt_val (pe_callG (ok_refused T) (hr.mono (by decide)) hg (by rfl) T.g_refused T.F_refused.kp T.b_refused pass0 (pa_cons (pv 8) (pa_cons (pv 5) (pa_cons (pv 8) pa_nil)))))) (pw_or1 (pt_not (pt_val (pe_callG (ok_refused T) (hr.mono (by decide)) hg (by rfl) T.g_refused T.F_refused.kp T.b_refused pass0 (pa_cons (pv 4) (pa_cons (pv 8) (pa_cons (pv 8) pa_nil)))))))))
        (pss_one (ps_ret pe_bl))
        pss_nil)
        (pss_cons (ps_if (PW.pt (pw_or (pt_not (pt_val (pe_callG (ok_refused T) (hr.mono (by decide)) hg (by rfl) T.g_refused T.F_refused.kp T.b_refused pass0 (pa_cons (pv 8) (pa_cons (pv 9) (pa_cons (pv 8) pa_nil)))))) (pw_or1 (pt_not (pt_val (pe_call (ok_refused_as_base T) (hr.mono (by decide)) (by rfl) T.g_refused_as_base T.F_refused_as_base.kp T.b_refused_as_base .nil pass0 (pa_cons (pv 4) (pa_cons (pv 8) pa_nil))))))))
        (pss_one (ps_ret pe_bl))
        pss_nil)
        (pss_cons (ps_if (pt_not (pt_val (pe_call (ok_asked T) (hr.mono (by decide)) (by rfl) T.g_asked T.F_asked.kp T.b_asked .nil pass0 (pa_cons (pv 7) (pa_cons pe_non (pa_cons (pe_call (ok_due T) (hr.mono (by decide)) (by rfl) T.g_due T.F_due.kp T.b_due .nil pass0 (pa_cons (pv 7) (pa_cons pe_non pa_nil))) pa_nil))))))
        (pss_one (ps_ret pe_bl))
        pss_nil)
        (pss_one (ps_expr (pe_bm PySem.F.plainAttrs_list PySem.F.slot_list_append PySem.F.type_list_append mt_append (pv 1) (pa_cons (pe_lst (pa_cons (pv 4) (pa_cons (pv 5) (pa_cons (pv 6) pa_nil)))) pa_nil)))))))))))))))
      (pss_cons (ps_for PassesOwn.never rfl (pi_list (pv 1)) (pg_name (i := 10) sc_law.nd rfl (.inl rfl))
      (pss_one (ps_if (pt_not (pt_val (pe_call (ok_asked T) (hr.mono (by decide)) (by rfl) T.g_asked T.F_asked.kp T.b_asked .nil pass0 (pa_cons (pe_ix ix_list (pv 10) pe_int (fun _ _ => rfl)) (pa_cons (pe_ix ix_list (pv 10) pe_int (fun _ _ => rfl)) (pa_cons (pe_ix ix_list (pv 10) pe_int (fun _ _ => rfl)) pa_nil))))))
        (pss_one (ps_ret pe_bl))
        pss_nil)))
      (pss_one (ps_ret pe_bl))))), ?_⟩
    refine ⟨Nat.zero_le _, fun D nD => ?_⟩
    have s0 : Same H (upd H D (.lst [])) := same_upd nD
    have hn : ((ns.map V.int).length : Int) ≤ 63 := by rw [List.length_map]; omega
    have kN : okO none := fun _ e => by cases e
    refine ⟨_, rfl, _, _, rfl, .inl (s0.seq hS), _, _, rfl, _, _, rfl, _, rfl, ?_, ?_, for_range (lo := 0) (fun j σ' H' => ∃ (rs : List Addr) (y2 y3 y4 y5 y6 y7 y8 y9 : Option V), σ' = [some (.ref a), some (.ref D), y2, y3, y4, y5, y6, y7, y8, y9, none] ∧ Same H H' ∧ H' D = some (.lst (rs.map V.ref)) ∧ rs.length = j ∧ ∀ r ∈ rs, r ≠ D ∧ Elem K H' r) ⟨[], none, none, none, none, none, none, none, none, rfl, s0, upd_same, rfl, (fun _ h => nomatch h)⟩ ?_ ?_⟩
    · split <;> split <;> omega
    · split <;> split <;> omega
    · rintro j σ' Hx hj ⟨rs, y2, y3, y4, y5, y6, y7, y8, y9, rfl, smh, eD, lw, good⟩
      have hj2 : j < 64 := by
        split at hj <;> split at hj <;> omega
      refine ⟨_, rfl, _, rfl, a, ns, j, ?_, smh.seq hS, fun p0 H1 sm1 n0 src1 => ?_⟩
      · show [V.ref a, V.int (0 + (j : Int))] = [V.ref a, V.int (j : Int)]
        rw [Int.zero_add]
      have nDp : D ≠ p0 := ne_of_none eD n0
      refine ⟨_, rfl, p0, rfl, src1, fun p x y lo hi H2 s2 b2 np ep hx hy ko kh => ?_⟩
      refine .inr ⟨p, _, rfl, .inl (.inl ep), rfl, _, _, rfl, _, _, rfl, rfl, ?_⟩
      refine ⟨_, rfl, _, rfl, x, y, lo, hi, rfl, hx, hy, ko, kh, fun z H3 s3 hz => ?_⟩
      have hx3 := dp_same s3 hx
      have hy3 := dp_same s3 hy
      refine ⟨_, rfl, _, rfl, _, rfl, x, y, z, false, false, lo, hi, rfl, (by rw [dE_false]; exact hx3), (by rw [dE_false]; exact hy3), ko, kh, hz, fun H4 s4 => ⟨true, rfl, iteF ?_⟩⟩
      refine ⟨_, rfl, _, rfl, _, rfl, x, y, z, lo, hi, rfl, dp_same s4 hx3, dp_same s4 hy3, ko, kh, dp_same s4 hz, fun H5 s5 => ⟨true, rfl, iteF ?_⟩⟩
      have s25 := (s3.trans s4).trans s5
      have src : ∀ {Hy Hz : Hp}, Src Hy p0 → Same Hy Hz → Src Hz p0 := fun s m => by
        obtain ⟨g1, g2, g3, e⟩ := s
        exact ⟨g1, g2, g3, m _ _ e⟩
      have src5 := src s2 s25
      have b15 : But p0 H1 H5 := b2.trans (But.of s25)
      have hx5 := dp_same (s4.trans s5) hx3
      have hy5 := dp_same (s4.trans s5) hy3
      have hz5 := dp_same (s4.trans s5) hz
      refine ⟨_, rfl, p0, rfl, src5, fun l L H6 s6 b6 hl okl => ?_⟩
      have hx6 := dpN_src src5 b6 hx5 (nl_O lo)
      have hy6 := dpN_src src5 b6 hy5 (nl_O hi)
      have hz6 := dpN_src src5 b6 hz5 (nl_O _)
      refine ⟨_, rfl, _, rfl, p0, l, L, rfl, s6, hl, okl, fun o1 d1 H7 s7 b7 ho1 bad1 sh1 nl1 => ?_⟩
      have hx7 := dpN_src s6 b7 hx6 (nl_O lo)
      have hy7 := dpN_src s6 b7 hy6 (nl_O hi)
      have hz7 := dpN_src s6 b7 hz6 (nl_O _)
      have hl7 := dpN_src s6 b7 hl (nl_L L)
      refine ⟨_, rfl, _, rfl, p0, l, L, rfl, s7, hl7, okl, fun o2 d2 H8 s8 b8 ho2 bad2 sh2 nl2 => ?_⟩
      have hx8 := dpN_src s7 b8 hx7 (nl_O lo)
      have hy8 := dpN_src s7 b8 hy7 (nl_O hi)
      have hz8 := dpN_src s7 b8 hz7 (nl_O _)
      have hl8 := dpN_src s7 b8 hl7 (nl_L L)
      have ho18 := dpN_src s7 b8 ho1 nl1
      have b18 := ((b15.trans b6).trans b7).trans b8
      have x8 : Same Hx H8 := b18.same n0 sm1
      have nlo : ¬ Bad (oD dL lo) := by rw [← dE_false]; exact (dE_end (b := false) ko).1
      refine ⟨_, rfl, _, rfl, _, rfl, o1, y, o1, d1, _, d1, rfl, ho18, hy8, ho18, sh1, .inl ⟨bad1, rfl⟩, fun H9 s9 => ⟨true, rfl, iteF ?_⟩⟩
      refine ⟨_, rfl, _, rfl, _, rfl, x, o1, o1, _, d1, d1, rfl, dp_same s9 hx8, dp_same s9 ho18, dp_same s9 ho18, sh1, .inr ⟨nlo, bad1, rfl⟩, fun H10 s10 => ⟨true, rfl, iteF ?_⟩⟩
      have s810 := s9.trans s10
      refine ⟨_, rfl, _, rfl, _, rfl, o1, o2, o1, d1, d2, d1, rfl, dp_same s810 ho18, dp_same s810 ho2, dp_same s810 ho18, sh1, .inl ⟨bad1, rfl⟩, fun H11 s11 => ⟨true, rfl, iteF ?_⟩⟩
      have s811 := s810.trans s11
      refine ⟨_, rfl, _, rfl, x, o1, _, d1, rfl, dp_same s811 hx8, dp_same s811 ho18, nlo, bad1, fun H12 s12 => ⟨true, rfl, iteF ?_⟩⟩
      have s812 := s811.trans s12
      have hl12 := dp_same s812 hl8
      have kL : okO (some L) := fun _ e => by cases e; exact okl
      refine ⟨_, rfl, _, rfl, l, .non, some L, none, rfl, hl12, .non, kL, kN, fun u H13 s13 hu => ?_⟩
      refine ⟨l, .non, u, false, false, some L, none, rfl, dp_same s13 hl12, .non, kL, kN, hu, fun H14 s14 => ⟨true, rfl, iteF ?_⟩⟩
      have s814 := (s812.trans s13).trans s14
      have x14 := x8.trans s814
      have eD14 := x14 _ _ eD
      refine ⟨_, rfl, .inl ⟨rfl, _, .inl (.inl eD14)⟩, _, rfl, _, rfl, _, rfl, (by show 3 ≤ sizeLine; decide), fun e ne => ?_⟩
      have se := same_upd (o := .lst [x, y, z]) ne
      have eD15 := se _ _ eD14
      have x15 := x14.trans se
      have nDH : H D = none := nD
      refine ⟨D, _, _, rfl, rfl, eD15, ?_, rs ++ [e], _, _, _, _, _, _, _, _, rfl, same_put (smh.trans x15) nDH _, ?_, ?_, fun r hr => ?_⟩
      · rw [List.length_map]; exact small1000 (by omega)
      · rw [upd_same, List.map_append]; rfl
      · rw [List.length_append, lw]; rfl
      · rcases List.mem_append.mp hr with h | h
        · exact ⟨(good r h).1, ((good r h).2.same x15).put eD15 (good r h).1⟩
        · rw [List.mem_singleton.mp h]
          have neD : e ≠ D := (ne_of_none eD14 ne).symm
          exact ⟨neD, Elem.put eD15 neD ⟨x, y, z, lo, hi, upd_same, dp_same se (dp_same s814 hx8), dp_same se (dp_same s814 hy8), ko, kh, dp_same se (dp_same s814 hz8)⟩⟩
    · rintro σ' Hx ⟨rs, y2, y3, y4, y5, y6, y7, y8, y9, rfl, smh, eD, lw, good⟩
      refine ⟨_, rfl, D, rfl, ⟨_, .inl (.inl eD)⟩, for_list (xs := rs.map V.ref) (fun i σ' H' => ∃ y10 : Option V, σ' = [some (.ref a), some (.ref D), y2, y3, y4, y5, y6, y7, y8, y9, y10] ∧ Same Hx H') ⟨none, rfl, Same.refl _⟩ (fun i σ' H' _ ⟨_, _, s⟩ => .inl (.inl (s _ _ eD))) ?_ ?_⟩
      · rintro i v σ' H1 hv ⟨y10, rfl, s1⟩
        obtain ⟨r, rfl, hr⟩ := get_mapR hv
        obtain ⟨x, y, z, lo, hi, e, hx, hy, ko, kh, hz⟩ := (good r hr).2.same s1
        refine ⟨_, rfl, r, _, 0, x, rfl, rfl, .inl (.inl e), rfl, _, rfl, r, _, 1, y, rfl, rfl, .inl (.inl e), rfl, _, rfl, r, _, 2, z, rfl, rfl, .inl (.inl e), rfl, ?_⟩
        refine ⟨x, y, z, false, false, lo, hi, rfl, (by rw [dE_false]; exact hx), (by rw [dE_false]; exact hy), ko, kh, hz, fun H2 s2 => ⟨true, rfl, iteF ?_⟩⟩
        exact ⟨_, rfl, s1.trans s2⟩
      · rintro σ' H1 ⟨y10, rfl, s1⟩
        exact q _
end
theorem all_mk {l : PySem.W.OpenLaw} {w : World} {K : PySem.W.Frag} {h : Heap} {mg : Str → Option Value} {fa f0 f1 f2 f3 f4 f5 f6 f7 f8 f9 f10 f11 f12 f13 f14 f15 f16 f17 f18 f19 f20 f21 f22 f23 f24 f25 C_AfterError C_BadForm C_NotThere C_BadLabel C_NoRoom : Addr} (X : K.In h) (G : h.Ns mainGlobals mg) (hfa : mg "law" = some (.ref fa))
    {od0 an0 od1 an1 od2 an2 od3 an3 od4 an4 od5 an5 od6 an6 od7 an7 od8 an8 od9 an9 od10 an10 od11 an11 od12 an12 od13 an13 od14 an14 od15 an15 od16 an16 od17 an17 od18 an18 od19 an19 od20 an20 od21 an21 od22 an22 od23 an23 od24 an24 od25 an25 : Option Addr} {sl0 sl1 sl2 sl3 sl4 sl5 sl6 sl7 sl8 sl9 sl10 sl11 sl12 sl13 sl14 sl15 sl16 sl17 sl18 sl19 sl20 sl21 sl22 sl23 sl24 sl25 : Array (Option Value)} {oc0 kV0 dc0 pm0 cd0 ct0 oc1 kV1 dc1 pm1 cd1 ct1 oc2 kV2 dc2 pm2 cd2 ct2 oc3 kV3 dc3 pm3 cd3 ct3 oc4 kV4 dc4 pm4 cd4 ct4 oc5 kV5 dc5 pm5 cd5 ct5 oc6 kV6 dc6 pm6 cd6 ct6 oc7 kV7 dc7 pm7 cd7 ct7 oc8 kV8 dc8 pm8 cd8 ct8 oc9 kV9 dc9 pm9 cd9 ct9 oc10 kV10 dc10 pm10 cd10 ct10 oc11 kV11 dc11 pm11 cd11 ct11 oc12 kV12 dc12 pm12 cd12 ct12 oc13 kV13 dc13 pm13 cd13 ct13 oc14 kV14 dc14 pm14 cd14 ct14 oc15 kV15 dc15 pm15 cd15 ct15 oc16 kV16 dc16 pm16 cd16 ct16 oc17 kV17 dc17 pm17 cd17 ct17 oc18 kV18 dc18 pm18 cd18 ct18 oc19 kV19 dc19 pm19 cd19 ct19 oc20 kV20 dc20 pm20 cd20 ct20 oc21 kV21 dc21 pm21 cd21 ct21 oc22 kV22 dc22 pm22 cd22 ct22 oc23 kV23 dc23 pm23 cd23 ct23 oc24 kV24 dc24 pm24 cd24 ct24 oc25 kV25 dc25 pm25 cd25 ct25 : Value}
    (a0 : PySem.W.findIn K (.ref C_BadLabel) "__init__" = some (some (.ref f0))) (l0 : K.lookup f0 = some ⟨oc0, od0, .func (PySem.W.fnOf "__init__" "BadLabel.__init__" (defArgs s_BadLabel_init) (defBody s_BadLabel_init) (defScope s_BadLabel_init) .none kV0 dc0 pm0 an0 cd0 ct0), sl0⟩) (c0 : PySem.W.codeIn K cd0 "BadLabel.__init__" = true) (k0 : PySem.W.keepIn K (.ref f0) = true)
    (a1 : PySem.W.nsIn K mainGlobals "is_integer" = some (some (.ref f1))) (l1 : K.lookup f1 = some ⟨oc1, od1, .func (PySem.W.fnOf "is_integer" "is_integer" (defArgs s_is_integer) (defBody s_is_integer) (defScope s_is_integer) .none kV1 dc1 pm1 an1 cd1 ct1), sl1⟩) (c1 : PySem.W.codeIn K cd1 "is_integer" = true) (k1 : PySem.W.keepIn K (.ref f1) = true)
    (a2 : PySem.W.nsIn K mainGlobals "is_within" = some (some (.ref f2))) (l2 : K.lookup f2 = some ⟨oc2, od2, .func (PySem.W.fnOf "is_within" "is_within" (defArgs s_is_within) (defBody s_is_within) (defScope s_is_within) .none kV2 dc2 pm2 an2 cd2 ct2), sl2⟩) (c2 : PySem.W.codeIn K cd2 "is_within" = true) (k2 : PySem.W.keepIn K (.ref f2) = true)
    (a3 : PySem.W.nsIn K mainGlobals "is_tuple" = some (some (.ref f3))) (l3 : K.lookup f3 = some ⟨oc3, od3, .func (PySem.W.fnOf "is_tuple" "is_tuple" (defArgs s_is_tuple) (defBody s_is_tuple) (defScope s_is_tuple) .none kV3 dc3 pm3 an3 cd3 ct3), sl3⟩) (c3 : PySem.W.codeIn K cd3 "is_tuple" = true) (k3 : PySem.W.keepIn K (.ref f3) = true)
    (a4 : PySem.W.nsIn K mainGlobals "is_sized" = some (some (.ref f4))) (l4 : K.lookup f4 = some ⟨oc4, od4, .func (PySem.W.fnOf "is_sized" "is_sized" (defArgs s_is_sized) (defBody s_is_sized) (defScope s_is_sized) .none kV4 dc4 pm4 an4 cd4 ct4), sl4⟩) (c4 : PySem.W.codeIn K cd4 "is_sized" = true) (k4 : PySem.W.keepIn K (.ref f4) = true)
    (a5 : PySem.W.nsIn K mainGlobals "kept_label" = some (some (.ref f5))) (l5 : K.lookup f5 = some ⟨oc5, od5, .func (PySem.W.fnOf "kept_label" "kept_label" (defArgs s_kept_label) (defBody s_kept_label) (defScope s_kept_label) .none kV5 dc5 pm5 an5 cd5 ct5), sl5⟩) (c5 : PySem.W.codeIn K cd5 "kept_label" = true) (k5 : PySem.W.keepIn K (.ref f5) = true)
    (a6 : PySem.W.nsIn K mainGlobals "judged_label" = some (some (.ref f6))) (l6 : K.lookup f6 = some ⟨oc6, od6, .func (PySem.W.fnOf "judged_label" "judged_label" (defArgs s_judged_label) (defBody s_judged_label) (defScope s_judged_label) .none kV6 dc6 pm6 an6 cd6 ct6), sl6⟩) (c6 : PySem.W.codeIn K cd6 "judged_label" = true) (k6 : PySem.W.keepIn K (.ref f6) = true)
    (a7 : PySem.W.nsIn K mainGlobals "between" = some (some (.ref f7))) (l7 : K.lookup f7 = some ⟨oc7, od7, .func (PySem.W.fnOf "between" "between" (defArgs s_between) (defBody s_between) (defScope s_between) .none kV7 dc7 pm7 an7 cd7 ct7), sl7⟩) (c7 : PySem.W.codeIn K cd7 "between" = true) (k7 : PySem.W.keepIn K (.ref f7) = true)
    (a8 : PySem.W.nsIn K mainGlobals "_least_above" = some (some (.ref f8))) (l8 : K.lookup f8 = some ⟨oc8, od8, .func (PySem.W.fnOf "_least_above" "_least_above" (defArgs s_least_above) (defBody s_least_above) (defScope s_least_above) .none kV8 dc8 pm8 an8 cd8 ct8), sl8⟩) (c8 : PySem.W.codeIn K cd8 "_least_above" = true) (k8 : PySem.W.keepIn K (.ref f8) = true)
    (a9 : PySem.W.nsIn K mainGlobals "_law_source" = some (some (.ref f9))) (l9 : K.lookup f9 = some ⟨oc9, od9, .func (PySem.W.fnOf "_law_source" "_law_source" (defArgs s_source) (defBody s_source) (defScope s_source) .none kV9 dc9 pm9 an9 cd9 ct9), sl9⟩) (c9 : PySem.W.codeIn K cd9 "_law_source" = true) (k9 : PySem.W.keepIn K (.ref f9) = true)
    (a10 : PySem.W.nsIn K mainGlobals "_law_pick" = some (some (.ref f10))) (l10 : K.lookup f10 = some ⟨oc10, od10, .func (PySem.W.fnOf "_law_pick" "_law_pick" (defArgs s_pick) (defBody s_pick) (defScope s_pick) .none kV10 dc10 pm10 an10 cd10 ct10), sl10⟩) (c10 : PySem.W.codeIn K cd10 "_law_pick" = true) (k10 : PySem.W.keepIn K (.ref f10) = true)
    (a11 : PySem.W.nsIn K mainGlobals "_law_is_integer" = some (some (.ref f11))) (l11 : K.lookup f11 = some ⟨oc11, od11, .func (PySem.W.fnOf "_law_is_integer" "_law_is_integer" (defArgs s_law_is_integer) (defBody s_law_is_integer) (defScope s_law_is_integer) .none kV11 dc11 pm11 an11 cd11 ct11), sl11⟩) (c11 : PySem.W.codeIn K cd11 "_law_is_integer" = true) (k11 : PySem.W.keepIn K (.ref f11) = true)
    (a12 : PySem.W.nsIn K mainGlobals "_law_figure" = some (some (.ref f12))) (l12 : K.lookup f12 = some ⟨oc12, od12, .func (PySem.W.fnOf "_law_figure" "_law_figure" (defArgs s_figure) (defBody s_figure) (defScope s_figure) .none kV12 dc12 pm12 an12 cd12 ct12), sl12⟩) (c12 : PySem.W.codeIn K cd12 "_law_figure" = true) (k12 : PySem.W.keepIn K (.ref f12) = true)
    (a13 : PySem.W.nsIn K mainGlobals "_law_label" = some (some (.ref f13))) (l13 : K.lookup f13 = some ⟨oc13, od13, .func (PySem.W.fnOf "_law_label" "_law_label" (defArgs s_label) (defBody s_label) (defScope s_label) .none kV13 dc13 pm13 an13 cd13 ct13), sl13⟩) (c13 : PySem.W.codeIn K cd13 "_law_label" = true) (k13 : PySem.W.keepIn K (.ref f13) = true)
    (a14 : PySem.W.nsIn K mainGlobals "_law_behind" = some (some (.ref f14))) (l14 : K.lookup f14 = some ⟨oc14, od14, .func (PySem.W.fnOf "_law_behind" "_law_behind" (defArgs s_behind) (defBody s_behind) (defScope s_behind) .none kV14 dc14 pm14 an14 cd14 ct14), sl14⟩) (c14 : PySem.W.codeIn K cd14 "_law_behind" = true) (k14 : PySem.W.keepIn K (.ref f14) = true)
    (a15 : PySem.W.nsIn K mainGlobals "_law_two" = some (some (.ref f15))) (l15 : K.lookup f15 = some ⟨oc15, od15, .func (PySem.W.fnOf "_law_two" "_law_two" (defArgs s_two) (defBody s_two) (defScope s_two) .none kV15 dc15 pm15 an15 cd15 ct15), sl15⟩) (c15 : PySem.W.codeIn K cd15 "_law_two" = true) (k15 : PySem.W.keepIn K (.ref f15) = true)
    (a16 : PySem.W.nsIn K mainGlobals "_law_odd" = some (some (.ref f16))) (l16 : K.lookup f16 = some ⟨oc16, od16, .func (PySem.W.fnOf "_law_odd" "_law_odd" (defArgs s_odd) (defBody s_odd) (defScope s_odd) .none kV16 dc16 pm16 an16 cd16 ct16), sl16⟩) (c16 : PySem.W.codeIn K cd16 "_law_odd" = true) (k16 : PySem.W.keepIn K (.ref f16) = true)
    (a17 : PySem.W.nsIn K mainGlobals "_law_least" = some (some (.ref f17))) (l17 : K.lookup f17 = some ⟨oc17, od17, .func (PySem.W.fnOf "_law_least" "_law_least" (defArgs s_least) (defBody s_least) (defScope s_least) .none kV17 dc17 pm17 an17 cd17 ct17), sl17⟩) (c17 : PySem.W.codeIn K cd17 "_law_least" = true) (k17 : PySem.W.keepIn K (.ref f17) = true)
    (a18 : PySem.W.nsIn K mainGlobals "_law_due" = some (some (.ref f18))) (l18 : K.lookup f18 = some ⟨oc18, od18, .func (PySem.W.fnOf "_law_due" "_law_due" (defArgs s_due) (defBody s_due) (defScope s_due) .none kV18 dc18 pm18 an18 cd18 ct18), sl18⟩) (c18 : PySem.W.codeIn K cd18 "_law_due" = true) (k18 : PySem.W.keepIn K (.ref f18) = true)
    (a19 : PySem.W.nsIn K mainGlobals "_law_is_label" = some (some (.ref f19))) (l19 : K.lookup f19 = some ⟨oc19, od19, .func (PySem.W.fnOf "_law_is_label" "_law_is_label" (defArgs s_is_label) (defBody s_is_label) (defScope s_is_label) .none kV19 dc19 pm19 an19 cd19 ct19), sl19⟩) (c19 : PySem.W.codeIn K cd19 "_law_is_label" = true) (k19 : PySem.W.keepIn K (.ref f19) = true)
    (a20 : PySem.W.nsIn K mainGlobals "_law_asked" = some (some (.ref f20))) (l20 : K.lookup f20 = some ⟨oc20, od20, .func (PySem.W.fnOf "_law_asked" "_law_asked" (defArgs s_asked) (defBody s_asked) (defScope s_asked) .none kV20 dc20 pm20 an20 cd20 ct20), sl20⟩) (c20 : PySem.W.codeIn K cd20 "_law_asked" = true) (k20 : PySem.W.keepIn K (.ref f20) = true)
    (a21 : PySem.W.nsIn K mainGlobals "_law_refused" = some (some (.ref f21))) (l21 : K.lookup f21 = some ⟨oc21, od21, .func (PySem.W.fnOf "_law_refused" "_law_refused" (defArgs s_refused) (defBody s_refused) (defScope s_refused) .none kV21 dc21 pm21 an21 cd21 ct21), sl21⟩) (c21 : PySem.W.codeIn K cd21 "_law_refused" = true) (k21 : PySem.W.keepIn K (.ref f21) = true)
    (a22 : PySem.W.nsIn K mainGlobals "_law_refused_as_base" = some (some (.ref f22))) (l22 : K.lookup f22 = some ⟨oc22, od22, .func (PySem.W.fnOf "_law_refused_as_base" "_law_refused_as_base" (defArgs s_refused_as_base) (defBody s_refused_as_base) (defScope s_refused_as_base) .none kV22 dc22 pm22 an22 cd22 ct22), sl22⟩) (c22 : PySem.W.codeIn K cd22 "_law_refused_as_base" = true) (k22 : PySem.W.keepIn K (.ref f22) = true)
    (a23 : PySem.W.nsIn K mainGlobals "_law_listed" = some (some (.ref f23))) (l23 : K.lookup f23 = some ⟨oc23, od23, .func (PySem.W.fnOf "_law_listed" "_law_listed" (defArgs s_listed) (defBody s_listed) (defScope s_listed) .none kV23 dc23 pm23 an23 cd23 ct23), sl23⟩) (c23 : PySem.W.codeIn K cd23 "_law_listed" = true) (k23 : PySem.W.keepIn K (.ref f23) = true)
    (a24 : PySem.W.nsIn K mainGlobals "_law_lists_asked" = some (some (.ref f24))) (l24 : K.lookup f24 = some ⟨oc24, od24, .func (PySem.W.fnOf "_law_lists_asked" "_law_lists_asked" (defArgs s_lists_asked) (defBody s_lists_asked) (defScope s_lists_asked) .none kV24 dc24 pm24 an24 cd24 ct24), sl24⟩) (c24 : PySem.W.codeIn K cd24 "_law_lists_asked" = true) (k24 : PySem.W.keepIn K (.ref f24) = true)
    (a25 : PySem.W.nsIn K mainGlobals "law" = some (some (.ref f25))) (l25 : K.lookup f25 = some ⟨oc25, od25, .func (PySem.W.fnOf "law" "law" (defArgs s_law) (defBody s_law) (defScope s_law) .none kV25 dc25 pm25 an25 cd25 ct25), sl25⟩) (c25 : PySem.W.codeIn K cd25 "law" = true) (k25 : PySem.W.keepIn K (.ref f25) = true)
    {t_MOST_PARTS : Tok} (v_MOST_PARTS : PySem.W.nsIn K mainGlobals "MOST_PARTS" = some (some (.int 3 t_MOST_PARTS)))
    (z_ValueError : PySem.W.nsIn K mainGlobals "ValueError" = some none)
    (z_abs : PySem.W.nsIn K mainGlobals "abs" = some none)
    (z_all : PySem.W.nsIn K mainGlobals "all" = some none)
    (z_bool : PySem.W.nsIn K mainGlobals "bool" = some none)
    (z_int : PySem.W.nsIn K mainGlobals "int" = some none)
    (z_isinstance : PySem.W.nsIn K mainGlobals "isinstance" = some none)
    (z_len : PySem.W.nsIn K mainGlobals "len" = some none)
    (z_list : PySem.W.nsIn K mainGlobals "list" = some none)
    (z_max : PySem.W.nsIn K mainGlobals "max" = some none)
    (z_min : PySem.W.nsIn K mainGlobals "min" = some none)
    (z_range : PySem.W.nsIn K mainGlobals "range" = some none)
    (z_repr : PySem.W.nsIn K mainGlobals "repr" = some none)
    (z_str : PySem.W.nsIn K mainGlobals "str" = some none)
    (z_sum : PySem.W.nsIn K mainGlobals "sum" = some none)
    (z_tuple : PySem.W.nsIn K mainGlobals "tuple" = some none)
    (h_cg_AfterError : PySem.W.nsIn K mainGlobals "AfterError" = some (some (.ref C_AfterError)))
    (h_cg_BadForm : PySem.W.nsIn K mainGlobals "BadForm" = some (some (.ref C_BadForm)))
    (h_cg_NotThere : PySem.W.nsIn K mainGlobals "NotThere" = some (some (.ref C_NotThere)))
    (h_cg_BadLabel : PySem.W.nsIn K mainGlobals "BadLabel" = some (some (.ref C_BadLabel)))
    (h_cg_NoRoom : PySem.W.nsIn K mainGlobals "NoRoom" = some (some (.ref C_NoRoom)))
    (h_x_NoRoom : PySem.W.excIn K C_NoRoom [.type "ValueError", .type "Exception", .type "BaseException", .type "object"] "ValueError.__new__" = true)
    (h_k_NoRoom : PySem.W.keepIn K (.ref C_NoRoom) = true)
    (h_t_NoRoom : PySem.W.typeIn K (.ref C_NoRoom) = some (.type "type"))
    (h_hg_NoRoom : PySem.W.findIn K (.ref C_NoRoom) "__getattribute__" = some (some (.builtin "BaseException.__getattribute__")))
    (h_hk_NoRoom : PySem.W.findIn K (.ref C_NoRoom) "__getattr__" = some none)
    (h_hs_NoRoom : PySem.W.subIn K (.ref C_NoRoom) (.type "BaseException") = some true)
    (h_hd_NoRoom : PySem.W.hasDictIn K C_NoRoom = true)
    (h_ha_NoRoom : PySem.W.findIn K (.ref C_NoRoom) "__class__" = some (some (.builtin "object.__class__")))
    (h_hn_NoRoom : PySem.W.specialIn K (.builtin "object.__class__") "__get__" = some (some (.builtin "getset_descriptor.__get__")))
    (h_ht_NoRoom : PySem.W.takesIn K (.builtin "object.__class__") = some true)
    (h_hm_NoRoom : PySem.W.mroIn K C_NoRoom (.type "object") = some true)
    (h_hg_BadLabel : PySem.W.findIn K (.ref C_BadLabel) "__getattribute__" = some (some (.builtin "BaseException.__getattribute__")))
    (h_hk_BadLabel : PySem.W.findIn K (.ref C_BadLabel) "__getattr__" = some none)
    (h_hs_BadLabel : PySem.W.subIn K (.ref C_BadLabel) (.type "BaseException") = some true)
    (h_hd_BadLabel : PySem.W.hasDictIn K C_BadLabel = true)
    (h_ha_BadLabel : PySem.W.findIn K (.ref C_BadLabel) "__class__" = some (some (.builtin "object.__class__")))
    (h_hn_BadLabel : PySem.W.specialIn K (.builtin "object.__class__") "__get__" = some (some (.builtin "getset_descriptor.__get__")))
    (h_ht_BadLabel : PySem.W.takesIn K (.builtin "object.__class__") = some true)
    (h_hm_BadLabel : PySem.W.mroIn K C_BadLabel (.type "object") = some true)
    (h_n_BadLabel_label : PySem.W.findIn K (.ref C_BadLabel) "label" = some none)
    (h_i_BadLabel : PySem.W.typeIn K (.ref f0) = some (.type "function"))
    (h_q_NoRoom_AfterError : PySem.W.subIn K (.ref C_NoRoom) (.ref C_AfterError) = some true)
    (h_q_NoRoom_ValueError : PySem.W.subIn K (.ref C_NoRoom) (.type "ValueError") = some true)
    (h_q_NoRoom_BadForm : PySem.W.subIn K (.ref C_NoRoom) (.ref C_BadForm) = some false)
    (h_q_NoRoom_NotThere : PySem.W.subIn K (.ref C_NoRoom) (.ref C_NotThere) = some false)
    (h_q_BadLabel_BadForm : PySem.W.subIn K (.ref C_BadLabel) (.ref C_BadForm) = some true)
    (h_q_BadLabel_AfterError : PySem.W.subIn K (.ref C_BadLabel) (.ref C_AfterError) = some true)
    (h_q_BadLabel_NotThere : PySem.W.subIn K (.ref C_BadLabel) (.ref C_NotThere) = some false)
    (h_q_BadLabel_BadLabel : PySem.W.subIn K (.ref C_BadLabel) (.ref C_BadLabel) = some true)
    (h_q_BadLabel_ValueError : PySem.W.subIn K (.ref C_BadLabel) (.type "ValueError") = some true)
    (h_q_BadLabel_NoRoom : PySem.W.subIn K (.ref C_BadLabel) (.ref C_NoRoom) = some false)
    (h_e_NoRoom_NoRoom : PySem.W.subIn K (.ref C_NoRoom) (.ref C_NoRoom) = some true)
    (h_e_BadLabel_BadLabel : PySem.W.subIn K (.ref C_BadLabel) (.ref C_BadLabel) = some true)
    (h_e_BadLabel_AfterError : PySem.W.subIn K (.ref C_BadLabel) (.ref C_AfterError) = some true)
    {nm_BadLabel qn_BadLabel : Str} {N_BadLabel : Addr} {bs_BadLabel sub_BadLabel : List Value} {sn_BadLabel : List Str} {ab_BadLabel : Bool} {col_BadLabel : Option Bool} {dd_BadLabel : Option Addr} {m0_BadLabel m1_BadLabel m2_BadLabel m3_BadLabel m5_BadLabel : Option Value} {bm_BadLabel : List Value}
    (xl_BadLabel : K.lookup C_BadLabel = some (excClassObj nm_BadLabel qn_BadLabel C_BadLabel N_BadLabel bs_BadLabel bm_BadLabel true sn_BadLabel sub_BadLabel ab_BadLabel col_BadLabel dd_BadLabel m0_BadLabel m1_BadLabel m2_BadLabel m3_BadLabel m5_BadLabel "ValueError.__new__"))
    (rf_BadLabel : PySem.HandSPX.refsVE bm_BadLabel = true)
    (sa_BadLabel : PySem.W.findIn K (.ref C_BadLabel) "__setattr__" = some (some (.builtin "object.__setattr__"))) (eb_BadLabel : PySem.W.subIn K (.ref C_BadLabel) (.type "BaseException") = some true) (ty_BadLabel : PySem.W.typeIn K (.ref C_BadLabel) = some (.type "type")) (kc_BadLabel : PySem.W.keepIn K (.ref C_BadLabel) = true)
    (ic_AfterError : PySem.W.isClsIn K C_AfterError = true)
    (tc_AfterError : PySem.W.typeIn K (.ref C_AfterError) = some (.type "type"))
    (sc_AfterError : PySem.W.subIn K (.ref C_AfterError) (.type "BaseException") = some true)
    (dc_AfterError : PySem.W.hasDictIn K C_AfterError = true)
    (ic_BadForm : PySem.W.isClsIn K C_BadForm = true)
    (tc_BadForm : PySem.W.typeIn K (.ref C_BadForm) = some (.type "type"))
    (sc_BadForm : PySem.W.subIn K (.ref C_BadForm) (.type "BaseException") = some true)
    (dc_BadForm : PySem.W.hasDictIn K C_BadForm = true)
    (ic_NotThere : PySem.W.isClsIn K C_NotThere = true)
    (tc_NotThere : PySem.W.typeIn K (.ref C_NotThere) = some (.type "type"))
    (sc_NotThere : PySem.W.subIn K (.ref C_NotThere) (.type "BaseException") = some true)
    (dc_NotThere : PySem.W.hasDictIn K C_NotThere = true)
    (ic_BadLabel : PySem.W.isClsIn K C_BadLabel = true)
    (tc_BadLabel : PySem.W.typeIn K (.ref C_BadLabel) = some (.type "type"))
    (sc_BadLabel : PySem.W.subIn K (.ref C_BadLabel) (.type "BaseException") = some true)
    (dc_BadLabel : PySem.W.hasDictIn K C_BadLabel = true)
    (ic_NoRoom : PySem.W.isClsIn K C_NoRoom = true)
    (tc_NoRoom : PySem.W.typeIn K (.ref C_NoRoom) = some (.type "type"))
    (sc_NoRoom : PySem.W.subIn K (.ref C_NoRoom) (.type "BaseException") = some true)
    (dc_NoRoom : PySem.W.hasDictIn K C_NoRoom = true)
    (ne_NoRoom_BadForm : C_NoRoom ≠ C_BadForm)
    (ne_NoRoom_NotThere : C_NoRoom ≠ C_NotThere)
    (ne_BadLabel_NotThere : C_BadLabel ≠ C_NotThere)
    (ne_BadLabel_NoRoom : C_BadLabel ≠ C_NoRoom)
    : ∃ fd : FuncData, (∀ (s : Shared) (v : Value), BindsTo s fd ⟨[v], []⟩ [("_law_script", v)]) ∧ ∀ base : Heap, K.In base → base.Ns mainGlobals mg → GnOk l.prog w K mg base CX0 8 fa fd ["_law_script"] (sp_law K) := by
  have e := hfa.symm.trans (PySem.W.mg_of X G a25)
  cases e
  have F0 := fun_mk (st := s_BadLabel_init) l0 c0 k0
  have b0 := F0.binds (ps := ["self", "label"]) fun _ _ _ _ _ _ us hl => match us, hl with | [_, _], _ => rfl
  have F1 := fun_mk (st := s_is_integer) l1 c1 k1
  have b1 := F1.binds (ps := ["thing"]) fun _ _ _ _ _ _ us hl => match us, hl with | [_], _ => rfl
  have F2 := fun_mk (st := s_is_within) l2 c2 k2
  have b2 := F2.binds (ps := ["thing", "least", "most"]) fun _ _ _ _ _ _ us hl => match us, hl with | [_, _, _], _ => rfl
  have F3 := fun_mk (st := s_is_tuple) l3 c3 k3
  have b3 := F3.binds (ps := ["thing"]) fun _ _ _ _ _ _ us hl => match us, hl with | [_], _ => rfl
  have F4 := fun_mk (st := s_is_sized) l4 c4 k4
  have b4 := F4.binds (ps := ["thing", "least", "most"]) fun _ _ _ _ _ _ us hl => match us, hl with | [_, _, _], _ => rfl
  have F5 := fun_mk (st := s_kept_label) l5 c5 k5
  have b5 := F5.binds (ps := ["thing"]) fun _ _ _ _ _ _ us hl => match us, hl with | [_], _ => rfl
  have F6 := fun_mk (st := s_judged_label) l6 c6 k6
  have b6 := F6.binds (ps := ["thing"]) fun _ _ _ _ _ _ us hl => match us, hl with | [_], _ => rfl
  have F7 := fun_mk (st := s_between) l7 c7 k7
  have b7 := F7.binds (ps := ["low", "high"]) fun _ _ _ _ _ _ us hl => match us, hl with | [_, _], _ => rfl
  have F8 := fun_mk (st := s_least_above) l8 c8 k8
  have b8 := F8.binds (ps := ["low", "count"]) fun _ _ _ _ _ _ us hl => match us, hl with | [_, _], _ => rfl
  have F9 := fun_mk (st := s_source) l9 c9 k9
  have b9 := F9.binds (ps := ["_law_script", "_law_k"]) fun _ _ _ _ _ _ us hl => match us, hl with | [_, _], _ => rfl
  have F10 := fun_mk (st := s_pick) l10 c10 k10
  have b10 := F10.binds (ps := ["_law_source_here", "_law_many"]) fun _ _ _ _ _ _ us hl => match us, hl with | [_, _], _ => rfl
  have F11 := fun_mk (st := s_law_is_integer) l11 c11 k11
  have b11 := F11.binds (ps := ["_law_actual"]) fun _ _ _ _ _ _ us hl => match us, hl with | [_], _ => rfl
  have F12 := fun_mk (st := s_figure) l12 c12 k12
  have b12 := F12.binds (ps := ["_law_source_here", "_law_least_here"]) fun _ _ _ _ _ _ us hl => match us, hl with | [_, _], _ => rfl
  have F13 := fun_mk (st := s_label) l13 c13 k13
  have b13 := F13.binds (ps := ["_law_source_here"]) fun _ _ _ _ _ _ us hl => match us, hl with | [_], _ => rfl
  have F14 := fun_mk (st := s_behind) l14 c14 k14
  have b14 := F14.binds (ps := ["_law_source_here", "_law_low"]) fun _ _ _ _ _ _ us hl => match us, hl with | [_, _], _ => rfl
  have F15 := fun_mk (st := s_two) l15 c15 k15
  have b15 := F15.binds (ps := ["_law_source_here"]) fun _ _ _ _ _ _ us hl => match us, hl with | [_], _ => rfl
  have F16 := fun_mk (st := s_odd) l16 c16 k16
  have b16 := F16.binds (ps := ["_law_source_here", "_law_label_here"]) fun _ _ _ _ _ _ us hl => match us, hl with | [_, _], _ => rfl
  have F17 := fun_mk (st := s_least) l17 c17 k17
  have b17 := F17.binds (ps := ["_law_low", "_law_size"]) fun _ _ _ _ _ _ us hl => match us, hl with | [_, _], _ => rfl
  have F18 := fun_mk (st := s_due) l18 c18 k18
  have b18 := F18.binds (ps := ["_law_low", "_law_high"]) fun _ _ _ _ _ _ us hl => match us, hl with | [_, _], _ => rfl
  have F19 := fun_mk (st := s_is_label) l19 c19 k19
  have b19 := F19.binds (ps := ["_law_actual", "_law_due_here"]) fun _ _ _ _ _ _ us hl => match us, hl with | [_, _], _ => rfl
  have F20 := fun_mk (st := s_asked) l20 c20 k20
  have b20 := F20.binds (ps := ["_law_low", "_law_high", "_law_due_here"]) fun _ _ _ _ _ _ us hl => match us, hl with | [_, _, _], _ => rfl
  have F21 := fun_mk (st := s_refused) l21 c21 k21
  have b21 := F21.binds (ps := ["_law_low", "_law_high", "_law_thing"]) fun _ _ _ _ _ _ us hl => match us, hl with | [_, _, _], _ => rfl
  have F22 := fun_mk (st := s_refused_as_base) l22 c22 k22
  have b22 := F22.binds (ps := ["_law_low", "_law_high"]) fun _ _ _ _ _ _ us hl => match us, hl with | [_, _], _ => rfl
  have F23 := fun_mk (st := s_listed) l23 c23 k23
  have b23 := F23.binds (ps := ["_law_label_here"]) fun _ _ _ _ _ _ us hl => match us, hl with | [_], _ => rfl
  have F24 := fun_mk (st := s_lists_asked) l24 c24 k24
  have b24 := F24.binds (ps := ["_law_low", "_law_high", "_law_due_here"]) fun _ _ _ _ _ _ us hl => match us, hl with | [_, _, _], _ => rfl
  have F25 := fun_mk (st := s_law) l25 c25 k25
  have b25 := F25.binds (ps := ["_law_script"]) fun _ _ _ _ _ _ us hl => match us, hl with | [_], _ => rfl
  let T : Tab K mg := ⟨C_AfterError, C_BadForm, C_NotThere, C_BadLabel, C_NoRoom, _, _, F0, b0, a0, _, _, F1, b1, PySem.W.mg_of X G a1, _, _, F2, b2, PySem.W.mg_of X G a2, _, _, F3, b3, PySem.W.mg_of X G a3, _, _, F4, b4, PySem.W.mg_of X G a4, _, _, F5, b5, PySem.W.mg_of X G a5, _, _, F6, b6, PySem.W.mg_of X G a6, _, _, F7, b7, PySem.W.mg_of X G a7, _, _, F8, b8, PySem.W.mg_of X G a8, _, _, F9, b9, PySem.W.mg_of X G a9, _, _, F10, b10, PySem.W.mg_of X G a10, _, _, F11, b11, PySem.W.mg_of X G a11, _, _, F12, b12, PySem.W.mg_of X G a12, _, _, F13, b13, PySem.W.mg_of X G a13, _, _, F14, b14, PySem.W.mg_of X G a14, _, _, F15, b15, PySem.W.mg_of X G a15, _, _, F16, b16, PySem.W.mg_of X G a16, _, _, F17, b17, PySem.W.mg_of X G a17, _, _, F18, b18, PySem.W.mg_of X G a18, _, _, F19, b19, PySem.W.mg_of X G a19, _, _, F20, b20, PySem.W.mg_of X G a20, _, _, F21, b21, PySem.W.mg_of X G a21, _, _, F22, b22, PySem.W.mg_of X G a22, _, _, F23, b23, PySem.W.mg_of X G a23, _, _, F24, b24, PySem.W.mg_of X G a24, _, _, F25, b25, PySem.W.mg_of X G a25, PySem.W.mg_of X G h_cg_AfterError, PySem.W.mg_of X G h_cg_BadForm, PySem.W.mg_of X G h_cg_NotThere, PySem.W.mg_of X G h_cg_BadLabel, PySem.W.mg_of X G h_cg_NoRoom, h_x_NoRoom, h_k_NoRoom, h_t_NoRoom, h_hg_NoRoom, h_hk_NoRoom, h_hs_NoRoom, h_hd_NoRoom, h_ha_NoRoom, h_hn_NoRoom, h_ht_NoRoom, h_hm_NoRoom, h_hg_BadLabel, h_hk_BadLabel, h_hs_BadLabel, h_hd_BadLabel, h_ha_BadLabel, h_hn_BadLabel, h_ht_BadLabel, h_hm_BadLabel, ⟨⟨_, _, _, _, _, _, _, _, _, _, _, _, _, _, _, xl_BadLabel, rf_BadLabel⟩, sa_BadLabel, eb_BadLabel, ty_BadLabel, kc_BadLabel⟩, h_n_BadLabel_label, h_i_BadLabel, kit_ref ic_AfterError tc_AfterError h_q_NoRoom_AfterError (fun _ => rfl), kit_rty h_q_NoRoom_ValueError (by decide +kernel), kit_ref ic_BadForm tc_BadForm h_q_NoRoom_BadForm (fun z => absurd z ne_NoRoom_BadForm), kit_ref ic_NotThere tc_NotThere h_q_NoRoom_NotThere (fun z => absurd z ne_NoRoom_NotThere), kit_ref ic_BadForm tc_BadForm h_q_BadLabel_BadForm (fun _ => rfl), kit_ref ic_AfterError tc_AfterError h_q_BadLabel_AfterError (fun _ => rfl), kit_ref ic_NotThere tc_NotThere h_q_BadLabel_NotThere (fun z => absurd z ne_BadLabel_NotThere), kit_ref ic_BadLabel tc_BadLabel h_q_BadLabel_BadLabel (fun _ => rfl), kit_rty h_q_BadLabel_ValueError (by decide +kernel), kit_ref ic_NoRoom tc_NoRoom h_q_BadLabel_NoRoom (fun z => absurd z ne_BadLabel_NoRoom), PySem.W.exm_ref sc_NoRoom dc_NoRoom tc_NoRoom h_e_NoRoom_NoRoom, PySem.W.exm_ref sc_BadLabel dc_BadLabel tc_BadLabel h_e_BadLabel_BadLabel, PySem.W.exm_ref sc_AfterError dc_AfterError tc_AfterError h_e_BadLabel_AfterError, _, PySem.W.mg_of X G v_MOST_PARTS, PySem.W.mg_none_of X G z_ValueError, PySem.W.mg_none_of X G z_abs, PySem.W.mg_none_of X G z_all, PySem.W.mg_none_of X G z_bool, PySem.W.mg_none_of X G z_int, PySem.W.mg_none_of X G z_isinstance, PySem.W.mg_none_of X G z_len, PySem.W.mg_none_of X G z_list, PySem.W.mg_none_of X G z_max, PySem.W.mg_none_of X G z_min, PySem.W.mg_none_of X G z_range, PySem.W.mg_none_of X G z_repr, PySem.W.mg_none_of X G z_str, PySem.W.mg_none_of X G z_sum, PySem.W.mg_none_of X G z_tuple⟩
  exact ⟨PySem.W.fnOf "law" "law" (defArgs s_law) (defBody s_law) (defScope s_law) .none kV25 dc25 pm25 an25 cd25 ct25, fun s v => .of_eq rfl, fun base _ _ => ok_law T⟩
end K01
open PySem PySem.W PyProof.Rows
set_option maxRecDepth 100000 in
set_option maxHeartbeats 0 in
theorem PySem.Challenge.cw_afterleaves_k01_labels_between_holds : PySem.Challenge.rw_afterleaves_k01_labels_between.Holds := by
  w_on; o_law; k_head; (case hw => w_witness2)
  k_fill
  refine K01.walk_ofG (l := PySem.Challenge.rw_afterleaves_k01_labels_between) (n := 63) (k := 8) (x := "_law_script") (CX := fun _ => L2.CX0) (sp := fun w => K01.sp_law _) rfl (by decide) rfl ⟨rfl, by decide, by decide⟩ (fun w h Y => PySem.W.kIn_of Y) ?F (fun _ _ a ns hl _ hS => ⟨a, ns, rfl, hS, hl, fun _ => rfl⟩) (fun _ _ _ _ _ h => h)
  case F =>
    intro w mg fa h KX G hmg
    refine' K01.all_mk KX G hmg ?a0 ?l0 ?c0 ?k0 ?a1 ?l1 ?c1 ?k1 ?a2 ?l2 ?c2 ?k2 ?a3 ?l3 ?c3 ?k3 ?a4 ?l4 ?c4 ?k4 ?a5 ?l5 ?c5 ?k5 ?a6 ?l6 ?c6 ?k6 ?a7 ?l7 ?c7 ?k7 ?a8 ?l8 ?c8 ?k8 ?a9 ?l9 ?c9 ?k9 ?a10 ?l10 ?c10 ?k10 ?a11 ?l11 ?c11 ?k11 ?a12 ?l12 ?c12 ?k12 ?a13 ?l13 ?c13 ?k13 ?a14 ?l14 ?c14 ?k14 ?a15 ?l15 ?c15 ?k15 ?a16 ?l16 ?c16 ?k16 ?a17 ?l17 ?c17 ?k17 ?a18 ?l18 ?c18 ?k18 ?a19 ?l19 ?c19 ?k19 ?a20 ?l20 ?c20 ?k20 ?a21 ?l21 ?c21 ?k21 ?a22 ?l22 ?c22 ?k22 ?a23 ?l23 ?c23 ?k23 ?a24 ?l24 ?c24 ?k24 ?a25 ?l25 ?c25 ?k25 ?v_MOST_PARTS ?z_ValueError ?z_abs ?z_all ?z_bool ?z_int ?z_isinstance ?z_len ?z_list ?z_max ?z_min ?z_range ?z_repr ?z_str ?z_sum ?z_tuple ?h_cg_AfterError ?h_cg_BadForm ?h_cg_NotThere ?h_cg_BadLabel ?h_cg_NoRoom ?h_x_NoRoom ?h_k_NoRoom ?h_t_NoRoom ?h_hg_NoRoom ?h_hk_NoRoom ?h_hs_NoRoom ?h_hd_NoRoom ?h_ha_NoRoom ?h_hn_NoRoom ?h_ht_NoRoom ?h_hm_NoRoom ?h_hg_BadLabel ?h_hk_BadLabel ?h_hs_BadLabel ?h_hd_BadLabel ?h_ha_BadLabel ?h_hn_BadLabel ?h_ht_BadLabel ?h_hm_BadLabel ?h_n_BadLabel_label ?h_i_BadLabel ?h_q_NoRoom_AfterError ?h_q_NoRoom_ValueError ?h_q_NoRoom_BadForm ?h_q_NoRoom_NotThere ?h_q_BadLabel_BadForm ?h_q_BadLabel_AfterError ?h_q_BadLabel_NotThere ?h_q_BadLabel_BadLabel ?h_q_BadLabel_ValueError ?h_q_BadLabel_NoRoom ?h_e_NoRoom_NoRoom ?h_e_BadLabel_BadLabel ?h_e_BadLabel_AfterError ?xl_BadLabel ?rf_BadLabel ?sa_BadLabel ?eb_BadLabel ?ty_BadLabel ?kc_BadLabel ?ic_AfterError ?tc_AfterError ?sc_AfterError ?dc_AfterError ?ic_BadForm ?tc_BadForm ?sc_BadForm ?dc_BadForm ?ic_NotThere ?tc_NotThere ?sc_NotThere ?dc_NotThere ?ic_BadLabel ?tc_BadLabel ?sc_BadLabel ?dc_BadLabel ?ic_NoRoom ?tc_NoRoom ?sc_NoRoom ?dc_NoRoom ?ne_NoRoom_BadForm ?ne_NoRoom_NotThere ?ne_BadLabel_NotThere ?ne_BadLabel_NoRoom
    (case h_cg_AfterError => k_is)
    (case h_cg_BadForm => k_is)
    (case h_cg_NotThere => k_is)
    (case h_cg_BadLabel => k_is)
    (case h_cg_NoRoom => k_is)
    (case a0 => k_is)
    (case l0 => k_is)
    (case c0 => k_is)
    (case k0 => k_is)
    (case a1 => k_is)
    (case l1 => k_is)
    (case c1 => k_is)
    (case k1 => k_is)
    (case a2 => k_is)
    (case l2 => k_is)
    (case c2 => k_is)
    (case k2 => k_is)
    (case a3 => k_is)
    (case l3 => k_is)
    (case c3 => k_is)
    (case k3 => k_is)
    (case a4 => k_is)
    (case l4 => k_is)
    (case c4 => k_is)
    (case k4 => k_is)
    (case a5 => k_is)
    (case l5 => k_is)
    (case c5 => k_is)
    (case k5 => k_is)
    (case a6 => k_is)
    (case l6 => k_is)
    (case c6 => k_is)
    (case k6 => k_is)
    (case a7 => k_is)
    (case l7 => k_is)
    (case c7 => k_is)
    (case k7 => k_is)
    (case a8 => k_is)
    (case l8 => k_is)
    (case c8 => k_is)
    (case k8 => k_is)
    (case a9 => k_is)
    (case l9 => k_is)
    (case c9 => k_is)
    (case k9 => k_is)
    (case a10 => k_is)
    (case l10 => k_is)
    (case c10 => k_is)
    (case k10 => k_is)
    (case a11 => k_is)
    (case l11 => k_is)
    (case c11 => k_is)
    (case k11 => k_is)
    (case a12 => k_is)
    (case l12 => k_is)
    (case c12 => k_is)
    (case k12 => k_is)
    (case a13 => k_is)
    (case l13 => k_is)
    (case c13 => k_is)
    (case k13 => k_is)
    (case a14 => k_is)
    (case l14 => k_is)
    (case c14 => k_is)
    (case k14 => k_is)
    (case a15 => k_is)
    (case l15 => k_is)
    (case c15 => k_is)
    (case k15 => k_is)
    (case a16 => k_is)
    (case l16 => k_is)
    (case c16 => k_is)
    (case k16 => k_is)
    (case a17 => k_is)
    (case l17 => k_is)
    (case c17 => k_is)
    (case k17 => k_is)
    (case a18 => k_is)
    (case l18 => k_is)
    (case c18 => k_is)
    (case k18 => k_is)
    (case a19 => k_is)
    (case l19 => k_is)
    (case c19 => k_is)
    (case k19 => k_is)
    (case a20 => k_is)
    (case l20 => k_is)
    (case c20 => k_is)
    (case k20 => k_is)
    (case a21 => k_is)
    (case l21 => k_is)
    (case c21 => k_is)
    (case k21 => k_is)
    (case a22 => k_is)
    (case l22 => k_is)
    (case c22 => k_is)
    (case k22 => k_is)
    (case a23 => k_is)
    (case l23 => k_is)
    (case c23 => k_is)
    (case k23 => k_is)
    (case a24 => k_is)
    (case l24 => k_is)
    (case c24 => k_is)
    (case k24 => k_is)
    (case a25 => k_is)
    (case l25 => k_is)
    (case c25 => k_is)
    (case k25 => k_is)
    (case v_MOST_PARTS => k_is)
    (case z_ValueError => k_is)
    (case z_abs => k_is)
    (case z_all => k_is)
    (case z_bool => k_is)
    (case z_int => k_is)
    (case z_isinstance => k_is)
    (case z_len => k_is)
    (case z_list => k_is)
    (case z_max => k_is)
    (case z_min => k_is)
    (case z_range => k_is)
    (case z_repr => k_is)
    (case z_str => k_is)
    (case z_sum => k_is)
    (case z_tuple => k_is)
    (case h_x_NoRoom => k_exc)
    (case h_k_NoRoom => k_is)
    (case h_t_NoRoom => k_is)
    (case h_hg_NoRoom => k_is)
    (case h_hk_NoRoom => k_is)
    (case h_hs_NoRoom => k_is)
    (case h_hd_NoRoom => k_is)
    (case h_ha_NoRoom => k_is)
    (case h_hn_NoRoom => k_is)
    (case h_ht_NoRoom => k_is)
    (case h_hm_NoRoom => k_is)
    (case h_hg_BadLabel => k_is)
    (case h_hk_BadLabel => k_is)
    (case h_hs_BadLabel => k_is)
    (case h_hd_BadLabel => k_is)
    (case h_ha_BadLabel => k_is)
    (case h_hn_BadLabel => k_is)
    (case h_ht_BadLabel => k_is)
    (case h_hm_BadLabel => k_is)
    (case h_n_BadLabel_label => k_is)
    (case h_i_BadLabel => k_is)
    (case h_q_NoRoom_AfterError => k_is)
    (case h_q_NoRoom_ValueError => k_is)
    (case h_q_NoRoom_BadForm => k_is)
    (case h_q_NoRoom_NotThere => k_is)
    (case h_q_BadLabel_BadForm => k_is)
    (case h_q_BadLabel_AfterError => k_is)
    (case h_q_BadLabel_NotThere => k_is)
    (case h_q_BadLabel_BadLabel => k_is)
    (case h_q_BadLabel_ValueError => k_is)
    (case h_q_BadLabel_NoRoom => k_is)
    (case h_e_NoRoom_NoRoom => k_is)
    (case h_e_BadLabel_BadLabel => k_is)
    (case h_e_BadLabel_AfterError => k_is)
    (case xl_BadLabel => k_is)
    (case rf_BadLabel => first | rfl | decide +kernel | k_is)
    (case sa_BadLabel => k_is)
    (case eb_BadLabel => k_is)
    (case ty_BadLabel => k_is)
    (case kc_BadLabel => k_is)
    (case ic_AfterError => k_is)
    (case tc_AfterError => k_is)
    (case sc_AfterError => k_is)
    (case dc_AfterError => k_is)
    (case ic_BadForm => k_is)
    (case tc_BadForm => k_is)
    (case sc_BadForm => k_is)
    (case dc_BadForm => k_is)
    (case ic_NotThere => k_is)
    (case tc_NotThere => k_is)
    (case sc_NotThere => k_is)
    (case dc_NotThere => k_is)
    (case ic_BadLabel => k_is)
    (case tc_BadLabel => k_is)
    (case sc_BadLabel => k_is)
    (case dc_BadLabel => k_is)
    (case ic_NoRoom => k_is)
    (case tc_NoRoom => k_is)
    (case sc_NoRoom => k_is)
    (case dc_NoRoom => k_is)
    (case ne_NoRoom_BadForm => decide)
    (case ne_NoRoom_NotThere => decide)
    (case ne_BadLabel_NotThere => decide)
    (case ne_BadLabel_NoRoom => decide)

import PyProof.Rows.All
import Wide.All
import OpenK.AllK
import Wide.FinOn
import HandS.ForMost
import HandS.Codes
import HandS.IsInst
import HandS.Walk
import HandS.DeepEq
import HandS.TupAny
import HandS.Deep
import HandS.RevRange
import HandS.TupLe
import PySem.Challenge.RW_afterleaves_k17_whole_least_lines
set_option Elab.async false
set_option linter.all false
set_option maxRecDepth 100000
set_option maxHeartbeats 4000000
namespace K17
open PySem PySem.Spec PyProof.Rows L2
/-! ### the text -/
def topS (i : Nat) : Stmt := PySem.Challenge.pw_afterleaves_k17_whole_least_lines.main.body.getD i (.Pass ⟨0, 0, 0, 0⟩)
abbrev s_token_width : Stmt := topS 1
abbrev N_token_width : List Str := ["token"]
theorem sc_token_width : FnScope N_token_width ["token"] (defScope s_token_width) := ⟨rfl, rfl, rfl, by decide +kernel, rfl, by decide +kernel, by decide +kernel⟩
abbrev s_row_width : Stmt := topS 2
abbrev N_row_width : List Str := ["row"]
theorem sc_row_width : FnScope N_row_width ["row"] (defScope s_row_width) := ⟨rfl, rfl, rfl, by decide +kernel, rfl, by decide +kernel, by decide +kernel⟩
abbrev s_set_lines : Stmt := topS 3
abbrev N_set_lines : List Str := ["tokens", "width", "ends", "rows", "first", "token"]
theorem sc_set_lines : FnScope N_set_lines ["tokens", "width"] (defScope s_set_lines) := ⟨rfl, rfl, rfl, by decide +kernel, rfl, by decide +kernel, by decide +kernel⟩
abbrev s_row_ends : Stmt := topS 4
abbrev N_row_ends : List Str := ["widths", "width", "costs", "ends"]
theorem sc_row_ends : FnScope N_row_ends ["widths", "width"] (defScope s_row_ends) := ⟨rfl, rfl, rfl, by decide +kernel, rfl, by decide +kernel, by decide +kernel⟩
abbrev s_fill_ends : Stmt := topS 5
abbrev N_fill_ends : List Str := ["widths", "width", "costs", "ends", "span", "count", "first", "best", "used", "last", "cost"]
theorem sc_fill_ends : FnScope N_fill_ends ["widths", "width", "costs", "ends", "span"] (defScope s_fill_ends) := ⟨rfl, rfl, rfl, by decide +kernel, rfl, by decide +kernel, by decide +kernel⟩
abbrev s_line_cost : Stmt := topS 6
abbrev N_line_cost : List Str := ["rows", "width", "row"]
theorem sc_line_cost : FnScope N_line_cost ["rows", "width"] (defScope s_line_cost) := ⟨rfl, rfl, rfl, by decide +kernel, rfl, by decide +kernel, by decide +kernel⟩
abbrev s_source : Stmt := topS 8
abbrev N_source : List Str := ["_law_script", "_law_k", "_law_cell", "_law_number", "_law_great"]
theorem sc_source : FnScope N_source ["_law_script", "_law_k"] (defScope s_source) := ⟨rfl, rfl, rfl, by decide +kernel, rfl, by decide +kernel, by decide +kernel⟩
abbrev s_pick : Stmt := topS 9
abbrev N_pick : List Str := ["_law_source_here", "_law_many", "_law_taken"]
theorem sc_pick : FnScope N_pick ["_law_source_here", "_law_many"] (defScope s_pick) := ⟨rfl, rfl, rfl, by decide +kernel, rfl, by decide +kernel, by decide +kernel⟩
abbrev s_is_integer : Stmt := topS 10
abbrev N_is_integer : List Str := ["_law_actual"]
theorem sc_is_integer : FnScope N_is_integer ["_law_actual"] (defScope s_is_integer) := ⟨rfl, rfl, rfl, by decide +kernel, rfl, by decide +kernel, by decide +kernel⟩
abbrev s_width : Stmt := topS 11
abbrev N_width : List Str := ["_law_token_here"]
theorem sc_width : FnScope N_width ["_law_token_here"] (defScope s_width) := ⟨rfl, rfl, rfl, by decide +kernel, rfl, by decide +kernel, by decide +kernel⟩
abbrev s_cut : Stmt := topS 12
abbrev N_cut : List Str := ["_law_widths", "_law_limit", "_law_many", "_law_best", "_law_take", "_law_back", "_law_at", "_law_room", "_law_lowest", "_law_end", "_law_cost", "_law_counts_here", "_law_step"]
theorem sc_cut : FnScope N_cut ["_law_widths", "_law_limit"] (defScope s_cut) := ⟨rfl, rfl, rfl, by decide +kernel, rfl, by decide +kernel, by decide +kernel⟩
abbrev s_rows : Stmt := topS 13
abbrev N_rows : List Str := ["_law_tokens", "_law_limit", "_law_rows_here", "_law_at", "_law_count", "_law_token_here"]
theorem sc_rows : FnScope N_rows ["_law_tokens", "_law_limit"] (defScope s_rows) := ⟨rfl, rfl, rfl, by decide +kernel, rfl, by decide +kernel, by decide +kernel⟩
abbrev s_token : Stmt := topS 14
abbrev N_token : List Str := ["_law_source_here", "_law_wide"]
theorem sc_token : FnScope N_token ["_law_source_here", "_law_wide"] (defScope s_token) := ⟨rfl, rfl, rfl, by decide +kernel, rfl, by decide +kernel, by decide +kernel⟩
abbrev s_some_tokens : Stmt := topS 15
abbrev N_some_tokens : List Str := ["_law_source_here", "_law_size", "_law_way", "_law_one", "_law_other", "_law_tokens", "_law_step", "_law_wide"]
theorem sc_some_tokens : FnScope N_some_tokens ["_law_source_here"] (defScope s_some_tokens) := ⟨rfl, rfl, rfl, by decide +kernel, rfl, by decide +kernel, by decide +kernel⟩
abbrev s_counts : Stmt := topS 16
abbrev N_counts : List Str := ["_law_rows_here", "_law_tokens", "_law_limit", "_law_counts_here", "_law_seen", "_law_row"]
theorem sc_counts : FnScope N_counts ["_law_rows_here", "_law_tokens", "_law_limit"] (defScope s_counts) := ⟨rfl, rfl, rfl, by decide +kernel, rfl, by decide +kernel, by decide +kernel⟩
abbrev s_sum : Stmt := topS 17
abbrev N_sum : List Str := ["_law_widths", "_law_limit", "_law_counts_here", "_law_total", "_law_at", "_law_count", "_law_lack"]
theorem sc_sum : FnScope N_sum ["_law_widths", "_law_limit", "_law_counts_here"] (defScope s_sum) := ⟨rfl, rfl, rfl, by decide +kernel, rfl, by decide +kernel, by decide +kernel⟩
abbrev s_all_ways : Stmt := topS 18
abbrev N_all_ways : List Str := ["_law_widths", "_law_limit", "_law_ways", "_law_done", "_law_turn", "_law_longer", "_law_way", "_law_room", "_law_end", "_law_counts_here"]
theorem sc_all_ways : FnScope N_all_ways ["_law_widths", "_law_limit"] (defScope s_all_ways) := ⟨rfl, rfl, rfl, by decide +kernel, rfl, by decide +kernel, by decide +kernel⟩
abbrev s_least_from : Stmt := topS 19
abbrev N_least_from : List Str := ["_law_widths", "_law_limit", "_law_least", "_law_back", "_law_at", "_law_sums", "_law_room", "_law_end"]
theorem sc_least_from : FnScope N_least_from ["_law_widths", "_law_limit"] (defScope s_least_from) := ⟨rfl, rfl, rfl, by decide +kernel, rfl, by decide +kernel, by decide +kernel⟩
abbrev s_rows_are_least : Stmt := topS 20
abbrev N_rows_are_least : List Str := ["_law_widths", "_law_limit", "_law_counts_here", "_law_least", "_law_at", "_law_count", "_law_room", "_law_end", "_law_total"]
theorem sc_rows_are_least : FnScope N_rows_are_least ["_law_widths", "_law_limit", "_law_counts_here"] (defScope s_rows_are_least) := ⟨rfl, rfl, rfl, by decide +kernel, rfl, by decide +kernel, by decide +kernel⟩
abbrev s_right : Stmt := topS 21
abbrev N_right : List Str := ["_law_tokens", "_law_limit", "_law_widths", "_law_rows_here", "_law_counts_here", "_law_told", "_law_total", "_law_ways", "_law_way", "_law_token_here"]
theorem sc_right : FnScope N_right ["_law_tokens", "_law_limit"] (defScope s_right) := ⟨rfl, rfl, rfl, by decide +kernel, rfl, by decide +kernel, by decide +kernel⟩
abbrev s_law : Stmt := topS 22
abbrev N_law : List Str := ["_law_script", "_law_seen", "_law_k", "_law_source_here", "_law_limit", "_law_tokens", "_law_one", "_law_listed", "_law_rows_here"]
theorem sc_law : FnScope N_law ["_law_script"] (defScope s_law) := ⟨rfl, rfl, rfl, by decide +kernel, rfl, by decide +kernel, by decide +kernel⟩
structure Tab (K : PySem.W.Frag) (mg : Str → Option Value) where
  f_token_width : Addr
  d_token_width : FuncData
  F_token_width : Fun K "token_width" "token_width" s_token_width f_token_width d_token_width
  b_token_width : Binds K d_token_width ["token"] []
  g_token_width : mg "token_width" = some (.ref f_token_width)
  f_row_width : Addr
  d_row_width : FuncData
  F_row_width : Fun K "row_width" "row_width" s_row_width f_row_width d_row_width
  b_row_width : Binds K d_row_width ["row"] []
  g_row_width : mg "row_width" = some (.ref f_row_width)
  f_set_lines : Addr
  d_set_lines : FuncData
  F_set_lines : Fun K "set_lines" "set_lines" s_set_lines f_set_lines d_set_lines
  b_set_lines : Binds K d_set_lines ["tokens", "width"] []
  g_set_lines : mg "set_lines" = some (.ref f_set_lines)
  f_row_ends : Addr
  d_row_ends : FuncData
  F_row_ends : Fun K "row_ends" "row_ends" s_row_ends f_row_ends d_row_ends
  b_row_ends : Binds K d_row_ends ["widths", "width"] []
  g_row_ends : mg "row_ends" = some (.ref f_row_ends)
  f_fill_ends : Addr
  d_fill_ends : FuncData
  F_fill_ends : Fun K "fill_ends" "fill_ends" s_fill_ends f_fill_ends d_fill_ends
  b_fill_ends : Binds K d_fill_ends ["widths", "width", "costs", "ends", "span"] []
  g_fill_ends : mg "fill_ends" = some (.ref f_fill_ends)
  f_line_cost : Addr
  d_line_cost : FuncData
  F_line_cost : Fun K "line_cost" "line_cost" s_line_cost f_line_cost d_line_cost
  b_line_cost : Binds K d_line_cost ["rows", "width"] []
  g_line_cost : mg "line_cost" = some (.ref f_line_cost)
  f_source : Addr
  d_source : FuncData
  F_source : Fun K "_law_source" "_law_source" s_source f_source d_source
  b_source : Binds K d_source ["_law_script", "_law_k"] []
  g_source : mg "_law_source" = some (.ref f_source)
  f_pick : Addr
  d_pick : FuncData
  F_pick : Fun K "_law_pick" "_law_pick" s_pick f_pick d_pick
  b_pick : Binds K d_pick ["_law_source_here", "_law_many"] []
  g_pick : mg "_law_pick" = some (.ref f_pick)
  f_is_integer : Addr
  d_is_integer : FuncData
  F_is_integer : Fun K "_law_is_integer" "_law_is_integer" s_is_integer f_is_integer d_is_integer
  b_is_integer : Binds K d_is_integer ["_law_actual"] []
  g_is_integer : mg "_law_is_integer" = some (.ref f_is_integer)
  f_width : Addr
  d_width : FuncData
  F_width : Fun K "_law_width" "_law_width" s_width f_width d_width
  b_width : Binds K d_width ["_law_token_here"] []
  g_width : mg "_law_width" = some (.ref f_width)
  f_cut : Addr
  d_cut : FuncData
  F_cut : Fun K "_law_cut" "_law_cut" s_cut f_cut d_cut
  b_cut : Binds K d_cut ["_law_widths", "_law_limit"] []
  g_cut : mg "_law_cut" = some (.ref f_cut)
  f_rows : Addr
  d_rows : FuncData
  F_rows : Fun K "_law_rows" "_law_rows" s_rows f_rows d_rows
  b_rows : Binds K d_rows ["_law_tokens", "_law_limit"] []
  g_rows : mg "_law_rows" = some (.ref f_rows)
  f_token : Addr
  d_token : FuncData
  F_token : Fun K "_law_token" "_law_token" s_token f_token d_token
  b_token : Binds K d_token ["_law_source_here", "_law_wide"] []
  g_token : mg "_law_token" = some (.ref f_token)
  f_some_tokens : Addr
  d_some_tokens : FuncData
  F_some_tokens : Fun K "_law_some_tokens" "_law_some_tokens" s_some_tokens f_some_tokens d_some_tokens
  b_some_tokens : Binds K d_some_tokens ["_law_source_here"] []
  g_some_tokens : mg "_law_some_tokens" = some (.ref f_some_tokens)
  f_counts : Addr
  d_counts : FuncData
  F_counts : Fun K "_law_counts" "_law_counts" s_counts f_counts d_counts
  b_counts : Binds K d_counts ["_law_rows_here", "_law_tokens", "_law_limit"] []
  g_counts : mg "_law_counts" = some (.ref f_counts)
  f_sum : Addr
  d_sum : FuncData
  F_sum : Fun K "_law_sum" "_law_sum" s_sum f_sum d_sum
  b_sum : Binds K d_sum ["_law_widths", "_law_limit", "_law_counts_here"] []
  g_sum : mg "_law_sum" = some (.ref f_sum)
  f_all_ways : Addr
  d_all_ways : FuncData
  F_all_ways : Fun K "_law_all_ways" "_law_all_ways" s_all_ways f_all_ways d_all_ways
  b_all_ways : Binds K d_all_ways ["_law_widths", "_law_limit"] []
  g_all_ways : mg "_law_all_ways" = some (.ref f_all_ways)
  f_least_from : Addr
  d_least_from : FuncData
  F_least_from : Fun K "_law_least_from" "_law_least_from" s_least_from f_least_from d_least_from
  b_least_from : Binds K d_least_from ["_law_widths", "_law_limit"] []
  g_least_from : mg "_law_least_from" = some (.ref f_least_from)
  f_rows_are_least : Addr
  d_rows_are_least : FuncData
  F_rows_are_least : Fun K "_law_rows_are_least" "_law_rows_are_least" s_rows_are_least f_rows_are_least d_rows_are_least
  b_rows_are_least : Binds K d_rows_are_least ["_law_widths", "_law_limit", "_law_counts_here"] []
  g_rows_are_least : mg "_law_rows_are_least" = some (.ref f_rows_are_least)
  f_right : Addr
  d_right : FuncData
  F_right : Fun K "_law_right" "_law_right" s_right f_right d_right
  b_right : Binds K d_right ["_law_tokens", "_law_limit"] []
  g_right : mg "_law_right" = some (.ref f_right)
  f_law : Addr
  d_law : FuncData
  F_law : Fun K "law" "law" s_law f_law d_law
  b_law : Binds K d_law ["_law_script"] []
  g_law : mg "law" = some (.ref f_law)
  m_abs : mg "abs" = none
  m_bool : mg "bool" = none
  m_int : mg "int" = none
  m_isinstance : mg "isinstance" = none
  m_len : mg "len" = none
  m_list : mg "list" = none
  m_max : mg "max" = none
  m_min : mg "min" = none
  m_range : mg "range" = none
  m_reversed : mg "reversed" = none
  m_str : mg "str" = none
  m_sum : mg "sum" = none
  m_tuple : mg "tuple" = none
/-! ### heaps and sources -/
theorem un2 {k : Nat} {A : Around} (r : Room k A) : A.units + 65 < cLine := by have := r.un; omega
theorem same_upd {H : Hp} {p : Addr} {o : HO} (h : H p = none) : Same H (upd H p o) := fun b x e => by
  rw [upd_ne (ne_of_none e h)]
  exact e
/-- all but a stand as they stood -/
def But (a : Addr) (H H' : Hp) : Prop := ∀ b o, b ≠ a → H b = some o → H' b = some o
theorem But.refl (a : Addr) (H : Hp) : But a H H := fun _ _ _ e => e
theorem But.trans {a : Addr} {H H1 H2 : Hp} (x : But a H H1) (y : But a H1 H2) : But a H H2 := fun b o n e => y b o n (x b o n e)
theorem But.of {a : Addr} {H H1 : Hp} (x : Same H H1) : But a H H1 := fun b o _ e => x b o e
theorem But.upd {a : Addr} {H : Hp} (o : HO) : But a H (upd H a o) := fun b u n e => by
  rw [upd_ne n]
  exact e
/-- what changes is not there at first -/
theorem But.same {a : Addr} {H0 H H' : Hp} (n : H0 a = none) (s : Same H0 H) (x : But a H H') : Same H0 H' := fun b o e => x b o (ne_of_none e n) (s b o e)
/-- a source of numbers: three ints -/
def Src (H : Hp) (a : Addr) : Prop := ∃ g x c : Int, H a = some (.lst [.int g, .int x, .int c])
theorem cut_map (ns : List Int) (lo hi : Option Int) : ∃ ms : List Int, cutV (ns.map V.int) lo hi = ms.map V.int := by
  unfold cutV
  exact ⟨_, by rw [← List.map_drop, ← List.map_take]⟩
theorem at_of' {α : Type} {xs : List α} {z : Int} {j : Nat} {v : α} (e : z = (j : Int)) (h : xs[j]? = some v) : atI xs z = some v := by
  subst e
  exact atI_nat h
theorem str_len_snoc (z : Str) (c : Nat) : (z ++ (⟨#[c]⟩ : Str)).length = z.length + 1 := by
  show (z.cps ++ #[c]).size = z.cps.size + 1
  rw [Array.size_append]
  rfl
theorem But.none {a D : Addr} {H H3 : Hp} (x : But a H H3) (n : H3 D = .none) (h : D ≠ a) : H D = .none := by
  cases e : H D with
  | none => rfl
  | some o =>
    rw [x D o h e] at n
    cases n
theorem But.put {a D : Addr} {H H' : Hp} (x : But a H H') (n : H D = .none) (o : HO) : But a H (L2.upd H' D o) := fun b u nb e => by
  rw [upd_ne (ne_of_none e n)]
  exact x b u nb e
theorem Src.put {a D : Addr} {H : Hp} (x : Src H a) (n : a ≠ D) (o : HO) : Src (upd H D o) a := by
  obtain ⟨g, y, c, e⟩ := x
  exact ⟨g, y, c, by rw [upd_ne n]; exact e⟩
theorem Src.ne {a D : Addr} {H : Hp} (x : Src H a) (n : H D = .none) : a ≠ D := by
  obtain ⟨g, y, c, e⟩ := x
  exact ne_of_none e n
theorem get_map {xs : List Str} {i : Nat} {x : V} (h : (xs.map V.str)[i]? = some x) : ∃ z, x = .str z ∧ xs[i]? = some z := by
  rw [List.getElem?_map] at h
  cases e : xs[i]? with
  | none => rw [e] at h; cases h
  | some z => rw [e] at h; exact ⟨z, (Option.some.inj h).symm, rfl⟩
theorem get_mapR {xs : List Addr} {i : Nat} {x : V} (h : (xs.map V.ref)[i]? = some x) : ∃ z, x = .ref z ∧ z ∈ xs := by
  rw [List.getElem?_map] at h
  cases e : xs[i]? with
  | none => rw [e] at h; cases h
  | some z => rw [e] at h; exact ⟨z, (Option.some.inj h).symm, List.mem_of_getElem? e⟩
section
variable {X : Cx} {tg e : Expr} {w1 w2 : TI}
theorem pi_or (a : PI X tg e w1) (b : PI X tg e w2) : PI X tg e (fun σ H R => w1 σ H R ∨ w2 σ H R) :=
  ⟨fun pins s σ H R I h => h.elim (fun h => a.run pins s σ H R I h) (fun h => b.run pins s σ H R I h)⟩
theorem op_rep_str : OpR X (binaryOp .Mult) (fun x y H Q => ∃ z n, x = .str z ∧ y = .int n ∧ PySem.MulOk z n ∧ Q (.str (Txt.mul z n)) H) := by
  intro pins s σ H x y v u Q I rx ry h
  obtain ⟨z, n, rfl, rfl, hm, q⟩ := h
  obtain ⟨t, rfl⟩ := rx
  obtain ⟨t', rfl⟩ := ry
  exact PySem.SB.mul hm (fun t' tk => ⟨.str _, H, I.tok _, ⟨_, rfl⟩, q⟩)
end
theorem eq_strs {K : PySem.W.Frag} {H : Hp} : ∀ zs : List Str, Paired (EqV K H 1) (zs.map V.str) (zs.map V.str)
  | [] => .nil
  | z :: r => .cons (.inl ⟨rfl, rfl⟩) (eq_strs r)
theorem same_seqT {K : PySem.W.Frag} {H H' : Hp} {a : Addr} {xs : List V} (e : Same H H') (h : SqT K H a xs) : SqT K H' a xs :=
  h.elim (fun r => .inl (r.elim (fun e1 => .inl (e _ _ e1)) (fun ⟨o, e1⟩ => .inr ⟨o, e _ _ e1⟩))) .inr
theorem same_sq {K : PySem.W.Frag} {H H' : Hp} {a : Addr} {xs : List V} (e : Same H H') (h : SqL K H a xs ∨ SqT K H a xs) : SqL K H' a xs ∨ SqT K H' a xs :=
  h.elim (fun h => .inl (e.seq h)) (fun h => .inr (same_seqT e h))
theorem same_put {H H' : Hp} {b : Addr} (x : Same H H') (n : H b = .none) (o : HO) : Same H (upd H' b o) := fun c u e => by
  rw [upd_ne (ne_of_none e n)]
  exact x c u e
/-! ### the mathematics -/
def widL (l : List Nat) : Int := (l.length : Int) + cnt 109 l + cnt 119 l
def wid (z : Str) : Int := widL z.cps.toList
theorem wid_of (z : Str) : (z.length : Int) + Txt.count z "m" + Txt.count z "w" = wid z := by
  rw [show ("m" : Str) = ⟨#[109]⟩ from rfl, show ("w" : Str) = ⟨#[119]⟩ from rfl, count_cnt, count_cnt]
  rfl
theorem widL_snoc (l : List Nat) (c : Nat) : widL (l ++ [c]) = widL l + 1 + (if c = 109 ∨ c = 119 then 1 else 0) := by
  unfold widL
  rw [cnt_append, cnt_append, List.length_append, cnt_cons, cnt_cons, cnt_nil, cnt_nil]
  simp only [List.length_cons, List.length_nil]
  by_cases h1 : c = 109
  · subst h1; simp; omega
  · by_cases h2 : c = 119
    · subst h2; simp; omega
    · simp [h1, h2]; omega
def sumW : List Str → Int
  | [] => 0
  | z :: r => wid z + sumW r
theorem sumW_snoc (zs : List Str) (z : Str) : sumW (zs ++ [z]) = sumW zs + wid z := by
  induction zs with
  | nil => show wid z + 0 = 0 + wid z; omega
  | cons y r ih => show wid y + sumW (r ++ [z]) = wid y + sumW r + wid z; rw [ih]; omega
theorem widL_app (a b : List Nat) : widL (a ++ b) = widL a + widL b := by
  unfold widL
  rw [cnt_append, cnt_append, List.length_append]
  omega
theorem wid_app (a b : Str) : wid (a ++ b) = wid a + wid b := by
  unfold wid
  rw [show (a ++ b).cps.toList = a.cps.toList ++ b.cps.toList from cps_toList_append a b, widL_app]
theorem join_cc (sep x y : Str) (r : List Str) : Txt.join sep (x :: y :: r) = x ++ sep ++ Txt.join sep (y :: r) := by
  unfold Txt.join
  rw [StrLaws.glued_eq_join, StrLaws.glued_eq_join]
  rfl
theorem wid_join : ∀ zs : List Str, zs ≠ [] → wid (Txt.join " " zs) = sumW zs + (zs.length : Int) - 1
  | [], h => absurd rfl h
  | [x], _ => by
    show wid x = wid x + 0 + 1 - 1
    omega
  | x :: y :: r, _ => by
    have ih := wid_join (y :: r) (List.cons_ne_nil _ _)
    have e : Txt.join " " (x :: y :: r) = x ++ " " ++ Txt.join " " (y :: r) := join_cc " " x y r
    rw [e, wid_app, wid_app, ih]
    have e1 : wid " " = 1 := by decide +kernel
    rw [e1]
    show wid x + 1 + (sumW (y :: r) + ((y :: r).length : Int) - 1) = wid x + sumW (y :: r) + ((r.length + 1 + 1 : Nat) : Int) - 1
    simp only [List.length_cons]
    omega
theorem join_len : ∀ zs : List Str, (∀ z ∈ zs, z.length ≤ 20) → (Txt.join " " zs).length ≤ 21 * zs.length
  | [], _ => by decide +kernel
  | [x], h => by
    have := h x (List.mem_singleton.mpr rfl)
    show x.length ≤ 21 * 1
    omega
  | x :: y :: r, h => by
    have ih := join_len (y :: r) (fun z hz => h z (List.mem_cons_of_mem _ hz))
    have hx := h x (List.mem_cons_self ..)
    have e : Txt.join " " (x :: y :: r) = x ++ " " ++ Txt.join " " (y :: r) := join_cc " " x y r
    have l : ∀ a b : Str, (a ++ b).length = a.length + b.length := fun a b => by
      show (a.cps ++ b.cps).size = _
      rw [Array.size_append]; rfl
    rw [e, l, l]
    have e1 : (" " : Str).length = 1 := by decide +kernel
    rw [e1]
    simp only [List.length_cons] at ih ⊢
    omega
theorem sum_le (zs : List Str) (h : ∀ z ∈ zs, z.length ≤ 20) : (zs.map (·.length)).sum ≤ 20 * zs.length := by
  induction zs with
  | nil => exact Nat.le_refl _
  | cons z r ih =>
    have h1 := h z (List.mem_cons_self ..)
    have h2 := ih fun y hy => h y (List.mem_cons_of_mem _ hy)
    simp only [List.map_cons, List.sum_cons, List.length_cons]
    omega
theorem cnt_ge (c : Nat) : ∀ l : List Nat, 0 ≤ cnt c l ∧ cnt c l ≤ l.length
  | [] => ⟨Int.le_refl _, Int.le_refl _⟩
  | n :: r => by
    have ih := cnt_ge c r
    rw [cnt_cons, List.length_cons]
    split <;> omega
theorem wid_ge (z : Str) : (z.length : Int) ≤ wid z ∧ wid z ≤ 3 * z.length := by
  have h1 := cnt_ge 109 z.cps.toList
  have h2 := cnt_ge 119 z.cps.toList
  have e : wid z = (z.cps.toList.length : Int) + cnt 109 z.cps.toList + cnt 119 z.cps.toList := rfl
  have l : z.cps.toList.length = z.length := rfl
  omega
theorem sq2 (i : Int) : i ^ (2 : Int).toNat = i * i := by
  show i ^ 2 = i * i
  rw [Int.pow_succ, Int.pow_succ, Int.pow_zero, Int.one_mul]
theorem sIx_m1 (n : Nat) : HT.sIx n n (some (-1)) = n - 1 := by
  show ((-1 : Int) + (n : Int)).toNat = n - 1
  omega
theorem cut_last (xs : List V) : cutV xs none (some (-1)) = xs.dropLast := by
  unfold cutV
  rw [sIx_m1, HT.sIx_none, List.drop_zero, Nat.sub_zero, List.dropLast_eq_take]
theorem cut_one (ys : List V) (y : V) : cutV (ys ++ [y]) (some (-1)) none = [y] := by
  unfold cutV
  rw [show HT.sIx (ys ++ [y]).length 0 (some (-1)) = ys.length by
    show ((-1 : Int) + ((ys ++ [y]).length : Int)).toNat = ys.length
    rw [List.length_append, List.length_singleton]
    omega, HT.sIx_none, List.drop_left' rfl, List.length_append, List.length_singleton]
  rw [show ys.length + 1 - ys.length = 1 by omega]
  rfl
theorem mul_ok {z : Str} {n : Int} (hz : z.length ≤ 100) (h0 : -1000 ≤ n) (hn : n ≤ 1000) : PySem.MulOk z n := by
  have e : (2 : Int) ^ 63 = 9223372036854775808 := by decide
  refine ⟨?_, fun h1 _ h => ?_, fun h1 _ => ?_⟩
  · rw [decide_eq_false (by omega), decide_eq_false (by omega)]
    rfl
  · have : (100 : Int) ≤ (2 ^ 63 - 1) / n := Int.le_ediv_of_mul_le (by omega) (by omega)
    omega
  · have h2 : z.length * n.toNat ≤ 100 * 1000 := Nat.mul_le_mul hz (by omega)
    have e2 : sizeLine = 16777216 := by decide
    exact decide_eq_false (by omega)
theorem cut_take (xs : List V) (k : Nat) : cutV xs none (some (k : Int)) = xs.take k := by
  unfold cutV
  rw [HT.sIx_nat, HT.sIx_none, List.drop_zero, Nat.sub_zero, ← List.take_eq_take_min]
theorem len_app (x y : Str) : (x ++ y).length = x.length + y.length := by
  show (x.cps ++ y.cps).size = _
  rw [Array.size_append]; rfl
/-! ### cutting at the least cost: what the table holds -/
def better (b : Option (Int × Nat)) (c : Int) (k : Nat) : Option (Int × Nat) :=
  match b with
  | none => some (c, k)
  | some (d, j) => if c ≤ d then some (c, k) else some (d, j)
/-- u: what is used so far, k: tokens so far; the rest, the table behind its first one -/
def scan (W : Int) : Int → Nat → List Int → List (Int × Nat) → Option (Int × Nat) → Option (Int × Nat)
  | _, _, [], _, b => b
  | u, k, x :: r, t, b =>
    if W < u + 1 + x then b
    else scan W (u + 1 + x) (k + 1) r t.tail (better b (if r = [] then 0 else (W - (u + 1 + x)) * (W - (u + 1 + x)) + (t.headD (0, 0)).1) (k + 1))
theorem scan_cons (W u : Int) (k : Nat) (x : Int) (r : List Int) (t : List (Int × Nat)) (b : Option (Int × Nat)) : scan W u k (x :: r) t b =
    if W < u + 1 + x then b
    else scan W (u + 1 + x) (k + 1) r t.tail (better b (if r = [] then 0 else (W - (u + 1 + x)) * (W - (u + 1 + x)) + (t.headD (0, 0)).1) (k + 1)) := rfl
def dp (W : Int) : List Int → List (Int × Nat)
  | [] => []
  | x :: r => ((scan W (-1) 0 (x :: r) (dp W r) none).getD (0, 1)) :: dp W r
theorem dp_length (W : Int) : ∀ ws : List Int, (dp W ws).length = ws.length
  | [] => rfl
  | x :: r => by
    show (dp W r).length + 1 = r.length + 1
    rw [dp_length W r]
theorem dp_drop (W : Int) : ∀ (ws : List Int) (i : Nat), (dp W ws).drop i = dp W (ws.drop i)
  | ws, 0 => rfl
  | [], i + 1 => rfl
  | x :: r, i + 1 => dp_drop W r i
theorem better_some (b : Option (Int × Nat)) (c : Int) (k : Nat) : ∃ p, better b c k = some p := by
  unfold better
  split
  · exact ⟨_, rfl⟩
  · split <;> exact ⟨_, rfl⟩
theorem scan_some (W : Int) : ∀ (u : Int) (k : Nat) (l : List Int) (t : List (Int × Nat)) (p : Int × Nat), ∃ q, scan W u k l t (some p) = some q
  | _, _, [], _, p => ⟨p, rfl⟩
  | u, k, x :: r, t, p => by
    unfold scan
    split
    · exact ⟨p, rfl⟩
    · obtain ⟨q, e⟩ := better_some (some p) (if r = [] then 0 else (W - (u + 1 + x)) * (W - (u + 1 + x)) + (t.headD (0, 0)).1) (k + 1)
      rw [e]
      exact scan_some W _ _ r _ q
theorem scan_first (W : Int) (x : Int) (r : List Int) (t : List (Int × Nat)) (h : x ≤ W) : ∃ q, scan W (-1) 0 (x :: r) t none = some q := by
  unfold scan
  rw [if_neg (by omega)]
  exact scan_some W _ _ r _ _
theorem scan_take (W : Int) : ∀ (l : List Int) (u : Int) (k : Nat) (t : List (Int × Nat)) (b : Option (Int × Nat)) (c : Int) (m : Nat), scan W u k l t b = some (c, m) → (∃ d, b = some (d, m)) ∨ (k < m ∧ m ≤ k + l.length)
  | [], u, k, t, b, c, m, h => .inl ⟨c, h⟩
  | x :: r, u, k, t, b, c, m, h => by
    unfold scan at h
    generalize (if r = [] then (0 : Int) else (W - (u + 1 + x)) * (W - (u + 1 + x)) + (t.headD (0, 0)).1) = cc at h
    split at h
    · exact .inl ⟨c, h⟩
    · rcases scan_take W r _ _ _ _ c m h with ⟨d, e⟩ | ⟨h1, h2⟩
      · unfold better at e
        split at e
        · injection e with e
          injection e with _ e
          rw [List.length_cons]
          exact .inr ⟨by omega, by omega⟩
        · split at e
          · injection e with e
            injection e with _ e
            rw [List.length_cons]
            exact .inr ⟨by omega, by omega⟩
          · injection e with e
            exact .inl ⟨_, by rw [e]⟩
      · rw [List.length_cons]
        exact .inr ⟨by omega, by omega⟩
/-- takes are within their bounds -/
theorem dp_take (W : Int) (ws : List Int) (h : ∀ x ∈ ws, x ≤ W) (i : Nat) (p : Int × Nat) (e : (dp W ws)[i]? = some p) : 1 ≤ p.2 ∧ i + p.2 ≤ ws.length := by
  have hi : i < ws.length := by
    have := (List.getElem?_eq_some_iff.mp e).1
    rwa [dp_length] at this
  have e2 : ((dp W ws).drop i)[0]? = some p := by rw [List.getElem?_drop]; simpa using e
  rw [dp_drop] at e2
  cases hd : ws.drop i with
  | nil =>
    have := congrArg List.length hd
    rw [List.length_drop, List.length_nil] at this
    omega
  | cons x r =>
    have hl : ws.length - i = r.length + 1 := by
      have := congrArg List.length hd
      rwa [List.length_drop, List.length_cons] at this
    have hx : x ≤ W := h x (List.mem_of_mem_drop (by rw [hd]; exact List.mem_cons_self ..))
    rw [hd] at e2
    have e3 : (scan W (-1) 0 (x :: r) (dp W r) none).getD (0, 1) = p := Option.some.inj e2
    obtain ⟨⟨c, m⟩, eq⟩ := scan_first W x r (dp W r) hx
    rw [eq] at e3
    have e4 : (c, m) = p := e3
    subst e4
    rcases scan_take W (x :: r) _ _ _ _ c m eq with ⟨d, z⟩ | ⟨h1, h2⟩
    · cases z
    · rw [List.length_cons] at h2
      exact ⟨by omega, by omega⟩
theorem dp_at (W : Int) (ws : List Int) (i : Nat) (hi : i < ws.length) (hx : ws[i] ≤ W) : ∃ p, (dp W ws)[i]? = some p ∧ scan W (-1) 0 (ws.drop i) ((dp W ws).drop (i + 1)) none = some p := by
  have hd : ws.drop i = ws[i] :: ws.drop (i + 1) := List.drop_eq_getElem_cons hi
  obtain ⟨q, eq⟩ := scan_first W ws[i] (ws.drop (i + 1)) ((dp W ws).drop (i + 1)) hx
  rw [hd]
  refine ⟨q, ?_, eq⟩
  have e2 : ((dp W ws).drop i)[0]? = (dp W ws)[i]? := by rw [List.getElem?_drop]; rfl
  rw [← e2, dp_drop, hd]
  show some ((scan W (-1) 0 (ws[i] :: ws.drop (i + 1)) (dp W (ws.drop (i + 1))) none).getD (0, 1)) = some q
  rw [← dp_drop, eq]
  rfl
/-! ### the rows -/
def rows : List Str → List Nat → Nat → List Str
  | z :: zs, k :: ks, 0 => Txt.join " " ((z :: zs).take k) :: rows zs ks (k - 1)
  | _ :: zs, _ :: ks, s + 1 => rows zs ks s
  | _, _, _ => []
def cnts : List Nat → Nat → List Nat
  | k :: ks, 0 => k :: cnts ks (k - 1)
  | _ :: ks, s + 1 => cnts ks s
  | [], _ => []
theorem rows_skip : ∀ (zs : List Str) (ks : List Nat) (s : Nat), rows zs ks s = rows (zs.drop s) (ks.drop s) 0
  | zs, ks, 0 => rfl
  | [], ks, s + 1 => by
    rw [List.drop_nil]
    cases ks <;> cases (List.drop (s + 1) _) <;> rfl
  | z :: zs, [], s + 1 => by
    rw [List.drop_nil]
    show [] = rows (zs.drop s) [] 0
    cases zs.drop s <;> rfl
  | z :: zs, k :: ks, s + 1 => rows_skip zs ks s
theorem cnts_skip : ∀ (ks : List Nat) (s : Nat), cnts ks s = cnts (ks.drop s) 0
  | ks, 0 => rfl
  | [], s + 1 => rfl
  | k :: ks, s + 1 => cnts_skip ks s
theorem rows_step (zs : List Str) (ks : List Nat) (i k : Nat) (hz : i < zs.length) (hk : ks[i]? = some k) (h1 : 1 ≤ k) :
    rows (zs.drop i) (ks.drop i) 0 = Txt.join " " ((zs.drop i).take k) :: rows (zs.drop (i + k)) (ks.drop (i + k)) 0 := by
  have hi : i < ks.length := (List.getElem?_eq_some_iff.mp hk).1
  have ek : ks[i] = k := (List.getElem?_eq_some_iff.mp hk).2
  rw [List.drop_eq_getElem_cons hz, List.drop_eq_getElem_cons hi, ek]
  show Txt.join " " ((zs[i] :: zs.drop (i + 1)).take k) :: rows (zs.drop (i + 1)) (ks.drop (i + 1)) (k - 1) = _
  rw [rows_skip, List.drop_drop, List.drop_drop]
  rw [show i + 1 + (k - 1) = i + k by omega]
theorem cnts_step (ks : List Nat) (i k : Nat) (hk : ks[i]? = some k) (h1 : 1 ≤ k) : cnts (ks.drop i) 0 = k :: cnts (ks.drop (i + k)) 0 := by
  have hi : i < ks.length := (List.getElem?_eq_some_iff.mp hk).1
  have ek : ks[i] = k := (List.getElem?_eq_some_iff.mp hk).2
  rw [List.drop_eq_getElem_cons hi, ek]
  show k :: cnts (ks.drop (i + 1)) (k - 1) = _
  rw [cnts_skip, List.drop_drop]
  rw [show i + 1 + (k - 1) = i + k by omega]
theorem rows_end (ks : List Nat) : rows [] ks 0 = [] := by cases ks <;> rfl
def wids (zs : List Str) : List Int := zs.map wid
def takes (W : Int) (zs : List Str) : List Nat := (dp W (wids zs)).map (·.2)
/-- the rows in which tokens are set -/
def setL (W : Int) (zs : List Str) : List Str := rows zs (takes W zs) 0
theorem takes_len (W : Int) (zs : List Str) : (takes W zs).length = zs.length := by
  unfold takes wids
  rw [List.length_map, dp_length, List.length_map]
theorem takes_at (W : Int) (zs : List Str) (h : ∀ z ∈ zs, wid z ≤ W) (i : Nat) (hi : i < zs.length) : ∃ q : Int × Nat, (dp W (wids zs))[i]? = some q ∧ (takes W zs)[i]? = some q.2 ∧ 1 ≤ q.2 ∧ i + q.2 ≤ zs.length := by
  have hl : i < (dp W (wids zs)).length := by
    rw [dp_length]; unfold wids; rw [List.length_map]; exact hi
  have hw : ∀ x ∈ wids zs, x ≤ W := fun x hx => by
    obtain ⟨z, hz, rfl⟩ := List.mem_map.mp hx
    exact h z hz
  have hb := dp_take W (wids zs) hw i _ (List.getElem?_eq_getElem hl)
  refine ⟨(dp W (wids zs))[i], List.getElem?_eq_getElem hl, ?_, hb.1, ?_⟩
  · unfold takes
    rw [List.getElem?_map, List.getElem?_eq_getElem hl]
    rfl
  · have := hb.2
    unfold wids at this
    rwa [List.length_map] at this
theorem scan_next (W u : Int) (f j : Nat) (ws : List Int) (b : Option (Int × Nat)) (x : Int) (hx : ws[f + j]? = some x) (hn : ¬ W < u + 1 + x) :
    scan W u j (ws.drop (f + j)) ((dp W ws).drop (f + j + 1)) b = scan W (u + 1 + x) (j + 1) (ws.drop (f + (j + 1))) ((dp W ws).drop (f + (j + 1) + 1)) (better b (if f + j + 1 = ws.length then 0 else (W - (u + 1 + x)) * (W - (u + 1 + x)) + (((dp W ws)[f + j + 1]?).getD (0, 0)).1) (j + 1)) := by
  have hi : f + j < ws.length := (List.getElem?_eq_some_iff.mp hx).1
  have ex : ws[f + j] = x := (List.getElem?_eq_some_iff.mp hx).2
  rw [List.drop_eq_getElem_cons hi, ex, scan_cons]
  rw [if_neg hn, List.tail_drop, List.headD_eq_head?_getD, List.head?_drop]
  have e : (ws.drop (f + j + 1) = []) = (f + j + 1 = ws.length) := by
    apply propext
    rw [List.drop_eq_nil_iff]
    exact ⟨fun h => by omega, fun h => by omega⟩
  simp only [e]
  rfl
theorem scan_stop (W u : Int) (f j : Nat) (ws : List Int) (b : Option (Int × Nat)) (x : Int) (hx : ws[f + j]? = some x) (hn : W < u + 1 + x) :
    scan W u j (ws.drop (f + j)) ((dp W ws).drop (f + j + 1)) b = b := by
  have hi : f + j < ws.length := (List.getElem?_eq_some_iff.mp hx).1
  have ex : ws[f + j] = x := (List.getElem?_eq_some_iff.mp hx).2
  rw [List.drop_eq_getElem_cons hi, ex]
  unfold scan
  rw [if_pos hn]
theorem scan_out (W u : Int) (f j : Nat) (ws : List Int) (t : List (Int × Nat)) (b : Option (Int × Nat)) (h : f + j = ws.length) : scan W u j (ws.drop (f + j)) t b = b := by
  rw [h, List.drop_length]
  unfold scan
  rfl
def optV : Option (Int × Nat) → V
  | none => .non
  | some p => .int p.1
theorem flat_rep (n : Nat) (v : V) : (List.replicate n [v]).flatten = List.replicate n v := by
  induction n with
  | zero => rfl
  | succ n ih => rw [List.replicate_succ, List.flatten_cons, ih]; rfl
theorem rep_int (n : Nat) (v : Int) : List.replicate n (V.int v) = (List.replicate n v).map V.int := by rw [List.map_replicate]
theorem get_ints {xs : List Int} {i : Nat} {x : Int} (h : xs[i]? = some x) : (xs.map V.int)[i]? = some (.int x) := by
  rw [List.getElem?_map, h]
  rfl
theorem set_ints (xs : List Int) (i : Nat) (x : Int) : (xs.map V.int).set i (.int x) = (xs.set i x).map V.int := by rw [List.map_set]
theorem ixN_nat {n j : Nat} (h : j < n) : ixN n (j : Int) = some j := by
  unfold ixN
  rw [if_pos (by omega), if_pos (by omega)]
  rfl
theorem cut_mid (xs : List V) (i j : Nat) (h : i ≤ j) (hj : j ≤ xs.length) : cutV xs (some (i : Int)) (some (j : Int)) = (xs.drop i).take (j - i) := by
  unfold cutV
  rw [HT.sIx_nat, HT.sIx_nat, Nat.min_eq_left hj, Nat.min_eq_left (show i ≤ xs.length by omega)]
theorem pow_fit {u W : Int} (h0 : 0 ≤ W - u) (h1 : W - u ≤ 1000) : (W - u).natAbs < 2 ^ 64 := by
  have e : (2 : Nat) ^ 64 = 18446744073709551616 := by decide
  omega
def Fits (W : Int) (ws : List Int) : Prop := ∀ x ∈ ws, 0 ≤ x ∧ x ≤ W
theorem wids_snoc {zs : List Str} {i : Nat} {z : Str} (h : zs[i]? = some z) : wids (zs.take (i + 1)) = wids (zs.take i) ++ [wid z] := by
  unfold wids
  rw [List.take_add_one, h, List.map_append]
  rfl
theorem wids_all (zs : List Str) : wids (zs.take (zs.map V.str).length) = wids zs := by
  rw [List.length_map, List.take_length]
theorem fits_of {W : Int} {zs : List Str} (h : ∀ z ∈ zs, wid z ≤ W) : Fits W (wids zs) := fun x hx => by
  obtain ⟨z, hz, rfl⟩ := List.mem_map.mp hx
  have := wid_ge z
  exact ⟨by omega, h z hz⟩
theorem cut_strs (zs : List Str) (i k : Nat) (h : i + k ≤ zs.length) : cutV (zs.map V.str) (some (i : Int)) (some ((i : Int) + (k : Int))) = ((zs.drop i).take k).map V.str := by
  rw [show (i : Int) + (k : Int) = ((i + k : Nat) : Int) by omega, cut_mid _ i (i + k) (by omega) (by rw [List.length_map]; exact h), ← List.map_drop, ← List.map_take]
  rw [show i + k - i = k by omega]
theorem join_fit (zs : List Str) (h : ∀ z ∈ zs, z.length ≤ 1000) (hl : zs.length ≤ 1000) : (zs.map (·.length)).sum + zs.length * (" " : Str).length ≤ 16777216 := by
  have e1 : (" " : Str).length = 1 := by decide +kernel
  have : (zs.map (·.length)).sum ≤ 1000 * zs.length := by
    clear hl
    induction zs with
    | nil => exact Nat.le_refl _
    | cons z r ih =>
      have h1 := h z (List.mem_cons_self ..)
      have h2 := ih fun y hy => h y (List.mem_cons_of_mem _ hy)
      simp only [List.map_cons, List.sum_cons, List.length_cons]
      omega
  rw [e1]
  omega
theorem sum_nat_int (ks : List Nat) : (ks.map fun k : Nat => (k : Int)).sum = ((ks.sum : Nat) : Int) := by
  induction ks with
  | nil => rfl
  | cons k r ih =>
    rw [List.map_cons, List.sum_cons, List.sum_cons, ih]
    omega
theorem ints_nats (ks : List Nat) : (ks.map fun k => V.int (k : Nat)) = (ks.map fun k : Nat => (k : Int)).map V.int := by
  rw [List.map_map]
  rfl
/-! ### == of rows of texts and of numbers -/
theorem dp_strs {K : PySem.W.Frag} {H : Hp} : ∀ zs : List Str, DpAll K H (zs.map V.str) (zs.map PyData.str)
  | [] => .nil
  | z :: r => .cons (.str z) (dp_strs r)
theorem dp_ints {K : PySem.W.Frag} {H : Hp} : ∀ zs : List Int, DpAll K H (zs.map V.int) (zs.map PyData.int)
  | [] => .nil
  | z :: r => .cons (.int z) (dp_ints r)
theorem can_strs : ∀ zs : List Str, (∀ z ∈ zs, PyData.strOk z = true) → PyData.canLayAll0 (zs.map PyData.str) = true
  | [], _ => rfl
  | z :: r, h => by
    show (PyData.strOk z && PyData.canLayAll0 (r.map PyData.str)) = true
    rw [can_strs r fun y hy => h y (List.mem_cons_of_mem _ hy), Bool.and_true]
    exact h z (List.mem_cons_self ..)
theorem can_ints : ∀ zs : List Int, PyData.canLayAll0 (zs.map PyData.int) = true
  | [] => rfl
  | z :: r => by
    show (true && PyData.canLayAll0 (r.map PyData.int)) = true
    rw [can_ints r]
    rfl
theorem depth_strs : ∀ zs : List Str, PyData.depthAll (zs.map PyData.str) = 0
  | [] => rfl
  | z :: r => by
    show max 0 (PyData.depthAll (r.map PyData.str)) = 0
    rw [depth_strs r]
    rfl
theorem depth_ints : ∀ zs : List Int, PyData.depthAll (zs.map PyData.int) = 0
  | [] => rfl
  | z :: r => by
    show max 0 (PyData.depthAll (r.map PyData.int)) = 0
    rw [depth_ints r]
    rfl
theorem shaped_l (zs : List Str) (h : ∀ z ∈ zs, PyData.strOk z = true) : SeqAt.shaped (.list (zs.map PyData.str)) = true := by
  unfold SeqAt.shaped
  rw [Bool.and_eq_true]
  refine ⟨can_strs zs h, decide_eq_true ?_⟩
  show PyData.depthAll (zs.map PyData.str) + 1 ≤ 64
  rw [depth_strs]
  decide
theorem shaped_t (zs : List Str) (h : ∀ z ∈ zs, PyData.strOk z = true) : SeqAt.shaped (.tuple (zs.map PyData.str)) = true := by
  unfold SeqAt.shaped
  rw [Bool.and_eq_true]
  refine ⟨can_strs zs h, decide_eq_true ?_⟩
  show PyData.depthAll (zs.map PyData.str) + 1 ≤ 64
  rw [depth_strs]
  decide
theorem shaped_il (zs : List Int) : SeqAt.shaped (.list (zs.map PyData.int)) = true := by
  unfold SeqAt.shaped
  rw [Bool.and_eq_true]
  refine ⟨can_ints zs, decide_eq_true ?_⟩
  show PyData.depthAll (zs.map PyData.int) + 1 ≤ 64
  rw [depth_ints]
  decide
theorem shaped_it (zs : List Int) : SeqAt.shaped (.tuple (zs.map PyData.int)) = true := by
  unfold SeqAt.shaped
  rw [Bool.and_eq_true]
  refine ⟨can_ints zs, decide_eq_true ?_⟩
  show PyData.depthAll (zs.map PyData.int) + 1 ≤ 64
  rw [depth_ints]
  decide
theorem eqv_strs : ∀ xs ys : List Str, PyData.eqvAll (xs.map PyData.str) (ys.map PyData.str) = decide (xs = ys)
  | [], [] => rfl
  | [], y :: s => rfl
  | x :: r, [] => rfl
  | x :: r, y :: s => by
    show ((x == y) && PyData.eqvAll (r.map PyData.str) (s.map PyData.str)) = decide (x :: r = y :: s)
    rw [eqv_strs r s]
    by_cases h : x = y
    · subst h
      simp
    · simp [h]
theorem eqv_ints : ∀ xs ys : List Int, PyData.eqvAll (xs.map PyData.int) (ys.map PyData.int) = decide (xs = ys)
  | [], [] => rfl
  | [], y :: s => rfl
  | x :: r, [] => rfl
  | x :: r, y :: s => by
    show ((x == y) && PyData.eqvAll (r.map PyData.int) (s.map PyData.int)) = decide (x :: r = y :: s)
    rw [eqv_ints r s]
    by_cases h : x = y
    · subst h
      simp
    · simp [h]
theorem ok_app (a b : Str) (ha : PyData.strOk a = true) (hb : PyData.strOk b = true) : PyData.strOk (a ++ b) = true := by
  show (a.cps ++ b.cps).all (· < 0x110000) = true
  rw [Array.all_append]
  exact Bool.and_eq_true_iff.mpr ⟨ha, hb⟩
theorem ok_join : ∀ zs : List Str, (∀ z ∈ zs, PyData.strOk z = true) → PyData.strOk (Txt.join " " zs) = true
  | [], _ => by decide +kernel
  | [x], h => h x (List.mem_singleton.mpr rfl)
  | x :: y :: r, h => by
    rw [join_cc]
    exact ok_app _ _ (ok_app _ _ (h x (List.mem_cons_self ..)) (by decide +kernel)) (ok_join (y :: r) fun z hz => h z (List.mem_cons_of_mem _ hz))
theorem rows_ok : ∀ (zs : List Str) (ks : List Nat) (s : Nat), (∀ z ∈ zs, PyData.strOk z = true) → ∀ r ∈ rows zs ks s, PyData.strOk r = true
  | z :: zs, k :: ks, 0, h, r, hr => by
    have hr' : r ∈ Txt.join " " ((z :: zs).take k) :: rows zs ks (k - 1) := hr
    rcases List.mem_cons.mp hr' with e | e
    · rw [e]
      exact ok_join _ fun y hy => h y (List.mem_of_mem_take hy)
    · exact rows_ok zs ks (k - 1) (fun y hy => h y (List.mem_cons_of_mem _ hy)) r e
  | z :: zs, k :: ks, s + 1, h, r, hr => rows_ok zs ks s (fun y hy => h y (List.mem_cons_of_mem _ hy)) r hr
  | [], ks, s, h, r, hr => by
    cases ks <;> cases s <;> cases hr
  | z :: zs, [], s, h, r, hr => by
    cases s <;> cases hr
theorem setL_ok {W : Int} {zs : List Str} (h : ∀ z ∈ zs, PyData.strOk z = true) : ∀ r ∈ setL W zs, PyData.strOk r = true := rows_ok zs _ 0 h
theorem ok_mul1 {c : Nat} {n : Int} {N : Nat} (hc : c < 0x110000) (hn : n ≤ (N : Int)) : (Txt.mul ⟨#[c]⟩ n).length ≤ N ∧ PyData.strOk (Txt.mul ⟨#[c]⟩ n) = true := by
  refine ⟨len_mul_one rfl hn, ?_⟩
  have e := mul_one_list c n
  show (Txt.mul ⟨#[c]⟩ n).cps.all (· < 0x110000) = true
  rw [← Array.all_toList, e, List.all_eq_true]
  intro x hx
  rw [(List.mem_replicate.mp hx).2]
  exact decide_eq_true hc
theorem cnt2 : ∀ l : List Nat, cnt 109 l + cnt 119 l ≤ l.length
  | [] => Int.le_refl _
  | n :: r => by
    have ih := cnt2 r
    rw [cnt_cons, cnt_cons, List.length_cons]
    by_cases h : n = 109
    · subst h; simp; omega
    · by_cases h2 : n = 119
      · subst h2; simp; omega
      · simp [h, h2]; omega
theorem wid_le2 (z : Str) : wid z ≤ 2 * z.length := by
  have h := cnt2 z.cps.toList
  have e : wid z = (z.cps.toList.length : Int) + cnt 109 z.cps.toList + cnt 119 z.cps.toList := rfl
  have l : z.cps.toList.length = z.length := rfl
  omega
theorem sign_ok (t : Str) (h : t.cps.toList.all (· < 0x110000) = true) {c : Nat} (hc : c ∈ t.cps.toList) : c < 0x110000 := of_decide_eq_true (List.all_eq_true.mp h c hc)
/-! ### the table holds the least -/
/-- what j more tokens bring the row to -/
def upto (u : Int) (l : List Int) (j : Nat) : Int := u + j + (l.take j).sum
/-- what a row of j more tokens costs, with the rest behind it -/
def cand (W u : Int) (l : List Int) (t : List (Int × Nat)) (j : Nat) : Int :=
  if l.drop j = [] then 0 else (W - upto u l j) * (W - upto u l j) + ((t.drop (j - 1)).headD (0, 0)).1
def Can (W u : Int) (l : List Int) (j : Nat) : Prop := 1 ≤ j ∧ j ≤ l.length ∧ upto u l j ≤ W
theorem upto_cons (u x : Int) (l : List Int) (j : Nat) : upto u (x :: l) (j + 1) = upto (u + 1 + x) l j := by
  unfold upto
  rw [List.take_succ_cons, List.sum_cons]
  omega
theorem cand_cons (W u x : Int) (l : List Int) (t : List (Int × Nat)) (j : Nat) (hj : 1 ≤ j) : cand W u (x :: l) t (j + 1) = cand W (u + 1 + x) l t.tail j := by
  unfold cand
  rw [upto_cons, List.drop_succ_cons, ← List.drop_one, List.drop_drop]
  rw [show 1 + (j - 1) = j + 1 - 1 by omega]
theorem sum_nonneg : ∀ {l : List Int}, (∀ x ∈ l, 0 ≤ x) → 0 ≤ l.sum
  | [], _ => Int.le_refl _
  | x :: r, h => by
    have h1 := h x (List.mem_cons_self ..)
    have h2 := sum_nonneg (l := r) fun y hy => h y (List.mem_cons_of_mem _ hy)
    rw [List.sum_cons]
    omega
theorem can_cons {W u x : Int} {l : List Int} {j : Nat} (h : Can W u (x :: l) (j + 1)) (hj : 1 ≤ j) : Can W (u + 1 + x) l j :=
  ⟨hj, by have := h.2.1; rw [List.length_cons] at this; omega, by rw [← upto_cons]; exact h.2.2⟩
theorem can_up {W u x : Int} {l : List Int} {j : Nat} (h : Can W (u + 1 + x) l j) : Can W u (x :: l) (j + 1) :=
  ⟨by omega, by rw [List.length_cons]; have := h.2.1; omega, by rw [upto_cons]; exact h.2.2⟩
theorem cand_one (W u x : Int) (l : List Int) (t : List (Int × Nat)) : cand W u (x :: l) t 1 = (if l = [] then 0 else (W - (u + 1 + x)) * (W - (u + 1 + x)) + (t.headD (0, 0)).1) := by
  unfold cand upto
  simp
theorem scan_is (W : Int) : ∀ (l : List Int) (u : Int) (k : Nat) (t : List (Int × Nat)) (b : Option (Int × Nat)) (c : Int) (m : Nat), (∀ x ∈ l, 0 ≤ x) → scan W u k l t b = some (c, m) →
    (b = some (c, m) ∧ ∀ j, Can W u l j → c < cand W u l t j) ∨
    (∃ j, Can W u l j ∧ m = k + j ∧ c = cand W u l t j ∧ (∀ d, b = some d → c ≤ d.1) ∧ ∀ j', Can W u l j' → c ≤ cand W u l t j' ∧ (j < j' → c < cand W u l t j'))
  | [], u, k, t, b, c, m, _, h => .inl ⟨h, fun j hj => by have := hj.1; have := hj.2.1; simp at this; omega⟩
  | x :: r, u, k, t, b, c, m, hp, h => by
    rw [scan_cons] at h
    have hr : ∀ y ∈ r, 0 ≤ y := fun y hy => hp y (List.mem_cons_of_mem _ hy)
    split at h
    · rename_i hW
      refine .inl ⟨h, fun j hj => ?_⟩
      exfalso
      obtain ⟨h1, h2, h3⟩ := hj
      obtain ⟨i, rfl⟩ : ∃ i, j = i + 1 := ⟨j - 1, by omega⟩
      rw [upto_cons] at h3
      unfold upto at h3
      have := sum_nonneg (l := r.take i) fun y hy => hr y (List.mem_of_mem_take hy)
      omega
    · rename_i hW
      rw [← cand_one W u x r t] at h
      have c1 : Can W u (x :: r) 1 := ⟨Nat.le_refl _, by rw [List.length_cons]; omega, by unfold upto; simp; omega⟩
      have ih := scan_is W r (u + 1 + x) (k + 1) t.tail _ c m hr h
      have two : ∀ j, Can W u (x :: r) j → j = 1 ∨ ∃ i, j = i + 1 ∧ 1 ≤ i ∧ Can W (u + 1 + x) r i ∧ cand W u (x :: r) t j = cand W (u + 1 + x) r t.tail i := fun j hj => by
        by_cases e : j = 1
        · exact .inl e
        · obtain ⟨i, rfl⟩ : ∃ i, j = i + 1 := ⟨j - 1, by have := hj.1; omega⟩
          have hi : 1 ≤ i := by have := hj.1; omega
          exact .inr ⟨i, rfl, hi, can_cons hj hi, cand_cons _ _ _ _ _ _ hi⟩
      rcases ih with ⟨hb, hall⟩ | ⟨j, hj, hm, hc, hbd, hall⟩
      · -- the best so far stays
        have newc : c = cand W u (x :: r) t 1 → m = k + 1 → (∀ d, b = some d → c ≤ d.1) → (b = some (c, m) ∧ ∀ j, Can W u (x :: r) j → c < cand W u (x :: r) t j) ∨
            (∃ j, Can W u (x :: r) j ∧ m = k + j ∧ c = cand W u (x :: r) t j ∧ (∀ d, b = some d → c ≤ d.1) ∧ ∀ j', Can W u (x :: r) j' → c ≤ cand W u (x :: r) t j' ∧ (j < j' → c < cand W u (x :: r) t j')) := fun e1 e2 e3 => .inr ⟨1, c1, e2, e1, e3, fun j' hj' => by
          rcases two j' hj' with e | ⟨i, rfl, hi, ci, ce⟩
          · subst e
            exact ⟨by omega, fun h => absurd h (by omega)⟩
          · have := hall i ci
            rw [ce]
            exact ⟨by omega, fun _ => this⟩⟩
        cases b with
        | none =>
          injection hb with hb
          injection hb with h1 h2
          exact newc h1.symm (by omega) (fun d hd => nomatch hd)
        | some d =>
          unfold better at hb
          simp only at hb
          split at hb
          · rename_i hle
            injection hb with hb
            injection hb with h1 h2
            exact newc h1.symm (by omega) (fun d' hd => by injection hd with hd; rw [← hd]; omega)
          · rename_i hle
            refine .inl ⟨hb, fun j hj => ?_⟩
            injection hb with hb
            have hd : d.1 = c := congrArg Prod.fst hb
            rcases two j hj with e | ⟨i, rfl, hi, ci, ce⟩
            · subst e
              omega
            · rw [ce]
              exact hall i ci
      · refine .inr ⟨j + 1, can_up hj, by omega, by rw [cand_cons _ _ _ _ _ _ hj.1]; exact hc, fun d hd => ?_, fun j' hj' => ?_⟩
        · subst hd
          obtain ⟨⟨d1, d2⟩, e⟩ := better_some (some d) (cand W u (x :: r) t 1) (k + 1)
          have := hbd _ e
          unfold better at e
          simp only at e
          split at e
          · injection e with e
            injection e with h1 h2
            show c ≤ d.1
            have h3 : c ≤ d1 := this
            omega
          · injection e with e
            have e5 : d.1 = d1 := congrArg Prod.fst e
            rw [e5]
            exact this
        · rcases two j' hj' with e | ⟨i, rfl, hi, ci, ce⟩
          · subst e
            refine ⟨?_, fun h => absurd h (by omega)⟩
            obtain ⟨⟨d1, d2⟩, e⟩ := better_some b (cand W u (x :: r) t 1) (k + 1)
            have h3 : c ≤ d1 := hbd _ e
            unfold better at e
            split at e
            · injection e with e
              injection e with h1 h2
              omega
            · split at e
              · injection e with e
                injection e with h1 h2
                omega
              · rename_i hle
                injection e with e
                injection e with h1 h2
                omega
          · rw [ce]
            have := hall i ci
            exact ⟨this.1, fun h => this.2 (by omega)⟩
/-! ### the cuts of a row -/
def usedW (ws : List Int) (k : Nat) : Int := upto (-1) ws k
/-- cuts into rows of k1, k2, .. tokens, none wider than W; c: the lacks squared, the last row's aside -/
inductive Way (W : Int) : List Int → List Nat → Int → Prop
  | nil : Way W [] [] 0
  | cons {ws : List Int} {k : Nat} {ks : List Nat} {c : Int} (h : Can W (-1) ws k) (r : Way W (ws.drop k) ks c) : Way W ws (k :: ks) ((if ws.drop k = [] then 0 else (W - usedW ws k) * (W - usedW ws k)) + c)
def dpc (W : Int) (ws : List Int) : Int := ((dp W ws).headD (0, 0)).1
def dpk (W : Int) (ws : List Int) : List Nat := cnts ((dp W ws).map (·.2)) 0
theorem dpc_nil (W : Int) : dpc W [] = 0 := rfl
theorem dpk_nil (W : Int) : dpk W [] = [] := rfl
theorem cand_dp (W : Int) (x : Int) (r : List Int) (j : Nat) (hj : 1 ≤ j) : cand W (-1) (x :: r) (dp W r) j = (if (x :: r).drop j = [] then 0 else (W - usedW (x :: r) j) * (W - usedW (x :: r) j)) + dpc W ((x :: r).drop j) := by
  obtain ⟨i, rfl⟩ : ∃ i, j = i + 1 := ⟨j - 1, by omega⟩
  unfold cand usedW dpc
  rw [show i + 1 - 1 = i by omega, dp_drop, List.drop_succ_cons]
  split
  · rename_i e
    rw [e]
    rfl
  · rfl
/-- what the table holds for a row that starts here -/
theorem dp_is {W : Int} {x : Int} {r : List Int} (h : ∀ y ∈ x :: r, 0 ≤ y ∧ y ≤ W) : ∃ m, Can W (-1) (x :: r) m ∧ dpk W (x :: r) = m :: dpk W ((x :: r).drop m) ∧
    dpc W (x :: r) = (if (x :: r).drop m = [] then 0 else (W - usedW (x :: r) m) * (W - usedW (x :: r) m)) + dpc W ((x :: r).drop m) ∧
    (dp W (x :: r)).head? = some (dpc W (x :: r), m) ∧
    ∀ j, Can W (-1) (x :: r) j → dpc W (x :: r) ≤ (if (x :: r).drop j = [] then 0 else (W - usedW (x :: r) j) * (W - usedW (x :: r) j)) + dpc W ((x :: r).drop j) ∧
      (m < j → dpc W (x :: r) < (if (x :: r).drop j = [] then 0 else (W - usedW (x :: r) j) * (W - usedW (x :: r) j)) + dpc W ((x :: r).drop j)) := by
  obtain ⟨⟨c, m⟩, eq⟩ := scan_first W x r (dp W r) (h x (List.mem_cons_self ..)).2
  have e0 : dp W (x :: r) = (c, m) :: dp W r := by
    show ((scan W (-1) 0 (x :: r) (dp W r) none).getD (0, 1)) :: dp W r = _
    rw [eq]
    rfl
  have ec : dpc W (x :: r) = c := by unfold dpc; rw [e0]; rfl
  rcases scan_is W (x :: r) (-1) 0 (dp W r) none c m (fun y hy => (h y hy).1) eq with ⟨z, _⟩ | ⟨j, hj, hm, hc, _, hall⟩
  · cases z
  · have em : m = j := by omega
    subst em
    refine ⟨m, hj, ?_, ?_, by rw [e0, ec]; rfl, fun j' hj' => ?_⟩
    · unfold dpk
      rw [e0, List.map_cons]
      show m :: cnts ((dp W r).map (·.2)) (m - 1) = _
      rw [cnts_skip, ← List.map_drop, dp_drop]
      obtain ⟨i, rfl⟩ : ∃ i, m = i + 1 := ⟨m - 1, by have := hj.1; omega⟩
      rfl
    · rw [ec, hc, cand_dp _ _ _ _ hj.1]
    · have := hall j' hj'
      rw [cand_dp _ _ _ _ hj'.1] at this
      rw [ec]
      exact this
theorem dpk_way {W : Int} : ∀ (n : Nat) (ws : List Int), ws.length ≤ n → (∀ y ∈ ws, 0 ≤ y ∧ y ≤ W) → Way W ws (dpk W ws) (dpc W ws)
  | _, [], _, _ => .nil
  | 0, x :: r, hn, _ => by simp at hn
  | n + 1, x :: r, hn, h => by
    obtain ⟨m, hm, hk, hc, _, _⟩ := dp_is h
    rw [hk, hc]
    refine .cons hm (dpk_way n _ ?_ fun y hy => h y (List.mem_of_mem_drop hy))
    rw [List.length_drop]
    have := hm.1
    omega
/-- the first where they differ is greater, or the other ends first -/
def Gt : List Nat → List Nat → Prop
  | [], _ => False
  | _ :: _, [] => True
  | a :: r, b :: s => b < a ∨ (a = b ∧ Gt r s)
theorem way_least {W : Int} : ∀ (n : Nat) (ws : List Int) (ks : List Nat) (c : Int), ws.length ≤ n → (∀ y ∈ ws, 0 ≤ y ∧ y ≤ W) → Way W ws ks c → dpc W ws ≤ c ∧ (c = dpc W ws → ¬ Gt ks (dpk W ws))
  | _, [], ks, c, _, _, hw => by
    cases hw with
    | nil => exact ⟨Int.le_refl _, fun _ h => h⟩
    | cons h _ => have h1 := h.1; have h2 := h.2.1; rw [List.length_nil] at h2; omega
  | 0, x :: r, _, _, hn, _, _ => by simp at hn
  | n + 1, x :: r, ks, c, hn, h, hw => by
    obtain ⟨m, hm, hk, hc, _, hall⟩ := dp_is h
    cases hw with
    | @cons _ k ks c' hcan hr =>
      have hd : ((x :: r).drop k).length ≤ n := by
        rw [List.length_drop]
        have := hcan.1
        omega
      have ih := way_least n _ ks c' hd (fun y hy => h y (List.mem_of_mem_drop hy)) hr
      have ha := hall k hcan
      refine ⟨by omega, fun e hg => ?_⟩
      rw [hk] at hg
      have e2 : c' = dpc W ((x :: r).drop k) := by omega
      rcases hg with hg | ⟨hg, hg2⟩
      · have := ha.2 hg
        omega
      · subst hg
        exact ih.2 e2 hg2
theorem upto_succ (u : Int) (l : List Int) (j : Nat) (x : Int) (h : l[j]? = some x) : upto u l (j + 1) = upto u l j + 1 + x := by
  unfold upto
  rw [List.take_add_one, h, List.sum_append]
  simp
  omega
theorem upto_mono {u : Int} {l : List Int} (hp : ∀ x ∈ l, 0 ≤ x) (j : Nat) : ∀ d : Nat, upto u l j ≤ upto u l (j + d)
  | 0 => Int.le_refl _
  | d + 1 => by
    have ih := upto_mono hp j d (u := u)
    cases e : l[j + d]? with
    | none =>
      have : l.take (j + d + 1) = l.take (j + d) := by rw [List.take_add_one, e]; simp
      unfold upto at ih ⊢
      rw [← Nat.add_assoc, this]
      omega
    | some x =>
      have h1 := hp x (List.mem_of_getElem? e)
      rw [← Nat.add_assoc, upto_succ u l (j + d) x e]
      omega
/-- what a first row of k tokens costs, with the least behind it -/
def candc (W : Int) (l : List Int) (k : Nat) : Int := (if l.drop k = [] then 0 else (W - usedW l k) * (W - usedW l k)) + dpc W (l.drop k)
theorem way_len {W : Int} : ∀ {ws : List Int} {ks : List Nat} {c : Int}, Way W ws ks c → ks.length ≤ ws.length
  | _, _, _, .nil => Nat.le_refl _
  | _, _, _, .cons h r => by
    have ih := way_len r
    rw [List.length_drop] at ih
    have h1 := h.1
    have h2 := h.2.1
    rw [List.length_cons]
    omega
def cost (w : Int) : List Str → Int
  | [] => 0
  | z :: r => (w - wid z) * (w - wid z) + cost w r
theorem cost_snoc (w : Int) (zs : List Str) (z : Str) : cost w (zs ++ [z]) = cost w zs + (w - wid z) * (w - wid z) := by
  induction zs with
  | nil => show (w - wid z) * (w - wid z) + 0 = 0 + _; omega
  | cons y r ih => show _ + cost w (r ++ [z]) = _ + cost w r + _; rw [ih, ← Int.add_assoc]
theorem pow_ok {w : Int} {z : Str} (h1 : 0 ≤ w) (h2 : w ≤ 100) (hz : z.length ≤ 100) : (w - wid z).natAbs < 2 ^ 64 := by
  have := wid_ge z
  have e : (2 : Nat) ^ 64 = 18446744073709551616 := by decide
  omega
/-! ### the rows as chunks -/
def chunk (zs : List Str) : List Nat → List (List Str)
  | [] => []
  | k :: ks => zs.take k :: chunk (zs.drop k) ks
theorem chunk_len : ∀ (ks : List Nat) (zs : List Str), (chunk zs ks).length = ks.length
  | [], _ => rfl
  | k :: ks, zs => congrArg (· + 1) (chunk_len ks _)
theorem wids_drop (zs : List Str) (k : Nat) : (wids zs).drop k = wids (zs.drop k) := by unfold wids; rw [List.map_drop]
theorem wids_take (zs : List Str) (k : Nat) : (wids zs).take k = wids (zs.take k) := by unfold wids; rw [List.map_take]
theorem wids_len (zs : List Str) : (wids zs).length = zs.length := List.length_map ..
theorem sum_wids : ∀ zs : List Str, (wids zs).sum = sumW zs
  | [] => rfl
  | z :: r => by
    show (wid z :: wids r).sum = wid z + sumW r
    rw [List.sum_cons, sum_wids r]
/-- each row of a cut: its tokens, its width -/
theorem way_chunks {W : Int} : ∀ {ws : List Int} {ks : List Nat} {c : Int}, Way W ws ks c → ∀ zs : List Str, ws = wids zs →
    (chunk zs ks).flatten = zs ∧ (∀ ch ∈ chunk zs ks, ch ≠ [] ∧ wid (Txt.join " " ch) ≤ W) ∧ (chunk zs ks).map (·.length) = ks ∧ cost W (((chunk zs ks).map (Txt.join " ")).dropLast) = c
  | _, _, _, .nil, zs, e => by
    have : zs = [] := by
      cases zs with
      | nil => rfl
      | cons z r => cases e
    subst this
    exact ⟨rfl, (fun _ h => nomatch h), rfl, rfl⟩
  | ws, _, _, @Way.cons _ _ k ks c h r, zs, e => by
    subst e
    rw [wids_drop] at r
    obtain ⟨i1, i2, i3, i4⟩ := way_chunks r (zs.drop k) rfl
    obtain ⟨h1, h2, h3⟩ := h
    rw [wids_len] at h2
    have hl : (zs.take k).length = k := by rw [List.length_take]; omega
    have hne : zs.take k ≠ [] := fun e => by rw [e] at hl; simp at hl; omega
    have hw : wid (Txt.join " " (zs.take k)) = usedW (wids zs) k := by
      rw [wid_join _ hne, hl]
      unfold usedW upto
      rw [wids_take, sum_wids]
      omega
    refine ⟨?_, ?_, ?_, ?_⟩
    · show zs.take k ++ (chunk (zs.drop k) ks).flatten = zs
      rw [i1, List.take_append_drop]
    · intro ch hch
      rcases List.mem_cons.mp hch with e | e
      · rw [e]
        exact ⟨hne, by rw [hw]; exact h3⟩
      · exact i2 ch e
    · show (zs.take k).length :: (chunk (zs.drop k) ks).map (·.length) = k :: ks
      rw [i3, hl]
    · show cost W ((Txt.join " " (zs.take k) :: (chunk (zs.drop k) ks).map (Txt.join " ")).dropLast) = _
      rw [wids_drop]
      cases hz : zs.drop k with
      | nil =>
        rw [hz] at r
        cases r with
        | nil => rfl
        | cons hh _ =>
          have ha := hh.1
          have hb := hh.2.1
          rw [wids_len, List.length_nil] at hb
          omega
      | cons y s =>
        rw [hz] at r i4
        rw [if_neg (by show ¬ wid y :: wids s = []; exact List.cons_ne_nil _ _)]
        cases r with
        | @cons _ k' ks' c' hh rr =>
          show cost W (Txt.join " " (zs.take k) :: ((chunk (y :: s) (k' :: ks')).map (Txt.join " ")).dropLast) = _
          show (W - wid (Txt.join " " (zs.take k))) * (W - wid (Txt.join " " (zs.take k))) + cost W (((chunk (y :: s) (k' :: ks')).map (Txt.join " ")).dropLast) = _
          rw [hw, i4]
theorem setL_chunk {W : Int} : ∀ (n : Nat) (zs : List Str), zs.length ≤ n → (∀ y ∈ wids zs, 0 ≤ y ∧ y ≤ W) → setL W zs = (chunk zs (dpk W (wids zs))).map (Txt.join " ")
  | _, [], _, _ => rfl
  | 0, z :: r, h, _ => by simp at h
  | n + 1, z :: r, hn, h => by
    obtain ⟨m, hm, hk, _, hd, _⟩ := dp_is (x := wid z) (r := wids r) h
    have hk' : dpk W (wids (z :: r)) = m :: dpk W (wids ((z :: r).drop m)) := by
      rw [← wids_drop]; exact hk
    have hd' : (takes W (z :: r))[0]? = some m := by
      show (((dp W (wids (z :: r))).map (·.2)))[0]? = some m
      rw [List.getElem?_map, ← List.head?_eq_getElem?]
      show Option.map _ (dp W (wid z :: wids r)).head? = _
      rw [hd]
      rfl
    have st := rows_step (z :: r) (takes W (z :: r)) 0 m (Nat.succ_pos _) hd' hm.1
    rw [List.drop_zero, List.drop_zero, Nat.zero_add] at st
    rw [hk']
    show rows (z :: r) (takes W (z :: r)) 0 = Txt.join " " ((z :: r).take m) :: (chunk ((z :: r).drop m) (dpk W (wids ((z :: r).drop m)))).map (Txt.join " ")
    rw [st]
    congr 1
    have ih := setL_chunk n ((z :: r).drop m) (by rw [List.length_drop]; have := hm.1; omega) (fun y hy => h y (by rw [← wids_drop] at hy; exact List.mem_of_mem_drop hy))
    rw [← ih]
    unfold setL takes
    rw [← List.map_drop, dp_drop, wids_drop]
/-! ### > of tuples -/
def rGtT (K : PySem.W.Frag) : R2 := fun x y H Q => ∃ (a b : Addr) (ks ls : List Nat), x = .ref a ∧ y = .ref b ∧ SqT K H a (ks.map fun k => V.int (k : Nat)) ∧ SqT K H b (ls.map fun k => V.int (k : Nat)) ∧ ∀ r : Bool, (¬ Gt ks ls → r = false) → Q (.bl r) H
theorem lex_gt (e r : Nat → Bool) (d : Bool) (ks ls : List Nat) (he : ∀ j, j < ks.length → j < ls.length → (e j = true → ks[j]? = ls[j]?)) (hr : ∀ j, j < ks.length → j < ls.length → r j = true → ∃ x y, ks[j]? = some x ∧ ls[j]? = some y ∧ y < x)
    (hd : d = true → ls.length < ks.length) : ∀ (n i : Nat), i + n = min ks.length ls.length → Ob.lexAt e r d i n = true → Gt (ks.drop i) (ls.drop i)
  | 0, i, hi, h => by
    rw [Ob.lexAt_zero] at h
    have h2 := hd h
    rw [List.drop_eq_getElem_cons (show i < ks.length by omega), List.drop_eq_nil_of_le (show ls.length ≤ i by omega)]
    trivial
  | n + 1, i, hi, h => by
    rw [Ob.lexAt_succ] at h
    have h1 : i < ks.length := by omega
    have h2 : i < ls.length := by omega
    rw [List.drop_eq_getElem_cons h1, List.drop_eq_getElem_cons h2]
    split at h
    · rename_i hei
      refine .inr ⟨?_, lex_gt e r d ks ls he hr hd n (i + 1) (by omega) h⟩
      have := he i h1 h2 hei
      rw [List.getElem?_eq_getElem h1, List.getElem?_eq_getElem h2] at this
      exact Option.some.inj this
    · obtain ⟨x, y, e1, e2, lt⟩ := hr i h1 h2 h
      rw [List.getElem?_eq_getElem h1] at e1
      rw [List.getElem?_eq_getElem h2] at e2
      refine .inl ?_
      rw [Option.some.inj e1, Option.some.inj e2]
      exact lt
theorem op_gtT {X : Cx} (hu : X.A.units < cLine) : OpR X (compareOp .Gt) (rGtT X.K) := by
  intro pins s σ H x y v u Q I rx ry h
  obtain ⟨a, b, ks, ls, rfl, rfl, ha, hb, q⟩ := h
  cases rx
  cases ry
  rw [ints_nats] at ha hb
  obtain ⟨its, r1, p1, _⟩ := I.tuple ha
  obtain ⟨its2, r2, p2, _⟩ := I.tuple hb
  have i1 := Vals.ints r1
  have i2 := Vals.ints r2
  generalize hns : (ks.map fun k : Nat => (k : Int)) = ns at i1
  generalize hms : (ls.map fun k : Nat => (k : Int)) = ms at i2
  have e1 : its.toArray.size = ns.length := by rw [List.size_toArray]; exact i1.length
  have e2 : its2.toArray.size = ms.length := by rw [List.size_toArray]; exact i2.length
  have n1 : ns.length = ks.length := by rw [← hns, List.length_map]
  have n2 : ms.length = ls.length := by rw [← hms, List.length_map]
  have g1 : ∀ j (h : j < its.toArray.size), ∃ t, its.toArray[j] = .int (ns.getD j 0) t := fun j h => PyProof.Rows.IntsAre.int_at i1 _ _ (by simp at h; simp [h])
  have g2 : ∀ j (h : j < its2.toArray.size), ∃ t, its2.toArray[j] = .int (ms.getD j 0) t := fun j h => PyProof.Rows.IntsAre.int_at i2 _ _ (by simp at h; simp [h])
  have R := Ob.RcOp.tuples_gt (A := X.A) (s := s) (e := fun j => (ns.getD j 0 == ms.getD j 0)) (r := fun j => decide (ms.getD j 0 < ns.getD j 0)) p1 p2 hu
    (fun j h1 h2 => by
      obtain ⟨t, et⟩ := g1 j h1
      obtain ⟨t', et'⟩ := g2 j h2
      rw [et, et']
      exact SeqAt.EqAt.int_int _ _ _ _)
    (fun j h1 h2 _ => by
      obtain ⟨t, et⟩ := g1 j h1
      obtain ⟨t', et'⟩ := g2 j h2
      rw [et, et']
      exact Ob.RcOp.gt_int _ _ _ _)
  rw [e1, e2, n1, n2] at R
  refine R X.prog X.w X.xe (EP X pins σ Q) ⟨.bl _, H, I, rfl, q _ fun hn => ?_⟩
  rw [← Bool.not_eq_true]
  intro ht
  have k1 : ∀ j (h : j < ks.length), ns.getD j 0 = (ks[j] : Int) := fun j h => by rw [← hns]; simp [List.getD_eq_getElem?_getD, h]
  have k2 : ∀ j (h : j < ls.length), ms.getD j 0 = (ls[j] : Int) := fun j h => by rw [← hms]; simp [List.getD_eq_getElem?_getD, h]
  refine hn (lex_gt _ _ _ ks ls (fun j h1 h2 h => ?_) (fun j h1 h2 h => ?_) (fun h => of_decide_eq_true h) _ 0 (by omega) ht)
  · have h : (ns.getD j 0 == ms.getD j 0) = true := h
    have := beq_iff_eq.mp h
    rw [k1 j h1, k2 j h2] at this
    rw [List.getElem?_eq_getElem h1, List.getElem?_eq_getElem h2]
    congr 1
    omega
  · have h : ms.getD j 0 < ns.getD j 0 := of_decide_eq_true h
    rw [k1 j h1, k2 j h2] at h
    exact ⟨_, _, List.getElem?_eq_getElem h1, List.getElem?_eq_getElem h2, by omega⟩
/-! ### tokens -/
theorem wid_rep (c : Nat) : ∀ n : Nat, widL (List.replicate n c) = n * (1 + (if c = 109 ∨ c = 119 then 1 else 0))
  | 0 => by rw [List.replicate_zero]; show widL [] = _; rw [show widL [] = 0 from rfl]; omega
  | n + 1 => by
    rw [List.replicate_succ', widL_snoc, wid_rep c n]
    split <;> omega
theorem tok_mul {c : Nat} {n : Int} (h0 : 0 ≤ n) (hc : c ≠ 32) : 32 ∉ TL.tl (Txt.mul ⟨#[c]⟩ n) ∧ wid (Txt.mul ⟨#[c]⟩ n) = n * (1 + (if c = 109 ∨ c = 119 then 1 else 0)) := by
  have e := mul_one_list c n
  refine ⟨fun h => ?_, ?_⟩
  · have h : 32 ∈ (Txt.mul ⟨#[c]⟩ n).cps.toList := h
    rw [e] at h
    exact hc (List.mem_replicate.mp h).2.symm
  · unfold wid
    rw [e, wid_rep]
    have : ((n.toNat : Nat) : Int) = n := Int.toNat_of_nonneg h0
    rw [this]
theorem tl_app (x y : Str) : TL.tl (x ++ y) = TL.tl x ++ TL.tl y := cps_toList_append x y
theorem cnts_ne {ks : List Nat} : cnts ks 0 = [] → ks = [] := by
  cases ks with
  | nil => exact fun _ => rfl
  | cons k r => intro h; cases h
theorem ty_T {K : PySem.W.Frag} {H : Hp} {a : Addr} {xs : List V} (h : SqT K H a xs) : TyX K H (.ref a) (.type "tuple") := by
  rcases h with (h | ⟨o, h⟩) | ⟨o, its, n, h, c, _⟩
  · exact .base (.tup h)
  · exact .fTuple h
  · exact .kTuple h c
def natV (ks : List Nat) : List V := ks.map fun k => V.int (k : Nat)
/-! ### the ways as they are listed -/
def All2 {α : Type} (R : α → V → Prop) (qs : List α) (xs : List V) : Prop := xs.length = qs.length ∧ ∀ (i : Nat) (q : α), qs[i]? = some q → ∃ v, xs[i]? = some v ∧ R q v
theorem all2_nil {α : Type} (R : α → V → Prop) : All2 R [] [] := ⟨rfl, fun i q h => nomatch h⟩
theorem all2_snoc {α : Type} {R : α → V → Prop} {qs : List α} {xs : List V} {q : α} {v : V} (h : All2 R qs xs) (r : R q v) : All2 R (qs ++ [q]) (xs ++ [v]) := by
  refine ⟨by rw [List.length_append, List.length_append, h.1]; rfl, fun i q' e => ?_⟩
  by_cases hi : i < qs.length
  · rw [List.getElem?_append_left hi] at e
    obtain ⟨v', e1, e2⟩ := h.2 i q' e
    exact ⟨v', by rw [List.getElem?_append_left (by rw [h.1]; exact hi)]; exact e1, e2⟩
  · rw [List.getElem?_append_right (by omega)] at e
    have h0 : i - qs.length = 0 := by
      have := (List.getElem?_eq_some_iff.mp e).1
      rw [List.length_singleton] at this
      omega
    rw [h0] at e
    injection e with e
    subst e
    refine ⟨v, ?_, r⟩
    rw [List.getElem?_append_right (by rw [h.1]; omega), h.1, h0]
    rfl
theorem all2_imp {α : Type} {R R' : α → V → Prop} {qs : List α} {xs : List V} (h : All2 R qs xs) (k : ∀ q v, R q v → R' q v) : All2 R' qs xs :=
  ⟨h.1, fun i q e => by
    obtain ⟨v, e1, e2⟩ := h.2 i q e
    exact ⟨v, e1, k _ _ e2⟩⟩
theorem all2_get {α : Type} {R : α → V → Prop} {qs : List α} {xs : List V} (h : All2 R qs xs) {i : Nat} {v : V} (e : xs[i]? = some v) : ∃ q, qs[i]? = some q ∧ R q v := by
  have hi := (List.getElem?_eq_some_iff.mp e).1
  rw [h.1] at hi
  obtain ⟨v', e1, e2⟩ := h.2 i _ (List.getElem?_eq_getElem hi)
  rw [e] at e1
  injection e1 with e1
  subst e1
  exact ⟨_, List.getElem?_eq_getElem hi, e2⟩
def Ent (H : Hp) (q : List Nat × Nat × Int) (v : V) : Prop := ∃ p t : Addr, v = .ref p ∧ H p = some (.tup [.ref t, .int (q.2.1 : Nat), .int q.2.2]) ∧ H t = some (.tup (natV q.1))
def DEnt (H : Hp) (q : List Nat × Int) (v : V) : Prop := ∃ p t : Addr, v = .ref p ∧ H p = some (.tup [.ref t, .int q.2]) ∧ H t = some (.tup (natV q.1))
/-- tuples stay -/
def Stay (H H' : Hp) : Prop := ∀ a xs, H a = some (.tup xs) → H' a = some (.tup xs)
theorem Stay.of {H H' : Hp} (s : Same H H') : Stay H H' := fun a xs e => s a _ e
theorem Stay.put {H H' : Hp} {D : Addr} {ys : List V} (s : Stay H H') (e : H' D = some (.lst ys)) (o : HO) : Stay H (upd H' D o) := fun a xs ea => by
  have := s a xs ea
  rw [upd_ne (ne_of this e (by intro z; cases z))]
  exact this
theorem Stay.refl (H : Hp) : Stay H H := fun _ _ e => e
theorem ent_stay {H H' : Hp} (s : Stay H H') (q : List Nat × Nat × Int) (v : V) (h : Ent H q v) : Ent H' q v := by
  obtain ⟨p, t, e, h1, h2⟩ := h
  exact ⟨p, t, e, s _ _ h1, s _ _ h2⟩
theorem dent_stay {H H' : Hp} (s : Stay H H') (q : List Nat × Int) (v : V) (h : DEnt H q v) : DEnt H' q v := by
  obtain ⟨p, t, e, h1, h2⟩ := h
  exact ⟨p, t, e, s _ _ h1, s _ _ h2⟩
/-- the first q.2.1 tokens cut, the rest not -/
def PW (W : Int) (ws : List Int) (q : List Nat × Nat × Int) : Prop := q.2.1 < ws.length ∧ ∀ ks c, Way W (ws.drop q.2.1) ks c → Way W ws (q.1 ++ ks) (q.2.2 + c)
theorem pw_init {W : Int} {ws : List Int} (h : 1 ≤ ws.length) : PW W ws ([], 0, 0) := ⟨h, fun ks c hw => by
  show Way W ws ks (0 + c)
  rw [Int.zero_add]
  exact hw⟩
theorem pw_step {W : Int} {ws : List Int} {ks : List Nat} {f k : Nat} {c : Int} (h : PW W ws (ks, f, c)) (hc : Can W (-1) (ws.drop f) k) (hl : f + k < ws.length) :
    PW W ws (ks ++ [k], f + k, c + (W - usedW (ws.drop f) k) * (W - usedW (ws.drop f) k)) := ⟨hl, fun ks' c' hw => by
  have hne : ¬ (ws.drop f).drop k = [] := fun e => by
    rw [List.drop_drop, List.drop_eq_nil_iff] at e
    omega
  have hw : Way W (ws.drop (f + k)) ks' c' := hw
  rw [← List.drop_drop] at hw
  have w := h.2 _ _ (.cons hc hw)
  rw [if_neg hne] at w
  show Way W ws ((ks ++ [k]) ++ ks') (c + (W - usedW (ws.drop f) k) * (W - usedW (ws.drop f) k) + c')
  rw [List.append_assoc, Int.add_assoc]
  exact w⟩
theorem pw_done {W : Int} {ws : List Int} {ks : List Nat} {f k : Nat} {c : Int} (h : PW W ws (ks, f, c)) (hc : Can W (-1) (ws.drop f) k) (hl : f + k = ws.length) : Way W ws (ks ++ [k]) c := by
  have e : (ws.drop f).drop k = [] := by rw [List.drop_drop, List.drop_eq_nil_iff]; omega
  have w0 : Way W ((ws.drop f).drop k) [] 0 := by rw [e]; exact .nil
  have w := h.2 _ _ (.cons hc w0)
  rw [if_pos e] at w
  have e2 : c + (0 + 0) = c := by omega
  rw [show ((ks, f, c) : List Nat × Nat × Int).2.2 + (0 + 0) = c from e2] at w
  exact w
/-- of the table's own way -/
def Good (W : Int) (ws : List Int) (q : List Nat × Nat × Int) : Prop := q.1 ++ dpk W (ws.drop q.2.1) = dpk W ws ∧ q.2.2 + dpc W (ws.drop q.2.1) = dpc W ws
theorem good_init (W : Int) (ws : List Int) : Good W ws ([], 0, 0) := ⟨rfl, by show 0 + dpc W ws = _; omega⟩
/-- where the table's own way goes on from here -/
theorem good_next {W : Int} {ws : List Int} {q : List Nat × Nat × Int} (hF : Fits W ws) (h : Good W ws q) (hl : q.2.1 < ws.length) : ∃ m, Can W (-1) (ws.drop q.2.1) m ∧
    (q.2.1 + m = ws.length → (q.1 ++ [m], q.2.2) = (dpk W ws, dpc W ws)) ∧
    (q.2.1 + m < ws.length → Good W ws (q.1 ++ [m], q.2.1 + m, q.2.2 + (W - usedW (ws.drop q.2.1) m) * (W - usedW (ws.drop q.2.1) m))) := by
  obtain ⟨ks, f, c⟩ := q
  obtain ⟨g1, g2⟩ := h
  dsimp only at g1 g2 hl ⊢
  cases e : ws.drop f with
  | nil => rw [List.drop_eq_nil_iff] at e; omega
  | cons x r =>
    rw [e] at g1 g2
    obtain ⟨m, hm, hk, hc, _, _⟩ := dp_is (W := W) (x := x) (r := r) (fun y hy => hF y (by rw [← e] at hy; exact List.mem_of_mem_drop hy))
    rw [hk] at g1
    rw [hc] at g2
    have ed : (x :: r).drop m = ws.drop (f + m) := by rw [← e, List.drop_drop]
    refine ⟨m, hm, fun h => ?_, fun h => ⟨?_, ?_⟩⟩
    · have en : (x :: r).drop m = [] := by rw [ed, List.drop_eq_nil_iff]; omega
      rw [en, dpk_nil] at g1
      rw [en, if_pos rfl, dpc_nil] at g2
      rw [g1]
      congr 1
      omega
    · show (ks ++ [m]) ++ dpk W (ws.drop (f + m)) = _
      rw [List.append_assoc, ← ed]
      exact g1
    · show c + (W - usedW (x :: r) m) * (W - usedW (x :: r) m) + dpc W (ws.drop (f + m)) = _
      rw [← ed]
      rw [if_neg (fun e => by rw [ed, List.drop_eq_nil_iff] at e; omega)] at g2
      omega
def Rf : Nat → Nat
  | 0 => 0
  | r + 1 => 2 ^ r
theorem Rf_one (r : Nat) (h : 1 ≤ r) : Rf (r + 1) = Rf r + Rf r := by
  obtain ⟨s, rfl⟩ : ∃ s, r = s + 1 := ⟨r - 1, by omega⟩
  show 2 ^ (s + 1) = 2 ^ s + 2 ^ s
  rw [Nat.pow_succ]
  omega
theorem Rf_pos (r : Nat) (h : 1 ≤ r) : 1 ≤ Rf r := by
  obtain ⟨s, rfl⟩ : ∃ s, r = s + 1 := ⟨r - 1, by omega⟩
  exact Nat.one_le_two_pow
theorem Rf_ten (n : Nat) (h : n ≤ 10) : Rf n ≤ 512 := by
  have : n = 0 ∨ n = 1 ∨ n = 2 ∨ n = 3 ∨ n = 4 ∨ n = 5 ∨ n = 6 ∨ n = 7 ∨ n = 8 ∨ n = 9 ∨ n = 10 := by omega
  rcases this with h | h | h | h | h | h | h | h | h | h | h <;> subst h <;> decide
def Sz (n : Nat) (qs : List (List Nat × Nat × Int)) : Nat := (qs.map fun q => Rf (n - q.2.1)).sum
theorem Sz_app (n : Nat) (qs rs : List (List Nat × Nat × Int)) : Sz n (qs ++ rs) = Sz n qs + Sz n rs := by
  unfold Sz
  rw [List.map_append, List.sum_append]
theorem Sz_one (n : Nat) (q : List Nat × Nat × Int) : Sz n [q] = Rf (n - q.2.1) := by
  show Rf (n - q.2.1) + 0 = _
  omega
theorem Sz_len (n : Nat) : ∀ qs : List (List Nat × Nat × Int), (∀ q ∈ qs, q.2.1 < n) → qs.length ≤ Sz n qs
  | [], _ => Nat.le_refl _
  | q :: r, h => by
    have h1 := Rf_pos (n - q.2.1) (by have := h q (List.mem_cons_self ..); omega)
    have h2 := Sz_len n r fun y hy => h y (List.mem_cons_of_mem _ hy)
    show r.length + 1 ≤ Rf (n - q.2.1) + Sz n r
    omega
def Pend (W : Int) (ws : List Int) (q : List Nat × Nat × Int) (j : Nat) : Prop := ∃ m, j < m ∧ Can W (-1) (ws.drop q.2.1) m ∧
  (q.2.1 + m = ws.length → (q.1 ++ [m], q.2.2) = (dpk W ws, dpc W ws)) ∧
  (q.2.1 + m < ws.length → Good W ws (q.1 ++ [m], q.2.1 + m, q.2.2 + (W - usedW (ws.drop q.2.1) m) * (W - usedW (ws.drop q.2.1) m)))
/-! ### the ways as data -/
def natD (ks : List Nat) : List PyData := (ks.map fun k : Nat => (k : Int)).map PyData.int
def dD (d : List Nat × Int) : PyData := .tuple [.tuple (natD d.1), .int d.2]
theorem dp_nat {K : PySem.W.Frag} {H : Hp} (ks : List Nat) : DpAll K H (natV ks) (natD ks) := by
  have e : natV ks = (ks.map fun k : Nat => (k : Int)).map V.int := ints_nats ks
  rw [e]
  exact dp_ints _
theorem dp_dent {K : PySem.W.Frag} {H : Hp} {d : List Nat × Int} {v : V} (h : DEnt H d v) : Dp K H v (dD d) := by
  obtain ⟨p, t, rfl, h1, h2⟩ := h
  exact .tup (.inl (.inl h1)) (.cons (.tup (.inl (.inl h2)) (dp_nat d.1)) (.cons (.int _) .nil))
theorem dp_ways {K : PySem.W.Frag} {H : Hp} : ∀ (ds : List (List Nat × Int)) (ys : List V), All2 (DEnt H) ds ys → DpAll K H ys (ds.map dD)
  | [], ys, h => by
    have : ys = [] := List.length_eq_zero_iff.mp h.1
    rw [this]
    exact .nil
  | d :: r, [], h => by have := h.1; simp at this
  | d :: r, v :: s, h => by
    obtain ⟨v', e1, e2⟩ := h.2 0 d rfl
    injection e1 with e1
    subst e1
    refine .cons (dp_dent e2) (dp_ways r s ⟨Nat.succ.inj h.1, fun i q e => h.2 (i + 1) q e⟩)
theorem lay_D (d : List Nat × Int) : (dD d).canLay0 = true ∧ (dD d).depth ≤ 2 := by
  refine ⟨?_, ?_⟩
  · show (PyData.canLayAll0 (natD d.1) && (true && true)) = true
    unfold natD
    rw [can_ints]
    rfl
  · show max (PyData.depthAll (natD d.1) + 1) (max 0 0) + 1 ≤ 2
    unfold natD
    rw [depth_ints]
    decide
theorem shaped_D (d : List Nat × Int) : SeqAt.shaped (dD d) = true := by
  have := lay_D d
  unfold SeqAt.shaped
  rw [Bool.and_eq_true]
  exact ⟨this.1, decide_eq_true (by omega)⟩
theorem lay_Ds : ∀ ds : List (List Nat × Int), PyData.canLayAll0 (ds.map dD) = true ∧ PyData.depthAll (ds.map dD) ≤ 2
  | [] => ⟨rfl, Nat.zero_le _⟩
  | d :: r => by
    have h1 := lay_D d
    have h2 := lay_Ds r
    refine ⟨?_, ?_⟩
    · show ((dD d).canLay0 && PyData.canLayAll0 (r.map dD)) = true
      rw [h1.1, h2.1]
      rfl
    · show max (dD d).depth (PyData.depthAll (r.map dD)) ≤ 2
      omega
theorem shaped_Ds (ds : List (List Nat × Int)) : SeqAt.shaped (.list (ds.map dD)) = true := by
  have := lay_Ds ds
  unfold SeqAt.shaped
  rw [Bool.and_eq_true]
  exact ⟨this.1, decide_eq_true (by show PyData.depthAll (ds.map dD) + 1 ≤ 64; omega)⟩
theorem eqv_D (d : List Nat × Int) : PyData.eqv (dD d) (dD d) = true := by
  show (PyData.eqvAll (natD d.1) (natD d.1) && ((d.2 == d.2) && true)) = true
  unfold natD
  rw [eqv_ints]
  simp
theorem any_D {ds : List (List Nat × Int)} {d : List Nat × Int} (h : d ∈ ds) : ((ds.map dD).any fun z => PyData.eqv z (dD d)) = true := List.any_eq_true.mpr ⟨_, List.mem_map.mpr ⟨d, h, rfl⟩, eqv_D d⟩
section
variable {P : Program} {w : World} {K : PySem.W.Frag} {mg : Str → Option Value} {base : Heap}
/-! ### the promises -/
/-- a row of tokens -/
def Toks (zs : List Str) : Prop := zs ≠ [] ∧ zs.length ≤ 34 ∧ ∀ z ∈ zs, z.length ≤ 21 ∧ PyData.strOk z = true
/-- no gap in a token, none wider than 20 -/
def Tok2 (zs : List Str) : Prop := ∀ z ∈ zs, 32 ∉ TL.tl z ∧ wid z ≤ 20
def Rows (zs : List Str) : Prop := zs ≠ [] ∧ zs.length ≤ 34 ∧ ∀ z ∈ zs, z.length ≤ 100
def sp_token_width (K : PySem.W.Frag) : Sp := fun vs H Q _ => ∃ z : Str, vs = [.str z] ∧ z.length ≤ sizeLine ∧ Q (.int (wid z)) H
def sp_row_width (K : PySem.W.Frag) : Sp := fun vs H Q _ => ∃ z : Str, vs = [.str z] ∧ z.length ≤ sizeLine ∧ Q (.int (wid z)) H
def sp_width (K : PySem.W.Frag) : Sp := fun vs H Q _ => ∃ z : Str, vs = [.str z] ∧ z.length ≤ sizeLine ∧ Q (.int (wid z)) H
def sp_line_cost (K : PySem.W.Frag) : Sp := fun vs H Q _ => ∃ (a : Addr) (zs : List Str) (w : Int), vs = [.ref a, .int w] ∧ (SqL K H a (zs.map V.str) ∨ SqT K H a (zs.map V.str)) ∧ Rows zs ∧ 0 ≤ w ∧ w ≤ 100 ∧ ∀ H', Same H H' → Q (.int (cost w zs.dropLast)) H'
def sp_fill_ends (K : PySem.W.Frag) : Sp := fun vs H Q _ => ∃ (H0 : Hp) (a pc pe ps : Addr) (ws cs es : List Int) (W : Int), vs = [.ref a, .int W, .ref pc, .ref pe, .ref ps] ∧ Same H0 H ∧ SqL K H0 a (ws.map V.int) ∧ ws.length ≤ 100 ∧ W ≤ 100 ∧ Fits W ws ∧
  H0 pc = none ∧ H0 pe = none ∧ pc ≠ pe ∧ H pc = some (.lst (cs.map V.int)) ∧ H pe = some (.lst (es.map V.int)) ∧ cs.length = ws.length ∧ es.length = ws.length ∧ H ps = some (.tup [.int 0, .int ws.length]) ∧
  ∀ (es : List Int) H', Same H0 H' → H' pe = some (.lst (es.map V.int)) → es.length = ws.length → (∀ (i : Nat) (q : Int × Nat), (dp W ws)[i]? = some q → es[i]? = some ((i : Int) + (q.2 : Int))) → Q .non H'
def sp_row_ends (K : PySem.W.Frag) : Sp := fun vs H Q _ => ∃ (a : Addr) (ws : List Int) (W : Int), vs = [.ref a, .int W] ∧ SqL K H a (ws.map V.int) ∧ ws.length ≤ 100 ∧ W ≤ 100 ∧ Fits W ws ∧
  ∀ p (es : List Int) H', Same H H' → H p = none → H' p = some (.lst (es.map V.int)) → es.length = ws.length → (∀ (i : Nat) (q : Int × Nat), (dp W ws)[i]? = some q → es[i]? = some ((i : Int) + (q.2 : Int))) → Q (.ref p) H'
def sp_set_lines (K : PySem.W.Frag) : Sp := fun vs H Q _ => ∃ (a : Addr) (zs : List Str) (W : Int), vs = [.ref a, .int W] ∧ (SqL K H a (zs.map V.str) ∨ SqT K H a (zs.map V.str)) ∧ Toks zs ∧ W ≤ 60 ∧ (∀ z ∈ zs, wid z ≤ W) ∧
  ∀ p H', Same H H' → H p = none → H' p = some (.tup ((setL W zs).map V.str)) → Q (.ref p) H'
def sp_source (K : PySem.W.Frag) : Sp := fun vs H Q _ => ∃ (a : Addr) (ns : List Int) (k : Nat), vs = [.ref a, .int k] ∧ SqL K H a (ns.map V.int) ∧ ∀ p H', Same H H' → H p = none → Src H' p → Q (.ref p) H'
def sp_pick (K : PySem.W.Frag) : Sp := fun vs H Q _ => ∃ (a : Addr) (m : Int), vs = [.ref a, .int m] ∧ Src H a ∧ 1 ≤ m ∧ m ≤ 1000000 ∧ ∀ r H', Src H' a → But a H H' → 0 ≤ r → r < m → Q (.int r) H'
def sp_is_integer (K : PySem.W.Frag) : Sp := fun vs H Q _ => ∃ i : Int, vs = [.int i] ∧ Q (.bl true) H
def sp_cut (K : PySem.W.Frag) : Sp := fun vs H Q _ => ∃ (a : Addr) (ws : List Int) (W : Int), vs = [.ref a, .int W] ∧ SqL K H a (ws.map V.int) ∧ ws.length ≤ 100 ∧ W ≤ 100 ∧ Fits W ws ∧
  ∀ p (ks : List Nat) H', Same H H' → H p = none → ks = (dp W ws).map (·.2) → H' p = some (.lst ((cnts ks 0).map fun k => V.int (k : Nat))) → Q (.ref p) H'
def sp_rows (K : PySem.W.Frag) : Sp := fun vs H Q _ => ∃ (a : Addr) (zs : List Str) (W : Int), vs = [.ref a, .int W] ∧ SqL K H a (zs.map V.str) ∧ Toks zs ∧ W ≤ 60 ∧ (∀ z ∈ zs, wid z ≤ W) ∧
  ∀ p H', Same H H' → H p = none → H' p = some (.lst ((setL W zs).map V.str)) → Q (.ref p) H'
def sp_token (K : PySem.W.Frag) : Sp := fun vs H Q _ => ∃ (a : Addr) (w : Int), vs = [.ref a, .int w] ∧ Src H a ∧ 1 ≤ w ∧ w ≤ 20 ∧ ∀ (z : Str) H', Src H' a → But a H H' → z.length ≤ 21 → PyData.strOk z = true → 32 ∉ TL.tl z → wid z ≤ 20 → Q (.str z) H'
def sp_some_tokens (K : PySem.W.Frag) : Sp := fun vs H Q _ => ∃ a : Addr, vs = [.ref a] ∧ Src H a ∧ ∀ (zs : List Str) p H', H p = none → Src H' a → But a H H' → H' p = some (.lst (zs.map V.str)) → Toks zs → Tok2 zs → Q (.ref p) H'
def sp_counts (K : PySem.W.Frag) : Sp := fun vs H Q _ => ∃ (a b : Addr) (zs : List Str) (W : Int), vs = [.ref a, .ref b, .int W] ∧ SqT K H a ((setL W zs).map V.str) ∧ SqL K H b (zs.map V.str) ∧ Toks zs ∧ Tok2 zs ∧ 20 ≤ W ∧ W ≤ 60 ∧
  ∀ p H', Same H H' → H' p = some (.tup (natV (dpk W (wids zs)))) → Q (.ref p) H'
def sp_sum (K : PySem.W.Frag) : Sp := fun vs H Q _ => ∃ (a b : Addr) (ws : List Int) (ks : List Nat) (W c : Int), vs = [.ref a, .int W, .ref b] ∧ SqL K H a (ws.map V.int) ∧ SqT K H b (natV ks) ∧ Way W ws ks c ∧ Fits W ws ∧ W ≤ 100 ∧ ws.length ≤ 100 ∧ ∀ H', Same H H' → Q (.int c) H'
def sp_least_from (K : PySem.W.Frag) : Sp := fun vs H Q _ => ∃ (a : Addr) (ws : List Int) (W : Int), vs = [.ref a, .int W] ∧ SqL K H a (ws.map V.int) ∧ Fits W ws ∧ ws.length ≤ 100 ∧ 0 ≤ W ∧ W ≤ 100 ∧ ∀ p (ls : List Int) H', Same H H' → H' p = some (.lst (ls.map V.int)) → ls.length = ws.length + 1 → (∀ i, i ≤ ws.length → ls[i]? = some (dpc W (ws.drop i))) → Q (.ref p) H'
def sp_rows_are_least (K : PySem.W.Frag) : Sp := fun vs H Q _ => ∃ (a b : Addr) (ws : List Int) (W : Int), vs = [.ref a, .int W, .ref b] ∧ SqL K H a (ws.map V.int) ∧ SqT K H b (natV (dpk W ws)) ∧ Fits W ws ∧ ws.length ≤ 100 ∧ 0 ≤ W ∧ W ≤ 100 ∧ ∀ H', Same H H' → Q (.bl true) H'
def sp_all_ways (K : PySem.W.Frag) : Sp := fun vs H Q _ => ∃ (a : Addr) (ws : List Int) (W : Int), vs = [.ref a, .int W] ∧ SqL K H a (ws.map V.int) ∧ Fits W ws ∧ 1 ≤ ws.length ∧ ws.length ≤ 10 ∧ 0 ≤ W ∧ W ≤ 100 ∧
  ∀ p (ds : List (List Nat × Int)) (ys : List V) H', Same H H' → H' p = some (.lst ys) → All2 (DEnt H') ds ys → (∀ d ∈ ds, Way W ws d.1 d.2) → (dpk W ws, dpc W ws) ∈ ds → Q (.ref p) H'
def sp_right (K : PySem.W.Frag) : Sp := fun vs H Q _ => ∃ (a : Addr) (zs : List Str) (W : Int), vs = [.ref a, .int W] ∧ SqL K H a (zs.map V.str) ∧ Toks zs ∧ Tok2 zs ∧ 20 ≤ W ∧ W ≤ 60 ∧ ∀ H', Same H H' → Q (.bl true) H'
def sp_law (K : PySem.W.Frag) : Sp := fun vs H Q _ => ∃ (a : Addr) (ns : List Int), vs = [.ref a] ∧ SqL K H a (ns.map V.int) ∧ ns.length ≤ 63 ∧ ∀ H', Q (.bl true) H'
theorem ok_token_width (T : Tab K mg) : FnOk P w K mg base CX0 1 T.f_token_width T.d_token_width ["token"] (sp_token_width K) := by
  refine T.F_token_width.ok sc_token_width (fun vs H Q E h => ?_) (fun cdv A outer s H vs Q E hr h => ?_)
  · obtain ⟨z, rfl, _⟩ := h
    rfl
  · obtain ⟨z, rfl, hz, q⟩ := h
    refine ⟨_, (pss_one (ps_ret (pe_op op_add (pe_op op_add (pe_callB call_len_str (by rfl) T.m_len PySem.boot_len (pa_cons (pv 0) pa_nil)) (pe_m1 PySem.F.slot_str_count PySem.F.type_str_count mt_count (pv 0) pe_str)) (pe_m1 PySem.F.slot_str_count PySem.F.type_str_count mt_count (pv 0) pe_str)))), ?_⟩
    refine ⟨_, rfl, _, rfl, hz, _, rfl, ⟨_, rfl⟩, _, _, rfl, rfl, _, _, rfl, rfl, _, rfl, ⟨_, rfl⟩, _, _, rfl, rfl, _, _, rfl, rfl, ?_⟩
    rw [← wid_of] at q
    exact q
theorem ok_fill_ends (T : Tab K mg) : FnOk P w K mg base CX0 1 T.f_fill_ends T.d_fill_ends ["widths", "width", "costs", "ends", "span"] (sp_fill_ends K) := by
  refine T.F_fill_ends.ok sc_fill_ends (fun vs H Q E h => ?_) (fun cdv A outer s H vs Q E hr h => ?_)
  · obtain ⟨H0, a, pc, pe, ps, ws, cs, es, W, rfl, _⟩ := h
    rfl
  · obtain ⟨H0, a, pc, pe, ps, ws, cs, es, W, rfl, s0, hS, hn, hW, hF, fc, fe, npe, eC, eE, lc, le, eP, q⟩ := h
    refine ⟨_, (pss_cons (ps_set (i := 5) sc_fill_ends.nd rfl (.inl rfl) (pe_callB call_len_seq (by rfl) T.m_len PySem.boot_len (pa_cons (pv 0) pa_nil)))
      (pss_one (ps_for PassesOwn.never rfl (pi_revR (by rfl) T.m_reversed (prg_2 (by rfl) T.m_range (pe_ix ix_tup (pv 4) pe_int (fun _ _ => rfl)) (pe_ix ix_tup (pv 4) pe_int (fun _ _ => rfl)))) (pg_name (i := 6) sc_fill_ends.nd rfl (.inl rfl))
      (pss_cons (ps_set (i := 7) sc_fill_ends.nd rfl (.inl rfl) pe_non)
        (pss_cons (ps_set (i := 8) sc_fill_ends.nd rfl (.inl rfl) (pe_un un_neg pe_int))
        (C8.pss_cut (ps_for PassesOwn.never rfl (pi_range2 (by rfl) T.m_range (pa_cons (pv 6) (pa_cons (pv 5) pa_nil))) (pg_name (i := 9) sc_fill_ends.nd rfl (.inl rfl))
        (pss_cons (ps_set (i := 8) sc_fill_ends.nd rfl (.inl rfl) (pe_op op_add (pe_op op_add (pv 8) pe_int) (pe_ix ix_list (pv 0) (pv 9) (fun _ _ => rfl))))
          (pss_cons (ps_if (pt_cmpR op_gt (pv 8) (pv 1) (nomark _))
          (pss_one ps_break)
          pss_nil)
          (C8.pss_cut (ps_set (i := 10) sc_fill_ends.nd rfl (.inl rfl) (pe_ifExp (pt_cmpR op_eq (pv 9) (pe_op op_sub (pv 5) pe_int) (nomark _)) pe_int (pe_op op_add (pe_op op_pow (pe_op op_sub (pv 1) (pv 8)) pe_int) (pe_ix ix_list (pv 2) (pe_op op_add (pv 9) pe_int) (fun _ _ => rfl)))))
          (pss_one (ps_if (PW.pt (pw_or (pt_cmpR op_isN (pv 7) pe_non (nomark _)) (pw_or1 (pt_cmpR op_le (pv 10) (pv 7) (nomark _)))))
          (pss_cons (ps_set (i := 7) sc_fill_ends.nd rfl (.inl rfl) (pv 10))
            (pss_one (ps_asg (pe_op op_add (pv 9) pe_int) (pg_sub (pv 3) (pv 6) set_list))))
          pss_nil))))))
        (pss_one (ps_asg (pv 7) (pg_sub (pv 2) (pv 6) set_list))))))))), ?_⟩
    have ln : (ws.map V.int).length = ws.length := List.length_map ..
    refine ⟨_, rfl, _, _, rfl, .inl (s0.seq hS), ?_⟩
    rw [ln]
    have b63 : (2 : Int) ^ 63 = 9223372036854775808 := by decide
    have b62 : (2 : Int) ^ 62 = 4611686018427387904 := by decide
    refine ⟨_, rfl, ps, _, 0, _, rfl, rfl, .inl (.inl eP), rfl, _, rfl, ps, _, 1, _, rfl, rfl, .inl (.inl eP), rfl, ?_⟩
    refine ⟨_, _, rfl, rfl, by omega, by omega, by omega, by omega, for_rangeC (fun i σ' H' => ∃ (cs es : List Int) (y5 y6 y7 y8 y9 : Option V), σ' = [some (.ref a), some (.int W), some (.ref pc), some (.ref pe), some (.ref ps), some (.int ws.length), y5, y6, y7, y8, y9] ∧ cs.length = ws.length ∧ es.length = ws.length ∧ (∀ (j : Nat) (p : Int × Nat), ws.length ≤ i + j → (dp W ws)[j]? = some p → cs[j]? = some p.1 ∧ es[j]? = some ((j : Int) + (p.2 : Int))) ∧ Same H0 H' ∧ H' pc = some (.lst (cs.map V.int)) ∧ H' pe = some (.lst (es.map V.int)))
      ⟨cs, es, none, none, none, none, none, rfl, lc, le, (fun j p h e => ?_), s0, eC, eE⟩ ?_ ?_⟩
    · have h1 := (List.getElem?_eq_some_iff.mp e).1
      rw [dp_length] at h1
      omega
    · rintro i σ' H' hi ⟨cs, es, y5, y6, y7, y8, y9, rfl, lc, le, tab, sm, eC, eE⟩
      obtain ⟨f, hf, ef⟩ : ∃ f : Nat, f = ws.length - 1 - i ∧ (0 : Int) + ((((ws.length : Int) - 0).toNat : Nat) : Int) - 1 + (i : Nat) * (-1) = (f : Int) := ⟨_, rfl, by omega⟩
      rw [ef]
      have hfl : f < ws.length := by omega
      refine ⟨_, rfl, ?_⟩
      refine ⟨fun σ' H' => ∃ (cs es : List Int) (p : Int × Nat) (y7 y8 y9 : Option V), σ' = [some (.ref a), some (.int W), some (.ref pc), some (.ref pe), some (.ref ps), some (.int ws.length), some (.int f), some (.int p.1), y7, y8, y9] ∧ (dp W ws)[f]? = some p ∧ cs.length = ws.length ∧ es.length = ws.length ∧ es[f]? = some ((f : Int) + (p.2 : Int)) ∧ (∀ (j : Nat) (p : Int × Nat), f < j → (dp W ws)[j]? = some p → cs[j]? = some p.1 ∧ es[j]? = some ((j : Int) + (p.2 : Int))) ∧ Same H0 H' ∧ H' pc = some (.lst (cs.map V.int)) ∧ H' pe = some (.lst (es.map V.int)), ?_, ?_⟩
      · obtain ⟨pf, ep, eS⟩ := dp_at W ws f hfl (hF _ (List.getElem_mem hfl)).2
        refine ⟨_, rfl, _, rfl, _, _, rfl, ⟨by omega, by omega, by omega, by omega⟩, for_range (lo := (f : Int)) (n := ((ws.length : Int) - (f : Int)).toNat) (fun j σ' H' => ∃ (u : Int) (b : Option (Int × Nat)) (cs es : List Int) (y8 y9 : Option V), σ' = [some (.ref a), some (.int W), some (.ref pc), some (.ref pe), some (.ref ps), some (.int ws.length), some (.int f), some (optV b), some (.int u), y8, y9] ∧ -1 ≤ u ∧ u ≤ W ∧ cs.length = ws.length ∧ es.length = ws.length ∧ (∀ p, b = some p → es[f]? = some ((f : Int) + (p.2 : Int))) ∧ scan W u j (ws.drop (f + j)) ((dp W ws).drop (f + j + 1)) b = some pf ∧ (∀ (j : Nat) (p : Int × Nat), f < j → (dp W ws)[j]? = some p → cs[j]? = some p.1 ∧ es[j]? = some ((j : Int) + (p.2 : Int))) ∧ Same H0 H' ∧ H' pc = some (.lst (cs.map V.int)) ∧ H' pe = some (.lst (es.map V.int)))
          ⟨-1, none, cs, es, _, _, rfl, by omega, ?_, lc, le, (fun p h => nomatch h), eS, (fun j p h e => tab j p (by omega) e), sm, eC, eE⟩ ?_ ?_⟩
        · have := (hF _ (List.getElem_mem hfl)).1
          have := (hF _ (List.getElem_mem hfl)).2
          omega
        · rintro j σ' H' hj ⟨u, b, cs, es, y8, y9, rfl, u1, u2, lc, le, be, eS, tab, sm, eC, eE⟩
          have hj2 : f + j < ws.length := by omega
          have hx : ws[f + j]? = some ws[f + j] := List.getElem?_eq_getElem hj2
          have hxF := hF _ (List.getElem_mem hj2)
          generalize ws[f + j] = x at hx hxF
          have eat : (f : Int) + (j : Nat) = ((f + j : Nat) : Int) := by omega
          rw [eat]
          refine ⟨_, rfl, _, _, rfl, rfl, _, rfl, _, rfl, _, _, _, _, rfl, rfl, sm.seq hS, atI_nat (get_ints hx), _, _, rfl, rfl, ?_⟩
          refine ⟨_, rfl, _, rfl, _, _, rfl, rfl, _, rfl, ite2 (fun e => ?_) (fun e => ?_)⟩
          · have hlt : W < u + 1 + x := of_decide_eq_true e
            rw [scan_stop W u f j ws b x hx hlt] at eS
            subst eS
            exact ⟨cs, es, pf, _, _, _, rfl, ep, lc, le, be pf rfl, tab, sm, eC, eE⟩
          · have hge : ¬ W < u + 1 + x := fun h => e (decide_eq_true h)
            rw [scan_next W u f j ws b x hx hge] at eS
            refine ⟨fun σ' H'' => ∃ c : Int, σ' = [some (.ref a), some (.int W), some (.ref pc), some (.ref pe), some (.ref ps), some (.int ws.length), some (.int f), some (optV b), some (.int (u + 1 + x)), some (.int ((f + j : Nat) : Int)), some (.int c)] ∧ c = (if f + j + 1 = ws.length then 0 else (W - (u + 1 + x)) * (W - (u + 1 + x)) + (((dp W ws)[f + j + 1]?).getD (0, 0)).1) ∧ H' = H'', ?_, ?_⟩
            · refine ⟨_, rfl, _, rfl, _, _, rfl, rfl, rfl, _, rfl, ite2 (fun e => ?_) (fun e => ?_)⟩
              · have h1 : ((f + j : Nat) : Int) = (ws.length : Int) - 1 := V.int.inj (of_decide_eq_true e)
                exact ⟨0, rfl, (by rw [if_pos (by omega)]), rfl⟩
              · have h1 : f + j + 1 ≠ ws.length := fun h => e (decide_eq_true (congrArg V.int (by omega)))
                have hd : f + j + 1 < (dp W ws).length := by rw [dp_length]; omega
                have t1 := (tab (f + j + 1) _ (by omega) (List.getElem?_eq_getElem hd)).1
                refine ⟨_, rfl, _, rfl, _, _, rfl, rfl, _, _, rfl, rfl, ⟨by decide, by decide, pow_fit (by omega) (by omega)⟩, _, rfl, _, rfl, _, _, rfl, rfl, _, _, _, _, rfl, rfl, .inl (.inl eC), atI_nat (j := f + j + 1) (get_ints t1), _, _, rfl, rfl, ?_⟩
                refine ⟨_, rfl, ?_, rfl⟩
                rw [if_neg h1, List.getElem?_eq_getElem hd, sq2]
                rfl
            · rintro σ' H'' ⟨c, rfl, ec, rfl⟩
              rw [← ec] at eS
              rcases b with _ | ⟨d, k⟩
              · have hb : scan W (u + 1 + x) (j + 1) (ws.drop (f + (j + 1))) ((dp W ws).drop (f + (j + 1) + 1)) (some (c, j + 1)) = some pf := eS
                refine ⟨_, rfl, rfl, _, rfl, ite2 (fun _ => ?_) (fun h => absurd (decide_eq_true rfl) h)⟩
                refine ⟨_, rfl, _, rfl, _, _, rfl, rfl, _, rfl, _, rfl, _, _, _, f, rfl, rfl, eE, (by rw [List.length_map, le]; exact ixN_nat hfl), ?_⟩
                rw [set_ints]
                refine ⟨u + 1 + x, some (c, j + 1), cs, _, _, _, rfl, by omega, by omega, lc, by rw [List.length_set]; exact le, ?_, ?_, ?_, same_put sm fe _, by rw [upd_ne npe]; exact eC, upd_same⟩
                · intro p hp
                  injection hp with hp
                  subst hp
                  rw [List.getElem?_set_self (by omega)]
                  exact congrArg some (show ((f + j : Nat) : Int) + 1 = (f : Int) + ((j + 1 : Nat) : Int) by omega)
                · exact hb
                · intro j' p' hj' e'
                  rw [List.getElem?_set_ne (by omega)]
                  exact tab j' p' hj' e'
              · refine ⟨_, rfl, rfl, _, rfl, ite2 (fun e => absurd (of_decide_eq_true e) (by intro z; cases z)) (fun _ => ?_)⟩
                refine ⟨_, rfl, _, rfl, _, _, rfl, rfl, _, rfl, ite2 (fun e => ?_) (fun e => ?_)⟩
                · have hcd : c ≤ d := of_decide_eq_true e
                  have hb : scan W (u + 1 + x) (j + 1) (ws.drop (f + (j + 1))) ((dp W ws).drop (f + (j + 1) + 1)) (some (c, j + 1)) = some pf := by
                    rw [show better (some (d, k)) c (j + 1) = some (c, j + 1) from if_pos hcd] at eS
                    exact eS
                  refine ⟨_, rfl, _, rfl, _, _, rfl, rfl, _, rfl, _, rfl, _, _, _, f, rfl, rfl, eE, (by rw [List.length_map, le]; exact ixN_nat hfl), ?_⟩
                  rw [set_ints]
                  refine ⟨u + 1 + x, some (c, j + 1), cs, _, _, _, rfl, by omega, by omega, lc, by rw [List.length_set]; exact le, ?_, ?_, ?_, same_put sm fe _, by rw [upd_ne npe]; exact eC, upd_same⟩
                  · intro p hp
                    injection hp with hp
                    subst hp
                    rw [List.getElem?_set_self (by omega)]
                    exact congrArg some (show ((f + j : Nat) : Int) + 1 = (f : Int) + ((j + 1 : Nat) : Int) by omega)
                  · exact hb
                  · intro j' p' hj' e'
                    rw [List.getElem?_set_ne (by omega)]
                    exact tab j' p' hj' e'
                · have hcd : ¬ c ≤ d := fun h => e (decide_eq_true h)
                  rw [show better (some (d, k)) c (j + 1) = some (d, k) from if_neg hcd] at eS
                  exact ⟨u + 1 + x, some (d, k), cs, es, _, _, rfl, by omega, by omega, lc, le, be, eS, tab, sm, eC, eE⟩
        · rintro σ' H' ⟨u, b, cs, es, y8, y9, rfl, u1, u2, lc, le, be, eS, tab, sm, eC, eE⟩
          rw [scan_out W u f _ ws _ b (by omega)] at eS
          subst eS
          exact ⟨cs, es, pf, _, _, _, rfl, ep, lc, le, be pf rfl, tab, sm, eC, eE⟩
      · rintro σ' H' ⟨cs, es, p, y7, y8, y9, rfl, ep, lc, le, be, tab, sm, eC, eE⟩
        refine ⟨_, rfl, _, rfl, _, rfl, _, _, _, f, rfl, rfl, eC, ?_, ?_⟩
        · rw [List.length_map, lc]; exact ixN_nat hfl
        rw [set_ints]
        refine ⟨_, es, _, _, _, _, _, rfl, ?_, le, ?_, same_put sm fc _, upd_same, ?_⟩
        · rw [List.length_set]; exact lc
        · intro j p' hj e'
          by_cases h : j = f
          · subst h
            rw [ep] at e'
            injection e' with e'
            subst e'
            refine ⟨?_, be⟩
            rw [List.getElem?_set_self (by omega)]
          · have := tab j p' (by omega) e'
            rw [List.getElem?_set_ne (fun z => h z.symm)]
            exact this
        · rw [upd_ne npe.symm]; exact eE
    · rintro σ' H' ⟨cs, es, y5, y6, y7, y8, y9, rfl, lc, le, tab, sm, eC, eE⟩
      exact q es H' sm eE le (fun i p e => (tab i p (by omega) e).2)
theorem ok_source (T : Tab K mg) : FnOk P w K mg base CX0 1 T.f_source T.d_source ["_law_script", "_law_k"] (sp_source K) := by
  refine T.F_source.ok sc_source (fun vs H Q E h => ?_) (fun cdv A outer s H vs Q E hr h => ?_)
  · obtain ⟨a, ns, k, rfl, _⟩ := h
    rfl
  · obtain ⟨a, ns, k, rfl, hS, q⟩ := h
    refine ⟨_, (C8.pss_cut (ps_set (i := 2) sc_source.nd rfl (.inl rfl) (pe_ifExp (pt_cmpR op_lt (pv 1) (pe_callB call_len_seq (by rfl) T.m_len PySem.boot_len (pa_cons (pv 0) pa_nil)) (nomark _)) (pe_ix ix_list (pv 0) (pv 1) (fun _ _ => rfl)) (pe_op op_add (pe_op op_mod (pe_callTy call_int1 (by rfl) T.m_int (by decide +kernel) (pa_cons (pe_op op_add (pe_callB (cr_sum rfl) (by rfl) T.m_sum (by decide +kernel) (pa_cons (pe_slice sl_list (pv 0) po_none (po_some pe_int)) pa_nil)) (pe_op op_mul pe_int (pe_callB (cr_sum rfl) (by rfl) T.m_sum (by decide +kernel) (pa_cons (pe_slice sl_list (pv 0) (po_some pe_int) (po_some pe_int)) pa_nil)))) pa_nil)) pe_int) (pe_op op_mul pe_int (pv 1)))))
      (pss_cons (ps_set (i := 3) sc_source.nd rfl (.inl rfl) (pe_callB call_abs (by rfl) T.m_abs (by decide +kernel) (pa_cons (pv 2) pa_nil)))
      (C8.pss_cut (ps_set (i := 4) sc_source.nd rfl (.inl rfl) (pe_ifExp (pt_cmpR op_ge (pv 3) pe_int (nomark _)) (pv 3) pe_int))
      (pss_one (ps_ret (pe_lst (pa_cons (pv 4) (pa_cons (pe_op op_mod (pe_callTy call_int1 (by rfl) T.m_int (by decide +kernel) (pa_cons (pe_op op_add (pe_op op_add (pe_op op_add (pe_op op_mul (pv 3) pe_int) (pe_callTy call_int1 (by rfl) T.m_int (by decide +kernel) (pa_cons (pe_cmpR op_lt (pv 2) pe_int (nomark _)) pa_nil))) (pe_op op_mul pe_int (pv 1))) pe_int) pa_nil)) pe_int) (pa_cons pe_int pa_nil))))))))), ?_⟩
    refine ⟨fun σ' H' => ∃ c : Int, σ' = [some (.ref a), some (.int k), some (.int c), none, none] ∧ Same H H', ?_, ?_⟩
    · refine ⟨_, rfl, _, rfl, _, _, rfl, .inl hS, _, _, rfl, rfl, _, rfl, ite2 (fun e => ?_) (fun e => ?_)⟩
      · have e1 : (k : Int) < ((ns.map V.int).length : Int) := of_decide_eq_true e
        rw [List.length_map] at e1
        have hk : k < ns.length := by omega
        have g : (ns.map V.int)[k]? = some (.int ns[k]) := by
          rw [List.getElem?_map, List.getElem?_eq_getElem hk]
          rfl
        exact ⟨_, rfl, _, rfl, _, _, _, _, rfl, rfl, hS, atI_nat g, _, rfl, Same.refl H⟩
      · refine ⟨_, rfl, 1, rfl, _, _, rfl, hS, fun p1 n1 => ?_⟩
        obtain ⟨m1, c1⟩ := cut_map ns none (some 1)
        rw [c1]
        have s1 : Same H (upd H p1 (.lst (m1.map V.int))) := same_upd n1
        refine ⟨_, m1, rfl, .inl (.inl upd_same), _, rfl, 1, rfl, 2, rfl, _, _, rfl, s1.seq hS, fun p2 n2 => ?_⟩
        obtain ⟨m2, c2⟩ := cut_map ns (some 1) (some 2)
        rw [c2]
        refine ⟨_, m2, rfl, .inl (.inl upd_same), _, _, rfl, rfl, .inl ⟨by decide, by decide⟩, _, _, rfl, rfl, .inl ⟨_, rfl, _, _, rfl, rfl, (by show (0 : Int) < 1000003; decide), _, rfl, _, _, rfl, rfl, .inl ⟨by decide, by decide⟩, _, _, rfl, rfl, _, rfl, s1.trans (same_upd n2)⟩⟩
    · rintro σ' H1 ⟨c, rfl, s1⟩
      refine ⟨_, rfl, _, rfl, ?_⟩
      refine ⟨fun σ' H' => ∃ n g : Int, σ' = [some (.ref a), some (.int k), some (.int c), some (.int n), some (.int g)] ∧ H' = H1, ?_, ?_⟩
      · refine ⟨_, rfl, _, _, rfl, rfl, _, rfl, ite2 (fun e => ?_) (fun e => ?_)⟩
        · exact ⟨_, rfl, _, _, rfl, rfl⟩
        · exact ⟨_, _, rfl, rfl⟩
      · rintro σ' H' ⟨n, g, rfl, rfl⟩
        refine ⟨_, rfl, _, rfl, _, _, rfl, rfl, .inr ⟨by decide, by decide⟩, _, rfl, _, _, rfl, rfl, .inr ⟨_, rfl, _, _, rfl, rfl, _, rfl, _, _, rfl, rfl, .inl ⟨by decide, by decide⟩, _, _, rfl, rfl, _, _, rfl, rfl, .inl ⟨_, rfl, _, _, rfl, rfl, (by show (0 : Int) < 2147483647; decide), ?_⟩⟩⟩
        refine ⟨(by show 3 ≤ sizeLine; decide), fun p np => ?_⟩
        exact q p _ (s1.trans (same_upd np)) (s1.free np) ⟨_, _, _, upd_same⟩
theorem ok_pick (T : Tab K mg) : FnOk P w K mg base CX0 1 T.f_pick T.d_pick ["_law_source_here", "_law_many"] (sp_pick K) := by
  refine T.F_pick.ok sc_pick (fun vs H Q E h => ?_) (fun cdv A outer s H vs Q E hr h => ?_)
  · obtain ⟨a, m, rfl, _⟩ := h
    rfl
  · obtain ⟨a, m, rfl, ⟨g, x, c, hs⟩, h1, h2, q⟩ := h
    refine ⟨_, (pss_cons (ps_if (pt_cmpR op_lt (pv 1) pe_int (nomark _))
      (pss_one (ps_ret pe_int))
      pss_nil)
      (pss_cons (ps_if (pt_cmpR op_gt (pe_ix ix_list (pv 0) pe_int (fun _ _ => rfl)) pe_int (nomark _))
      (pss_cons (ps_set (i := 2) sc_pick.nd rfl (.inl rfl) (pe_op op_mod (pe_callTy call_int1 (by rfl) T.m_int (by decide +kernel) (pa_cons (pe_ix ix_list (pv 0) pe_int (fun _ _ => rfl)) pa_nil)) (pv 1)))
        (pss_cons (ps_asg (pe_op op_fdiv (pe_ix ix_list (pv 0) pe_int (fun _ _ => rfl)) (pv 1)) (pg_sub (pv 0) pe_int set_list))
        (pss_one (ps_ret (pv 2)))))
      pss_nil)
      (pss_cons (ps_asg (pe_op op_add (pe_ix ix_list (pv 0) pe_int (fun _ _ => rfl)) pe_int) (pg_sub (pv 0) pe_int set_list))
      (pss_cons (ps_asg (pe_op op_mod (pe_callTy call_int1 (by rfl) T.m_int (by decide +kernel) (pa_cons (pe_op op_add (pe_op op_add (pe_op op_mul (pe_ix ix_list (pv 0) pe_int (fun _ _ => rfl)) pe_int) (pe_op op_mul (pe_ix ix_list (pv 0) pe_int (fun _ _ => rfl)) pe_int)) pe_int) pa_nil)) pe_int) (pg_sub (pv 0) pe_int set_list))
      (pss_one (ps_ret (pe_op op_mod (pe_callTy call_int1 (by rfl) T.m_int (by decide +kernel) (pa_cons (pe_op op_fdiv (pe_op op_mod (pe_callTy call_int1 (by rfl) T.m_int (by decide +kernel) (pa_cons (pe_op op_add (pe_op op_add (pe_op op_mul (pe_ix ix_list (pv 0) pe_int (fun _ _ => rfl)) pe_int) (pe_op op_mul (pe_ix ix_list (pv 0) pe_int (fun _ _ => rfl)) pe_int)) pe_int) pa_nil)) pe_int) pe_int) pa_nil)) (pv 1)))))))), ?_⟩
    refine ⟨_, rfl, _, _, rfl, rfl, _, rfl, ite2 (fun e => ?_) (fun e => ?_)⟩
    · exact q 0 H ⟨g, x, c, hs⟩ (But.refl a H) (by decide) (by omega)
    · have hm : ¬ m < 2 := fun z => e (decide_eq_true z)
      refine ⟨_, rfl, _, _, _, _, rfl, rfl, .inl (.inl hs), rfl, _, _, rfl, rfl, _, rfl, ite2 (fun e => ?_) (fun e => ?_)⟩
      · refine ⟨_, rfl, _, _, _, _, rfl, rfl, .inl (.inl hs), rfl, .inl ⟨_, rfl, _, rfl, _, _, rfl, rfl, (by omega), ?_⟩⟩
        refine ⟨_, rfl, _, _, _, _, rfl, rfl, .inl (.inl hs), rfl, _, rfl, _, _, rfl, rfl, ⟨by omega, by omega⟩, ?_⟩
        refine ⟨_, rfl, _, _, _, _, rfl, rfl, hs, rfl, ?_⟩
        refine ⟨_, rfl, ?_⟩
        exact q _ _ ⟨_, _, _, upd_same⟩ (But.upd _) (Int.emod_nonneg _ (by omega)) (Int.emod_lt_of_pos _ (by omega))
      · refine ⟨_, rfl, _, _, _, _, rfl, rfl, .inl (.inl hs), rfl, _, _, rfl, rfl, _, rfl, _, _, _, _, rfl, rfl, hs, rfl, ?_⟩
        refine ⟨_, rfl, _, _, _, _, rfl, rfl, .inl (.inl upd_same), rfl, _, _, rfl, rfl, .inr ⟨by decide, by decide⟩, _, rfl, _, _, _, _, rfl, rfl, .inl (.inl upd_same), rfl, _, _, rfl, rfl, .inr ⟨by decide, by decide⟩, _, _, rfl, rfl, _, _, rfl, rfl, .inl ⟨_, rfl, _, _, rfl, rfl, (by show (0 : Int) < 2147483647; decide), ?_⟩⟩
        refine ⟨_, rfl, _, _, _, _, rfl, rfl, upd_same, rfl, ?_⟩
        refine ⟨_, rfl, _, _, _, _, rfl, rfl, .inl (.inl upd_same), rfl, _, _, rfl, rfl, .inr ⟨by decide, by decide⟩, _, rfl, _, _, _, _, rfl, rfl, .inl (.inl upd_same), rfl, _, _, rfl, rfl, .inr ⟨by decide, by decide⟩, _, _, rfl, rfl, _, _, rfl, rfl, .inl ⟨_, rfl, _, _, rfl, rfl, (by show (0 : Int) < 2147483629; decide), _, _, rfl, rfl, ⟨by decide, by decide⟩, .inl ⟨_, rfl, _, rfl, _, _, rfl, rfl, (by omega), ?_⟩⟩⟩
        exact q _ _ ⟨_, _, _, upd_same⟩ (((But.upd _).trans (But.upd _))) (Int.emod_nonneg _ (by omega)) (Int.emod_lt_of_pos _ (by omega))
theorem ok_is_integer (T : Tab K mg) : FnOk P w K mg base CX0 1 T.f_is_integer T.d_is_integer ["_law_actual"] (sp_is_integer K) := by
  refine T.F_is_integer.ok sc_is_integer (fun vs H Q E h => ?_) (fun cdv A outer s H vs Q E hr h => ?_)
  · obtain ⟨i, rfl, _⟩ := h
    rfl
  · obtain ⟨i, rfl, q⟩ := h
    refine ⟨_, (pss_one (ps_ret (pe_and (pe_callB call_isi (by rfl) T.m_isinstance (by decide +kernel) (pa_cons (pv 0) (pa_cons (pe_bltn (v := .ty "int") (u := .type "int") (by rfl) T.m_int (by decide +kernel) rfl) pa_nil))) (pe_one (pe_not (pe_callB call_isi (by rfl) T.m_isinstance (by decide +kernel) (pa_cons (pv 0) (pa_cons (pe_bltn (v := .ty "bool") (u := .type "bool") (by rfl) T.m_bool (by decide +kernel) rfl) pa_nil)))))))), ?_⟩
    refine ⟨_, rfl, _, _, _, _, _, rfl, .ty "int", .base (.int i), kit_ty (by decide +kernel), true, rfl, iteT ?_⟩
    exact ⟨_, rfl, _, _, _, _, _, rfl, .ty "bool", .base (.int i), kit_ty (r := false) (by decide +kernel), false, rfl, q⟩
theorem ok_width (T : Tab K mg) : FnOk P w K mg base CX0 1 T.f_width T.d_width ["_law_token_here"] (sp_width K) := by
  refine T.F_width.ok sc_width (fun vs H Q E h => ?_) (fun cdv A outer s H vs Q E hr h => ?_)
  · obtain ⟨z, rfl, _⟩ := h
    rfl
  · obtain ⟨z, rfl, hz, q⟩ := h
    refine ⟨_, (pss_one (ps_ret (pe_op op_add (pe_op op_add (pe_callB call_len_str (by rfl) T.m_len PySem.boot_len (pa_cons (pv 0) pa_nil)) (pe_m1 PySem.F.slot_str_count PySem.F.type_str_count mt_count (pv 0) pe_str)) (pe_m1 PySem.F.slot_str_count PySem.F.type_str_count mt_count (pv 0) pe_str)))), ?_⟩
    refine ⟨_, rfl, _, rfl, hz, _, rfl, ⟨_, rfl⟩, _, _, rfl, rfl, _, _, rfl, rfl, _, rfl, ⟨_, rfl⟩, _, _, rfl, rfl, _, _, rfl, rfl, ?_⟩
    rw [← wid_of] at q
    exact q
theorem ok_cut (T : Tab K mg) : FnOk P w K mg base CX0 1 T.f_cut T.d_cut ["_law_widths", "_law_limit"] (sp_cut K) := by
  refine T.F_cut.ok sc_cut (fun vs H Q E h => ?_) (fun cdv A outer s H vs Q E hr h => ?_)
  · obtain ⟨a, ws, W, rfl, _⟩ := h
    rfl
  · obtain ⟨a, ws, W, rfl, hS, hn, hW, hF, q⟩ := h
    refine ⟨_, (pss_cons (ps_set (i := 2) sc_cut.nd rfl (.inl rfl) (pe_callB call_len_seq (by rfl) T.m_len PySem.boot_len (pa_cons (pv 0) pa_nil)))
      (pss_cons (ps_set (i := 3) sc_cut.nd rfl (.inl rfl) (pe_op op_rep (pe_lst (pa_cons pe_int pa_nil)) (pe_op op_add (pv 2) pe_int)))
      (pss_cons (ps_set (i := 4) sc_cut.nd rfl (.inl rfl) (pe_op op_rep (pe_lst (pa_cons pe_int pa_nil)) (pe_op op_add (pv 2) pe_int)))
      (pss_cons (ps_for PassesOwn.never rfl (pi_range1 (by rfl) T.m_range (pa_cons (pv 2) pa_nil)) (pg_name (i := 5) sc_cut.nd rfl (.inl rfl))
      (pss_cons (ps_set (i := 6) sc_cut.nd rfl (.inl rfl) (pe_op op_sub (pe_op op_sub (pv 2) pe_int) (pv 5)))
        (pss_cons (ps_set (i := 7) sc_cut.nd rfl (.inl rfl) (pe_op op_add (pv 1) pe_int))
        (pss_cons (ps_set (i := 8) sc_cut.nd rfl (.inl rfl) pe_non)
        (C8.pss_cut (ps_for PassesOwn.never rfl (pi_range2 (by rfl) T.m_range (pa_cons (pv 6) (pa_cons (pv 2) pa_nil))) (pg_name (i := 9) sc_cut.nd rfl (.inl rfl))
        (pss_cons (ps_set (i := 7) sc_cut.nd rfl (.inl rfl) (pe_op op_sub (pe_op op_sub (pv 7) (pe_ix ix_list (pv 0) (pv 9) (fun _ _ => rfl))) pe_int))
          (pss_cons (ps_if (pt_cmpR op_lt (pv 7) pe_int (nomark _))
          (pss_one ps_break)
          pss_nil)
          (C8.pss_cut (ps_set (i := 10) sc_cut.nd rfl (.inl rfl) (pe_ifExp (pt_cmpR op_eq (pv 9) (pe_op op_sub (pv 2) pe_int) (nomark _)) pe_int (pe_op op_add (pe_op op_mul (pv 7) (pv 7)) (pe_ix ix_list (pv 3) (pe_op op_add (pv 9) pe_int) (fun _ _ => rfl)))))
          (pss_one (ps_if (PW.pt (pw_or (pt_cmpR op_isN (pv 8) pe_non (nomark _)) (pw_or1 (pt_cmpR op_le (pv 10) (pv 8) (nomark _)))))
          (pss_cons (ps_set (i := 8) sc_cut.nd rfl (.inl rfl) (pv 10))
            (pss_one (ps_asg (pe_op op_sub (pe_op op_add (pv 9) pe_int) (pv 6)) (pg_sub (pv 4) (pv 6) set_list))))
          pss_nil))))))
        (pss_one (ps_asg (pv 8) (pg_sub (pv 3) (pv 6) set_list))))))))
      (pss_cons (ps_set (i := 11) sc_cut.nd rfl (.inl rfl) (pe_lst pa_nil))
      (pss_cons (ps_for PassesOwn.never rfl (pi_range1 (by rfl) T.m_range (pa_cons (pv 2) pa_nil)) (pg_name (i := 12) sc_cut.nd rfl (.inl rfl))
      (pss_one (ps_if (pt_cmpR op_lt (pe_callB (cr_sum rfl) (by rfl) T.m_sum (by decide +kernel) (pa_cons (pv 11) pa_nil)) (pv 2) (nomark _))
        (pss_one (ps_expr (pe_bm PySem.F.plainAttrs_list PySem.F.slot_list_append PySem.F.type_list_append mt_append (pv 11) (pa_cons (pe_ix ix_list (pv 4) (pe_callB (cr_sum rfl) (by rfl) T.m_sum (by decide +kernel) (pa_cons (pv 11) pa_nil)) (fun _ _ => rfl)) pa_nil))))
        pss_nil)))
      (pss_one (ps_ret (pv 11))))))))), ?_⟩
    have ln : (ws.map V.int).length = ws.length := List.length_map ..
    refine ⟨_, rfl, _, _, rfl, .inl hS, ?_⟩
    rw [ln]
    have b63 : (2 : Int) ^ 63 = 9223372036854775808 := by decide
    have b62 : (2 : Int) ^ 62 = 4611686018427387904 := by decide
    have e64 : (2 : Int) ^ 64 = 18446744073709551616 := by decide
    have en : ((ws.length : Int) + 1).toNat = ws.length + 1 := by omega
    refine ⟨(by show 1 ≤ sizeLine; decide), fun p1 n1 => ?_⟩
    refine ⟨_, rfl, _, _, rfl, rfl, p1, _, _, rfl, rfl, upd_same, by omega, by omega, ?_, fun pc nc => ?_⟩
    · rw [en]; exact Nat.le_of_lt (small1000 (by show 1 * (ws.length + 1) ≤ 1000; omega))
    refine ⟨(by show 1 ≤ sizeLine; decide), fun p3 n3 => ?_⟩
    refine ⟨_, rfl, _, _, rfl, rfl, p3, _, _, rfl, rfl, upd_same, by omega, by omega, ?_, fun pe ne => ?_⟩
    · rw [en]; exact Nat.le_of_lt (small1000 (by show 1 * (ws.length + 1) ≤ 1000; omega))
    rw [en, flat_rep, rep_int]
    rw [en, flat_rep, rep_int] at ne n3
    have s1 := same_upd (o := .lst [V.int 0]) n1
    have s2 := s1.trans (same_upd (o := .lst ((List.replicate (ws.length + 1) (0 : Int)).map V.int)) nc)
    have s3 := s2.trans (same_upd (o := .lst [V.int 0]) n3)
    have s4 := s3.trans (same_upd (o := .lst ((List.replicate (ws.length + 1) (0 : Int)).map V.int)) ne)
    have ec1 := same_upd (o := .lst [V.int 0]) n3 pc _ upd_same
    have ec0 := same_upd (o := .lst ((List.replicate (ws.length + 1) (0 : Int)).map V.int)) ne _ _ ec1
    have npe : pc ≠ pe := ne_of_none ec1 ne
    have fc : H pc = none := s1.free nc
    have fe : H pe = none := s3.free ne
    refine ⟨_, rfl, _, rfl, by omega, by omega, for_range (lo := 0) (fun i σ' H' => ∃ (cs es : List Int) (y5 y6 y7 y8 y9 y10 : Option V), σ' = [some (.ref a), some (.int W), some (.int ws.length), some (.ref pc), some (.ref pe), y5, y6, y7, y8, y9, y10, none, none] ∧ cs.length = ws.length + 1 ∧ es.length = ws.length + 1 ∧ (∀ (j : Nat) (p : Int × Nat), ws.length ≤ i + j → (dp W ws)[j]? = some p → cs[j]? = some p.1 ∧ es[j]? = some (p.2 : Int)) ∧ Same H H' ∧ H' pc = some (.lst (cs.map V.int)) ∧ H' pe = some (.lst (es.map V.int)))
      ⟨List.replicate (ws.length + 1) 0, List.replicate (ws.length + 1) 0, none, none, none, none, none, none, rfl, List.length_replicate, List.length_replicate, (fun j p h e => ?_), s4, ec0, upd_same⟩ ?_ ?_⟩
    · have h1 := (List.getElem?_eq_some_iff.mp e).1
      rw [dp_length] at h1
      omega
    · rintro i σ' H' hi ⟨cs, es, y5, y6, y7, y8, y9, y10, rfl, lc, le, tab, sm, eC, eE⟩
      obtain ⟨f, hf, ef⟩ : ∃ f : Nat, f = ws.length - 1 - i ∧ (ws.length : Int) - 1 - (0 + (i : Nat)) = (f : Int) := ⟨_, rfl, by omega⟩
      have hfl : f < ws.length := by omega
      refine ⟨_, rfl, _, _, rfl, rfl, _, rfl, _, _, rfl, rfl, ?_⟩
      dsimp only
      rw [ef]
      refine ⟨_, rfl, _, _, rfl, rfl, ?_⟩
      refine ⟨fun σ' H' => ∃ (cs es : List Int) (p : Int × Nat) (y5 y7 y9 y10 : Option V), σ' = [some (.ref a), some (.int W), some (.int ws.length), some (.ref pc), some (.ref pe), y5, some (.int f), y7, some (.int p.1), y9, y10, none, none] ∧ (dp W ws)[f]? = some p ∧ cs.length = ws.length + 1 ∧ es.length = ws.length + 1 ∧ es[f]? = some (p.2 : Int) ∧ (∀ (j : Nat) (p : Int × Nat), f < j → (dp W ws)[j]? = some p → cs[j]? = some p.1 ∧ es[j]? = some (p.2 : Int)) ∧ Same H H' ∧ H' pc = some (.lst (cs.map V.int)) ∧ H' pe = some (.lst (es.map V.int)), ?_, ?_⟩
      · obtain ⟨pf, ep, eS⟩ := dp_at W ws f hfl (hF _ (List.getElem_mem hfl)).2
        have hw0 := hF _ (List.getElem_mem hfl)
        refine ⟨_, rfl, _, rfl, _, _, rfl, ⟨by omega, by omega, by omega, by omega⟩, for_range (lo := (f : Int)) (n := ((ws.length : Int) - (f : Int)).toNat) (fun j σ' H' => ∃ (u rm : Int) (b : Option (Int × Nat)) (cs es : List Int) (y5 y9 y10 : Option V), σ' = [some (.ref a), some (.int W), some (.int ws.length), some (.ref pc), some (.ref pe), y5, some (.int f), some (.int rm), some (optV b), y9, y10, none, none] ∧ rm = W - u ∧ -1 ≤ u ∧ u ≤ W ∧ cs.length = ws.length + 1 ∧ es.length = ws.length + 1 ∧ (∀ p, b = some p → es[f]? = some (p.2 : Int)) ∧ scan W u j (ws.drop (f + j)) ((dp W ws).drop (f + j + 1)) b = some pf ∧ (∀ (j : Nat) (p : Int × Nat), f < j → (dp W ws)[j]? = some p → cs[j]? = some p.1 ∧ es[j]? = some (p.2 : Int)) ∧ Same H H' ∧ H' pc = some (.lst (cs.map V.int)) ∧ H' pe = some (.lst (es.map V.int)))
          ⟨-1, W + 1, none, cs, es, _, _, _, rfl, by omega, by omega, by omega, lc, le, (fun p h => nomatch h), eS, (fun j p h e => tab j p (by omega) e), sm, eC, eE⟩ ?_ ?_⟩
        · rintro j σ' H' hj ⟨u, rm, b, cs, es, y5, y9, y10, rfl, rfl, u1, u2, lc, le, be, eS, tab, sm, eC, eE⟩
          have hj2 : f + j < ws.length := by omega
          have hx : ws[f + j]? = some ws[f + j] := List.getElem?_eq_getElem hj2
          have hxF := hF _ (List.getElem_mem hj2)
          generalize ws[f + j] = x at hx hxF
          have eat : (f : Int) + (j : Nat) = ((f + j : Nat) : Int) := by omega
          rw [eat]
          refine ⟨_, rfl, _, rfl, _, rfl, _, _, _, _, rfl, rfl, sm.seq hS, atI_nat (get_ints hx), _, _, rfl, rfl, _, _, rfl, rfl, ?_⟩
          dsimp only
          rw [show W - u - x - 1 = W - (u + 1 + x) by omega]
          refine ⟨_, rfl, _, _, rfl, rfl, _, rfl, ite2 (fun e => ?_) (fun e => ?_)⟩
          · have h0 : W - (u + 1 + x) < 0 := of_decide_eq_true e
            have hlt : W < u + 1 + x := by omega
            rw [scan_stop W u f j ws b x hx hlt] at eS
            subst eS
            exact ⟨cs, es, pf, _, _, _, _, rfl, ep, lc, le, be pf rfl, tab, sm, eC, eE⟩
          · have hge : ¬ W < u + 1 + x := fun h => e (decide_eq_true (by omega))
            rw [scan_next W u f j ws b x hx hge] at eS
            refine ⟨fun σ' H'' => ∃ c : Int, σ' = [some (.ref a), some (.int W), some (.int ws.length), some (.ref pc), some (.ref pe), y5, some (.int f), some (.int (W - (u + 1 + x))), some (optV b), some (.int ((f + j : Nat) : Int)), some (.int c), none, none] ∧ c = (if f + j + 1 = ws.length then 0 else (W - (u + 1 + x)) * (W - (u + 1 + x)) + (((dp W ws)[f + j + 1]?).getD (0, 0)).1) ∧ H' = H'', ?_, ?_⟩
            · refine ⟨_, rfl, _, rfl, _, _, rfl, rfl, rfl, _, rfl, ite2 (fun e => ?_) (fun e => ?_)⟩
              · have h1 : ((f + j : Nat) : Int) = (ws.length : Int) - 1 := V.int.inj (of_decide_eq_true e)
                exact ⟨0, rfl, (by rw [if_pos (by omega)]), rfl⟩
              · have h1 : f + j + 1 ≠ ws.length := fun h => e (decide_eq_true (congrArg V.int (by omega)))
                have hd : f + j + 1 < (dp W ws).length := by rw [dp_length]; omega
                have t1 := (tab (f + j + 1) _ (by omega) (List.getElem?_eq_getElem hd)).1
                refine ⟨_, rfl, _, rfl, _, _, rfl, rfl, .inl ⟨by omega, by omega⟩, _, rfl, _, rfl, _, _, rfl, rfl, _, _, _, _, rfl, rfl, .inl (.inl eC), atI_nat (j := f + j + 1) (get_ints t1), _, _, rfl, rfl, ?_⟩
                refine ⟨_, rfl, ?_, rfl⟩
                rw [if_neg h1, List.getElem?_eq_getElem hd]
                rfl
            · rintro σ' H'' ⟨c, rfl, ec, rfl⟩
              rw [← ec] at eS
              rcases b with _ | ⟨d, k⟩
              · have hb : scan W (u + 1 + x) (j + 1) (ws.drop (f + (j + 1))) ((dp W ws).drop (f + (j + 1) + 1)) (some (c, j + 1)) = some pf := eS
                refine ⟨_, rfl, rfl, _, rfl, ite2 (fun _ => ?_) (fun h => absurd (decide_eq_true rfl) h)⟩
                refine ⟨_, rfl, _, rfl, _, _, rfl, rfl, _, rfl, _, _, rfl, rfl, _, rfl, _, rfl, _, _, _, f, rfl, rfl, eE, (by rw [List.length_map, le]; exact ixN_nat (by omega)), ?_⟩
                rw [set_ints]
                refine ⟨u + 1 + x, _, some (c, j + 1), cs, _, _, _, _, rfl, rfl, by omega, by omega, lc, by rw [List.length_set]; exact le, ?_, ?_, ?_, same_put sm fe _, by rw [upd_ne npe]; exact eC, upd_same⟩
                · intro p hp
                  injection hp with hp
                  subst hp
                  rw [List.getElem?_set_self (by omega)]
                  exact congrArg some (show ((f + j : Nat) : Int) + 1 - (f : Int) = ((j + 1 : Nat) : Int) by omega)
                · exact hb
                · intro j' p' hj' e'
                  rw [List.getElem?_set_ne (by omega)]
                  exact tab j' p' hj' e'
              · refine ⟨_, rfl, rfl, _, rfl, ite2 (fun e => absurd (of_decide_eq_true e) (by intro z; cases z)) (fun _ => ?_)⟩
                refine ⟨_, rfl, _, rfl, _, _, rfl, rfl, _, rfl, ite2 (fun e => ?_) (fun e => ?_)⟩
                · have hcd : c ≤ d := of_decide_eq_true e
                  have hb : scan W (u + 1 + x) (j + 1) (ws.drop (f + (j + 1))) ((dp W ws).drop (f + (j + 1) + 1)) (some (c, j + 1)) = some pf := by
                    rw [show better (some (d, k)) c (j + 1) = some (c, j + 1) from if_pos hcd] at eS
                    exact eS
                  refine ⟨_, rfl, _, rfl, _, _, rfl, rfl, _, rfl, _, _, rfl, rfl, _, rfl, _, rfl, _, _, _, f, rfl, rfl, eE, (by rw [List.length_map, le]; exact ixN_nat (by omega)), ?_⟩
                  rw [set_ints]
                  refine ⟨u + 1 + x, _, some (c, j + 1), cs, _, _, _, _, rfl, rfl, by omega, by omega, lc, by rw [List.length_set]; exact le, ?_, ?_, ?_, same_put sm fe _, by rw [upd_ne npe]; exact eC, upd_same⟩
                  · intro p hp
                    injection hp with hp
                    subst hp
                    rw [List.getElem?_set_self (by omega)]
                    exact congrArg some (show ((f + j : Nat) : Int) + 1 - (f : Int) = ((j + 1 : Nat) : Int) by omega)
                  · exact hb
                  · intro j' p' hj' e'
                    rw [List.getElem?_set_ne (by omega)]
                    exact tab j' p' hj' e'
                · have hcd : ¬ c ≤ d := fun h => e (decide_eq_true h)
                  rw [show better (some (d, k)) c (j + 1) = some (d, k) from if_neg hcd] at eS
                  exact ⟨u + 1 + x, _, some (d, k), cs, es, _, _, _, rfl, rfl, by omega, by omega, lc, le, be, eS, tab, sm, eC, eE⟩
        · rintro σ' H' ⟨u, rm, b, cs, es, y5, y9, y10, rfl, rfl, u1, u2, lc, le, be, eS, tab, sm, eC, eE⟩
          rw [scan_out W u f _ ws _ b (by omega)] at eS
          subst eS
          exact ⟨cs, es, pf, _, _, _, _, rfl, ep, lc, le, be pf rfl, tab, sm, eC, eE⟩
      · rintro σ' H' ⟨cs, es, p, y5, y7, y9, y10, rfl, ep, lc, le, be, tab, sm, eC, eE⟩
        refine ⟨_, rfl, _, rfl, _, rfl, _, _, _, f, rfl, rfl, eC, ?_, ?_⟩
        · rw [List.length_map, lc]; exact ixN_nat (by omega)
        rw [set_ints]
        refine ⟨_, es, _, _, _, _, _, _, rfl, ?_, le, ?_, same_put sm fc _, upd_same, ?_⟩
        · rw [List.length_set]; exact lc
        · intro j p' hj e'
          by_cases h : j = f
          · subst h
            rw [ep] at e'
            injection e' with e'
            subst e'
            refine ⟨?_, be⟩
            rw [List.getElem?_set_self (by omega)]
          · have := tab j p' (by omega) e'
            rw [List.getElem?_set_ne (fun z => h z.symm)]
            exact this
        · rw [upd_ne npe.symm]; exact eE
    · rintro σ' H' ⟨cs, es, y5, y6, y7, y8, y9, y10, rfl, lc, le, tab, sm, eC, eE⟩
      have tab' : ∀ (j : Nat) (p : Int × Nat), (dp W ws)[j]? = some p → es[j]? = some (p.2 : Int) := fun j p e => (tab j p (by omega) e).2
      have hw : ∀ x ∈ ws, x ≤ W := fun x hx => (hF x hx).2
      refine ⟨Nat.zero_le _, fun R nR => ?_⟩
      have fR : H R = none := sm.free nR
      have nRe : pe ≠ R := ne_of_none eE nR
      have lk : ((dp W ws).map (·.2)).length = ws.length := by rw [List.length_map, dp_length]
      refine ⟨_, rfl, _, rfl, by omega, by omega, for_range (lo := 0) (fun i σ' H' => ∃ (ks : List Nat) (y12 : Option V), σ' = [some (.ref a), some (.int W), some (.int ws.length), some (.ref pc), some (.ref pe), y5, y6, y7, y8, y9, y10, some (.ref R), y12] ∧ ks ++ cnts (((dp W ws).map (·.2)).drop ks.sum) 0 = cnts ((dp W ws).map (·.2)) 0 ∧ ks.sum ≤ ws.length ∧ (ks.sum = ws.length ∨ i ≤ ks.sum) ∧ ks.length ≤ i ∧ Same H H' ∧ H' pe = some (.lst (es.map V.int)) ∧ H' R = some (.lst (ks.map fun k => V.int (k : Nat))))
        ⟨[], none, rfl, rfl, Nat.zero_le _, .inr (Nat.le_refl _), Nat.le_refl _, sm.trans (same_upd nR), by rw [upd_ne nRe]; exact eE, upd_same⟩ ?_ ?_⟩
      · rintro i σ' H2 hi ⟨ks, y12, rfl, eK, k1, k2, k3, sm2, eE2, eR⟩
        have eR' := eR
        rw [ints_nats] at eR'
        refine ⟨_, rfl, _, _, rfl, .inl (.inl eR'), _, rfl, _, _, rfl, rfl, _, rfl, ite2 (fun e => ?_) (fun e => ?_)⟩
        · have h0 : (ks.map fun k : Nat => (k : Int)).sum < (ws.length : Int) := of_decide_eq_true e
          rw [sum_nat_int] at h0
          have h1 : ks.sum < ws.length := by omega
          have hd : ks.sum < (dp W ws).length := by rw [dp_length]; exact h1
          have ed := List.getElem?_eq_getElem hd
          obtain ⟨b1, b2⟩ := dp_take W ws hw _ _ ed
          have t1 := tab' _ _ ed
          have ek : ((dp W ws).map (·.2))[ks.sum]? = some ((dp W ws)[ks.sum]).2 := by rw [List.getElem?_map, ed]; rfl
          generalize ((dp W ws)[ks.sum]).2 = k at b1 b2 t1 ek
          have hat : atI (es.map V.int) ((ks.map fun k : Nat => (k : Int)).sum) = some (.int (k : Int)) := by rw [sum_nat_int]; exact atI_nat (get_ints t1)
          refine ⟨_, rfl, .inl ⟨rfl, _, .inl (.inl eR)⟩, _, rfl, _, rfl, _, _, rfl, .inl (.inl eR'), _, _, _, _, rfl, rfl, .inl (.inl eE2), hat, _, _, _, rfl, rfl, eR, ?_, ks ++ [k], _, rfl, ?_, ?_, ?_, ?_, same_put sm2 fR _, ?_, ?_⟩
          · rw [List.length_map]; exact small1000 (by omega)
          · rw [← eK, cnts_step _ ks.sum k ek b1, List.append_assoc, List.sum_append, List.sum_singleton]
            rfl
          · rw [List.sum_append, List.sum_singleton]; exact b2
          · rw [List.sum_append, List.sum_singleton]; omega
          · rw [List.length_append, List.length_singleton]; omega
          · rw [upd_ne nRe]; exact eE2
          · rw [upd_same, List.map_append]; rfl
        · have h0 : ¬ (ks.map fun k : Nat => (k : Int)).sum < (ws.length : Int) := fun h => e (decide_eq_true h)
          rw [sum_nat_int] at h0
          exact ⟨ks, _, rfl, eK, k1, .inl (by omega), by omega, sm2, eE2, eR⟩
      · rintro σ' H2 ⟨ks, y12, rfl, eK, k1, k2, k3, sm2, eE2, eR⟩
        have hs : ks.sum = ws.length := by
          rcases k2 with h | h
          · exact h
          · have : ws.length ≤ ks.sum := by
              have : ((ws.length : Int)).toNat ≤ ks.sum := h
              omega
            omega
        rw [hs, List.drop_of_length_le (by omega)] at eK
        have e2 : ks = cnts ((dp W ws).map (·.2)) 0 := by
          rw [← eK]
          show ks = ks ++ []
          rw [List.append_nil]
        subst e2
        exact ⟨_, rfl, q R _ H2 sm2 fR rfl eR⟩
theorem ok_sum (T : Tab K mg) : FnOk P w K mg base CX0 1 T.f_sum T.d_sum ["_law_widths", "_law_limit", "_law_counts_here"] (sp_sum K) := by
  refine T.F_sum.ok sc_sum (fun vs H Q E h => ?_) (fun cdv A outer s H vs Q E hr h => ?_)
  · obtain ⟨a, b, ws, ks, W, c, rfl, _⟩ := h
    rfl
  · obtain ⟨a, b, ws, ks, W, c, rfl, hS, hT, hw, hF, hW, hl, q⟩ := h
    refine ⟨_, (pss_cons (ps_set (i := 3) sc_sum.nd rfl (.inl rfl) pe_int)
      (pss_cons (ps_set (i := 4) sc_sum.nd rfl (.inl rfl) pe_int)
      (pss_cons (ps_for PassesOwn.never rfl (pi_tup (pv 2)) (pg_name (i := 5) sc_sum.nd rfl (.inl rfl))
      (pss_cons (ps_set (i := 6) sc_sum.nd rfl (.inl rfl) (pe_op op_add (pe_op op_sub (pe_op op_sub (pv 1) (pe_callB (cr_sum rfl) (by rfl) T.m_sum (by decide +kernel) (pa_cons (pe_slice sl_list (pv 0) (po_some (pv 4)) (po_some (pe_op op_add (pv 4) (pv 5)))) pa_nil))) (pv 5)) pe_int))
        (pss_cons (ps_set (i := 4) sc_sum.nd rfl (.inl rfl) (pe_op op_add (pv 4) (pv 5)))
        (pss_one (ps_if (pt_cmpR op_lt (pv 4) (pe_callB call_len_seq (by rfl) T.m_len PySem.boot_len (pa_cons (pv 0) pa_nil)) (nomark _))
        (pss_one (ps_set (i := 3) sc_sum.nd rfl (.inl rfl) (pe_op op_add (pv 3) (pe_op op_mul (pv 6) (pv 6)))))
        pss_nil)))))
      (pss_one (ps_ret (pv 3)))))), ?_⟩
    have e64 : (2 : Int) ^ 64 = 18446744073709551616 := by decide
    have ln : (ws.map V.int).length = ws.length := List.length_map ..
    refine ⟨_, rfl, b, rfl, ⟨_, hT⟩, for_tup (xs := natV ks) (fun i σ' H' => Same H H' ∧ ∃ (t at' : Int) (n : Nat) (y5 y6 : Option V) (c' : Int), σ' = [some (.ref a), some (.int W), some (.ref b), some (.int t), some (.int at'), y5, y6] ∧ at' = (n : Int) ∧ n ≤ ws.length ∧ Way W (ws.drop n) (ks.drop i) c' ∧ t + c' = c) ⟨Same.refl H, 0, 0, 0, none, none, c, rfl, rfl, Nat.zero_le _, hw, by omega⟩ (fun i σ' H' _ hh => same_seqT hh.1 hT) ?_ ?_⟩
    · rintro i x σ' H' hx ⟨sm, t, _, n, y5, y6, c', rfl, rfl, hn, hway, ht⟩
      have hi : i < ks.length := by
        have := (List.getElem?_eq_some_iff.mp hx).1
        rwa [natV, List.length_map] at this
      have ex : x = .int (ks[i] : Nat) := by
        unfold natV at hx
        rw [List.getElem?_map, List.getElem?_eq_getElem hi] at hx
        exact (Option.some.inj hx).symm
      subst ex
      rw [List.drop_eq_getElem_cons hi] at hway
      generalize ks[i] = k at hway
      generalize hrest : ks.drop (i + 1) = rest at hway
      generalize hlw : ws.drop n = l at hway
      cases hway with
      | @cons _ _ _ c2 hcan hr =>
        obtain ⟨h1, h2, h3⟩ := hcan
        have hll : l.length = ws.length - n := by rw [← hlw, List.length_drop]
        have ed : l.drop k = ws.drop (n + k) := by rw [← hlw, List.drop_drop]
        have hcut : cutV (ws.map V.int) (some (n : Int)) (some ((n : Int) + (k : Int))) = (l.take k).map V.int := by
          rw [show (n : Int) + (k : Int) = ((n + k : Nat) : Int) by omega, cut_mid _ n (n + k) (by omega) (by rw [List.length_map]; omega), ← List.map_drop, ← List.map_take]
          rw [show n + k - n = k by omega, hlw]
        have hu0 : 0 ≤ (l.take k).sum := sum_nonneg fun y hy => (hF y (by rw [← hlw] at hy; exact List.mem_of_mem_drop (List.mem_of_mem_take hy))).1
        have hlack : W - (l.take k).sum - (k : Int) + 1 = W - usedW l k := by
          unfold usedW upto
          omega
        have hub : 0 ≤ W - usedW l k ∧ W - usedW l k ≤ 101 := by
          unfold usedW upto at *
          omega
        refine ⟨_, rfl, _, rfl, _, rfl, _, rfl, _, rfl, _, rfl, _, _, rfl, rfl, _, rfl, a, _, rfl, sm.seq hS, fun p np => ?_⟩
        rw [hcut]
        have sp := same_upd (o := .lst ((l.take k).map V.int)) np
        refine ⟨p, _, rfl, .inl (.inl upd_same), _, _, rfl, rfl, _, rfl, _, _, rfl, rfl, _, _, rfl, rfl, ?_⟩
        dsimp only
        rw [hlack]
        have smp := sm.trans sp
        generalize upd H' p (.lst ((l.take k).map V.int)) = H2 at smp
        refine ⟨_, rfl, _, rfl, _, _, rfl, rfl, ?_⟩
        refine ⟨_, rfl, _, rfl, _, _, rfl, .inl (smp.seq hS), _, _, rfl, rfl, _, rfl, ite2 (fun e => ?_) (fun e => ?_)⟩
        · have h4 : (n : Int) + (k : Int) < ((ws.map V.int).length : Int) := of_decide_eq_true e
          rw [ln] at h4
          refine ⟨_, rfl, _, rfl, _, rfl, _, _, rfl, rfl, .inl ⟨by omega, by omega⟩, _, _, rfl, rfl, ?_⟩
          refine ⟨smp, _, _, n + k, _, _, c2, rfl, by omega, by omega, by rw [← ed]; exact hr, ?_⟩
          rw [if_neg (fun h => by rw [List.drop_eq_nil_iff] at h; omega)] at ht
          omega
        · have h4 : ¬ (n : Int) + (k : Int) < ((ws.map V.int).length : Int) := fun h => e (decide_eq_true h)
          rw [ln] at h4
          refine ⟨smp, _, _, n + k, _, _, c2, rfl, by omega, by omega, by rw [← ed]; exact hr, ?_⟩
          rw [if_pos (by rw [List.drop_eq_nil_iff]; omega)] at ht
          omega
    · rintro σ' H' ⟨sm, t, _, n, y5, y6, c', rfl, rfl, hn, hway, ht⟩
      rw [natV, List.length_map, List.drop_length] at hway
      have h0 : c' = 0 := by
        generalize ws.drop n = l at hway
        cases hway
        rfl
      have : t = c := by omega
      rw [← this] at q
      exact ⟨_, rfl, q H' sm⟩
theorem ok_all_ways (T : Tab K mg) : FnOk P w K mg base CX0 1 T.f_all_ways T.d_all_ways ["_law_widths", "_law_limit"] (sp_all_ways K) := by
  refine T.F_all_ways.ok sc_all_ways (fun vs H Q E h => ?_) (fun cdv A outer s H vs Q E hr h => ?_)
  · obtain ⟨a, ws, W, rfl, _⟩ := h
    rfl
  · obtain ⟨a, ws, W, rfl, hS, hF, hn1, hn, W1, W2, q⟩ := h
    refine ⟨_, (pss_cons (ps_set (i := 2) sc_all_ways.nd rfl (.inl rfl) (pe_lst (pa_cons (pe_tup (pa_cons (pe_tup pa_nil) (pa_cons pe_int (pa_cons pe_int pa_nil)))) pa_nil)))
      (pss_cons (ps_set (i := 3) sc_all_ways.nd rfl (.inl rfl) (pe_lst pa_nil))
      (pss_cons (ps_for PassesOwn.never rfl (pi_range1 (by rfl) T.m_range (pa_cons (pe_callB call_len_seq (by rfl) T.m_len PySem.boot_len (pa_cons (pv 0) pa_nil)) pa_nil)) (pg_name (i := 4) sc_all_ways.nd rfl (.inl rfl))
      (pss_cons (ps_set (i := 5) sc_all_ways.nd rfl (.inl rfl) (pe_lst pa_nil))
        (pss_cons (ps_for PassesOwn.never rfl (pi_list (pv 2)) (pg_name (i := 6) sc_all_ways.nd rfl (.inl rfl))
        (pss_cons (ps_set (i := 7) sc_all_ways.nd rfl (.inl rfl) (pe_op op_add (pv 1) pe_int))
          (pss_one (ps_for PassesOwn.never rfl (pi_range2 (by rfl) T.m_range (pa_cons (pe_ix ix_tup (pv 6) pe_int (fun _ _ => rfl)) (pa_cons (pe_callB call_len_seq (by rfl) T.m_len PySem.boot_len (pa_cons (pv 0) pa_nil)) pa_nil))) (pg_name (i := 8) sc_all_ways.nd rfl (.inl rfl))
          (pss_cons (ps_set (i := 7) sc_all_ways.nd rfl (.inl rfl) (pe_op op_sub (pe_op op_sub (pv 7) (pe_ix ix_list (pv 0) (pv 8) (fun _ _ => rfl))) pe_int))
            (pss_cons (ps_if (pt_cmpR op_lt (pv 7) pe_int (nomark _))
            (pss_one ps_break)
            pss_nil)
            (C8.pss_cut (ps_set (i := 9) sc_all_ways.nd rfl (.inl rfl) (pe_op op_catA (pe_ix ix_tup (pv 6) pe_int (fun _ _ => rfl)) (pe_tup (pa_cons (pe_op op_sub (pe_op op_add (pv 8) pe_int) (pe_ix ix_tup (pv 6) pe_int (fun _ _ => rfl))) pa_nil))))
            (pss_one (ps_if (pt_cmpR op_eq (pv 8) (pe_op op_sub (pe_callB call_len_seq (by rfl) T.m_len PySem.boot_len (pa_cons (pv 0) pa_nil)) pe_int) (nomark _))
            (pss_one (ps_expr (pe_bm PySem.F.plainAttrs_list PySem.F.slot_list_append PySem.F.type_list_append mt_append (pv 3) (pa_cons (pe_tup (pa_cons (pv 9) (pa_cons (pe_ix ix_tup (pv 6) pe_int (fun _ _ => rfl)) pa_nil))) pa_nil))))
            (pss_one (ps_expr (pe_bm PySem.F.plainAttrs_list PySem.F.slot_list_append PySem.F.type_list_append mt_append (pv 5) (pa_cons (pe_tup (pa_cons (pv 9) (pa_cons (pe_op op_add (pv 8) pe_int) (pa_cons (pe_op op_add (pe_ix ix_tup (pv 6) pe_int (fun _ _ => rfl)) (pe_op op_mul (pv 7) (pv 7))) pa_nil)))) pa_nil)))))))))))))
        (pss_one (ps_set (i := 2) sc_all_ways.nd rfl (.inl rfl) (pe_callTy call_list_of (by rfl) T.m_list (by decide +kernel) (pa_cons (pv 5) pa_nil)))))))
      (pss_one (ps_ret (pv 3)))))), ?_⟩
    have ln : (ws.map V.int).length = ws.length := List.length_map ..
    have b62 : (2 : Int) ^ 62 = 4611686018427387904 := by decide
    have e64 : (2 : Int) ^ 64 = 18446744073709551616 := by decide
    refine ⟨Nat.zero_le _, fun t0 nt0 => ⟨(by show 3 ≤ sizeLine; decide), fun p0 np0 => ⟨(by show 1 ≤ sizeLine; decide), fun Wa nWa => ⟨Nat.zero_le _, fun Dn nDn => ?_⟩⟩⟩⟩
    have s1 := same_upd (o := .tup []) nt0
    have s2 := same_upd (o := .tup [.ref t0, .int 0, .int 0]) np0
    have s3 := same_upd (o := .lst [.ref p0]) nWa
    have s4 := same_upd (o := .lst []) nDn
    have et0 := s4 _ _ (s3 _ _ (s2 t0 _ upd_same))
    have ep0 := s4 _ _ (s3 p0 _ upd_same)
    have eWa := s4 Wa _ upd_same
    have smA := ((s1.trans s2).trans s3).trans s4
    have fDn : H Dn = none := ((s1.trans s2).trans s3).free nDn
    have nWD : Wa ≠ Dn := ne_of_none upd_same nDn
    have eDn : (upd (upd (upd (upd H t0 (.tup [])) p0 (.tup [.ref t0, .int 0, .int 0])) Wa (.lst [.ref p0])) Dn (.lst [])) Dn = some (.lst []) := upd_same
    generalize upd (upd (upd (upd H t0 (.tup [])) p0 (.tup [.ref t0, .int 0, .int 0])) Wa (.lst [.ref p0])) Dn (.lst []) = H0 at et0 ep0 eWa smA eDn
    refine ⟨_, rfl, a, _, rfl, .inl (smA.seq hS), ?_⟩
    rw [ln]
    refine ⟨_, rfl, by omega, by omega, for_range (lo := 0) (n := ((ws.length : Int)).toNat) (fun t σ' H' => ∃ (qs : List (List Nat × Nat × Int)) (ds : List (List Nat × Int)) (xs ys : List V) (Wa : Addr) (y4 y5 y6 y7 y8 y9 : Option V), σ' = [some (.ref a), some (.int W), some (.ref Wa), some (.ref Dn), y4, y5, y6, y7, y8, y9] ∧ Same H H' ∧ Wa ≠ Dn ∧ H' Wa = some (.lst xs) ∧ All2 (Ent H') qs xs ∧ (∀ q ∈ qs, PW W ws q ∧ t ≤ q.2.1) ∧ H' Dn = some (.lst ys) ∧ All2 (DEnt H') ds ys ∧ (∀ d ∈ ds, Way W ws d.1 d.2) ∧ ((∃ q ∈ qs, Good W ws q) ∨ (dpk W ws, dpc W ws) ∈ ds) ∧ Sz ws.length qs + ds.length ≤ 512)
      ⟨[([], 0, 0)], [], [.ref p0], [], Wa, none, none, none, none, none, none, rfl, smA, nWD, eWa, all2_snoc (all2_nil _) ⟨p0, t0, rfl, ep0, et0⟩, (fun q hq => by rw [List.mem_singleton.mp hq]; exact ⟨pw_init hn1, Nat.zero_le _⟩), eDn, all2_nil _, (fun _ h => nomatch h), .inl ⟨_, List.mem_singleton.mpr rfl, good_init W ws⟩, by
        rw [Sz_one]
        have := Rf_ten ws.length hn
        show Rf (ws.length - 0) + 0 ≤ 512
        rw [Nat.sub_zero]
        omega⟩ ?_ ?_⟩
    · rintro t σ' Hx ht ⟨qs, ds, xs, ys, Wa, y4, y5, y6, y7, y8, y9, rfl, smx, nWD, eW, aW, gW, eD, aD, gD, track, sz⟩
      refine ⟨Nat.zero_le _, fun Lo nLo => ?_⟩
      have sL := same_upd (o := .lst []) nLo
      have eL : (upd Hx Lo (.lst [])) Lo = some (.lst []) := upd_same
      have smL := smx.trans sL
      have nDL : Dn ≠ Lo := ne_of_none eD nLo
      have nWL : Wa ≠ Lo := ne_of_none eW nLo
      have fLo : H Lo = none := smx.free nLo
      have eW := sL _ _ eW
      have eD := sL _ _ eD
      have aW := all2_imp aW (ent_stay (.of sL))
      have aD := all2_imp aD (dent_stay (.of sL))
      generalize upd Hx Lo (.lst []) = H1 at eL smL eW eD aW aD
      have hnn : ∀ ls : List (List Nat × Nat × Int), (∀ q ∈ ls, PW W ws q ∧ t + 1 ≤ q.2.1) → ls.length ≤ Sz ws.length ls := fun ls h => Sz_len _ _ fun q hq => (h q hq).1.1
      refine ⟨_, rfl, Wa, rfl, ⟨_, .inl (.inl eW)⟩, for_list (xs := xs) (fun i σ' H' => ∃ (ls : List (List Nat × Nat × Int)) (ds : List (List Nat × Int)) (zs ys : List V) (y6 y7 y8 y9 : Option V), σ' = [some (.ref a), some (.int W), some (.ref Wa), some (.ref Dn), some (.int (0 + (t : Int))), some (.ref Lo), y6, y7, y8, y9] ∧ Same H H' ∧ H' Wa = some (.lst xs) ∧ All2 (Ent H') qs xs ∧ H' Lo = some (.lst zs) ∧ All2 (Ent H') ls zs ∧ (∀ q ∈ ls, PW W ws q ∧ t + 1 ≤ q.2.1) ∧ H' Dn = some (.lst ys) ∧ All2 (DEnt H') ds ys ∧ (∀ d ∈ ds, Way W ws d.1 d.2) ∧ ((∃ q ∈ qs.drop i, Good W ws q) ∨ (∃ q ∈ ls, Good W ws q) ∨ (dpk W ws, dpc W ws) ∈ ds) ∧ Sz ws.length (qs.drop i) + Sz ws.length ls + ds.length ≤ 512)
        ⟨[], ds, [], ys, _, _, _, _, rfl, smL, eW, aW, eL, all2_nil _, (fun _ h => nomatch h), eD, aD, gD, (by
          rcases track with h | h
          · exact .inl h
          · exact .inr (.inr h)), (by show Sz ws.length qs + 0 + ds.length ≤ 512; omega)⟩ (fun i σ' H' _ hh => ?_) ?_ ?_⟩
      · obtain ⟨_, _, _, _, _, _, _, _, _, _, e, _⟩ := hh
        exact .inl (.inl e)
      · rintro i x σ' H2 hx ⟨ls, ds, zs, ys, y6, y7, y8, y9, rfl, sm2, eW2, aW2, eL2, aL2, gL2, eD2, aD2, gD2, tr2, sz2⟩
        obtain ⟨⟨ks, f, c⟩, hqi, p, tt, rfl, ep, et⟩ := all2_get aW2 hx
        dsimp only at ep et
        have hqm := gW _ (List.mem_of_getElem? hqi)
        obtain ⟨hpw, htf⟩ := hqm
        dsimp only at htf
        have hfl : f < ws.length := hpw.1
        have hi := (List.getElem?_eq_some_iff.mp hqi).1
        have hdr : qs.drop i = (ks, f, c) :: qs.drop (i + 1) := by
          rw [List.drop_eq_getElem_cons hi, (List.getElem?_eq_some_iff.mp hqi).2]
        obtain ⟨l, hl⟩ : ∃ l, l = ws.drop f := ⟨_, rfl⟩
        have hll : l.length = ws.length - f := by rw [hl, List.length_drop]
        have hlF : ∀ y ∈ l, 0 ≤ y ∧ y ≤ W := fun y hy => hF y (by rw [hl] at hy; exact List.mem_of_mem_drop hy)
        rw [hdr] at tr2 sz2
        have szc : Sz ws.length ((ks, f, c) :: qs.drop (i + 1)) = Rf (ws.length - f) + Sz ws.length (qs.drop (i + 1)) := rfl
        rw [szc] at sz2
        refine ⟨_, rfl, _, _, rfl, rfl, ?_⟩
        refine ⟨_, rfl, p, _, 1, .int (f : Nat), rfl, rfl, .inl (.inl ep), rfl, _, rfl, a, _, rfl, .inl (sm2.seq hS), ?_⟩
        rw [ln]
        refine ⟨_, _, rfl, ⟨by omega, by omega, by omega, by omega⟩, for_range (lo := (f : Int)) (n := ((ws.length : Int) - (f : Int)).toNat) (fun j σ' H' => ∃ (ls : List (List Nat × Nat × Int)) (ds : List (List Nat × Int)) (zs ys : List V) (rm : Int) (y8 y9 : Option V), σ' = [some (.ref a), some (.int W), some (.ref Wa), some (.ref Dn), some (.int (0 + (t : Int))), some (.ref Lo), some (.ref p), some (.int rm), y8, y9] ∧ rm = W - upto (-1) l j ∧ Same H H' ∧ H' Wa = some (.lst xs) ∧ All2 (Ent H') qs xs ∧ H' Lo = some (.lst zs) ∧ All2 (Ent H') ls zs ∧ (∀ q ∈ ls, PW W ws q ∧ t + 1 ≤ q.2.1) ∧ H' Dn = some (.lst ys) ∧ All2 (DEnt H') ds ys ∧ (∀ d ∈ ds, Way W ws d.1 d.2) ∧ ((∃ q ∈ qs.drop (i + 1), Good W ws q) ∨ (∃ q ∈ ls, Good W ws q) ∨ (dpk W ws, dpc W ws) ∈ ds ∨ Pend W ws (ks, f, c) j) ∧ Rf (ws.length - (f + j)) + Sz ws.length (qs.drop (i + 1)) + Sz ws.length ls + ds.length ≤ 512 ∧ H' p = some (.tup [.ref tt, .int (f : Nat), .int c]) ∧ H' tt = some (.tup (natV ks)))
          ⟨ls, ds, zs, ys, W + 1, _, _, rfl, by unfold upto; simp, sm2, eW2, aW2, eL2, aL2, gL2, eD2, aD2, gD2, (by
            rcases tr2 with ⟨q0, h, g⟩ | h | h
            · rcases List.mem_cons.mp h with e | e
              · subst e
                obtain ⟨m, h1, h2, h3⟩ := good_next hF g hfl
                exact .inr (.inr (.inr ⟨m, h1.1, h1, h2, h3⟩))
              · exact .inl ⟨q0, e, g⟩
            · exact .inr (.inl h)
            · exact .inr (.inr (.inl h))), (by rw [Nat.add_zero]; omega), ep, et⟩ ?_ ?_⟩
        · rintro j σ' H' hj ⟨ls, ds, zs, ys, rm, y8, y9, rfl, rfl, sm, eW, aW, eL, aL, gL, eD, aD, gD, tr, sz, ep, et⟩
          have hj2 : f + j < ws.length := by omega
          have hx : ws[f + j]? = some ws[f + j] := List.getElem?_eq_getElem hj2
          have hxF := hF _ (List.getElem_mem hj2)
          generalize ws[f + j] = x at hx hxF
          have hxl : l[j]? = some x := by rw [hl, List.getElem?_drop]; exact hx
          have hu := upto_succ (-1) l j x hxl
          have eat : (f : Int) + (j : Nat) = ((f + j : Nat) : Int) := by omega
          rw [eat]
          refine ⟨_, rfl, _, rfl, _, rfl, _, _, _, _, rfl, rfl, sm.seq hS, atI_nat (get_ints hx), _, _, rfl, rfl, _, _, rfl, rfl, ?_⟩
          dsimp only
          rw [show W - upto (-1) l j - x - 1 = W - upto (-1) l (j + 1) by omega]
          have mono := upto_mono (u := -1) (l := l) (fun y hy => (hlF y hy).1) (j + 1)
          refine ⟨_, rfl, _, _, rfl, rfl, _, rfl, ite2 (fun e => ?_) (fun e => ?_)⟩
          · have h0 : W - upto (-1) l (j + 1) < 0 := of_decide_eq_true e
            refine ⟨ls, ds, zs, ys, _, _, _, _, rfl, sm, eW, aW, eL, aL, gL, eD, aD, gD, ?_, by omega⟩
            rcases tr with h | h | h | ⟨m, h1, h2, _⟩
            · exact .inl h
            · exact .inr (.inl h)
            · exact .inr (.inr h)
            · exfalso
              have hm := mono (m - (j + 1))
              rw [show j + 1 + (m - (j + 1)) = m by omega] at hm
              have h3 : upto (-1) (ws.drop f) m ≤ W := h2.2.2
              rw [← hl] at h3
              omega
          have hge : upto (-1) l (j + 1) ≤ W := by
            have : ¬ W - upto (-1) l (j + 1) < 0 := fun h => e (decide_eq_true h)
            omega
          have hcan : Can W (-1) l (j + 1) := ⟨by omega, by omega, hge⟩
          have low : -1 ≤ upto (-1) l (j + 1) := by
            have := upto_mono (u := -1) (l := l) (fun y hy => (hlF y hy).1) 0 (j + 1)
            rw [Nat.zero_add] at this
            have h0 : upto (-1) l 0 = -1 := by unfold upto; simp
            omega
          have hv : ((f + j : Nat) : Int) + 1 - ((f : Nat) : Int) = ((j + 1 : Nat) : Int) := by omega
          have hnat : natV (ks ++ [j + 1]) = natV ks ++ [.int (((f + j : Nat) : Int) + 1 - ((f : Nat) : Int))] := by
            rw [hv]
            unfold natV
            rw [List.map_append]
            rfl
          refine ⟨fun σ'' H'' => ∃ r : Addr, σ'' = [some (.ref a), some (.int W), some (.ref Wa), some (.ref Dn), some (.int (0 + (t : Int))), some (.ref Lo), some (.ref p), some (.int (W - upto (-1) l (j + 1))), some (.int ((f + j : Nat) : Int)), some (.ref r)] ∧ Same H' H'' ∧ H'' r = some (.tup (natV (ks ++ [j + 1]))), ?_, ?_⟩
          · refine ⟨_, rfl, p, _, 0, .ref tt, rfl, rfl, .inl (.inl ep), rfl, _, rfl, _, _, rfl, rfl, _, rfl, p, _, 1, .int (f : Nat), rfl, rfl, .inl (.inl ep), rfl, _, _, rfl, rfl, (by show 1 ≤ sizeLine; decide), fun g ng => ?_⟩
            have sg := same_upd (o := .tup [.int (((f + j : Nat) : Int) + 1 - ((f : Nat) : Int))]) ng
            refine ⟨tt, g, natV ks, _, rfl, rfl, .inl (.inl (sg _ _ et)), .inl (.inl upd_same), ?_, fun h => ?_, fun _ h => (nomatch h), fun _ _ r nr => ?_⟩
            · have w1 := dpk_way (W := W) _ (ws.drop f) (Nat.le_refl _) fun y hy => hF y (List.mem_of_mem_drop hy)
              have w2 := way_len (hpw.2 _ _ w1)
              rw [List.length_append] at w2
              have w3 : (natV ks).length = ks.length := List.length_map ..
              exact Nat.le_of_lt (small1000 (by rw [w3]; show ks.length + 1 ≤ 1000; dsimp only at w2; omega))
            · refine ⟨g, rfl, sg, ?_⟩
              rw [upd_same, hnat, h]
              rfl
            · refine ⟨r, rfl, sg.trans (same_upd nr), ?_⟩
              rw [upd_same, hnat]
          · rintro σ'' H3 ⟨r, rfl, s3, er⟩
            have sm := sm.trans s3
            have eW := s3 _ _ eW
            have eL := s3 _ _ eL
            have eD := s3 _ _ eD
            have ep := s3 _ _ ep
            have et := s3 _ _ et
            have aW := all2_imp aW (ent_stay (.of s3))
            have aL := all2_imp aL (ent_stay (.of s3))
            have aD := all2_imp aD (dent_stay (.of s3))
            have lzs := aL.1
            have lys := aD.1
            have lls := hnn ls gL
            refine ⟨_, rfl, _, rfl, a, _, rfl, .inl (sm.seq hS), ?_⟩
            rw [ln]
            refine ⟨_, _, rfl, rfl, rfl, _, rfl, ite2 (fun e => ?_) (fun e => ?_)⟩
            · have h1 : ((f + j : Nat) : Int) = (ws.length : Int) - 1 := V.int.inj (of_decide_eq_true e)
              have h1' : f + (j + 1) = ws.length := by omega
              refine ⟨_, rfl, .inl ⟨rfl, _, .inl (.inl eD)⟩, _, rfl, _, rfl, p, _, 2, .int c, rfl, rfl, .inl (.inl ep), rfl, (by show 2 ≤ sizeLine; decide), fun u nu => ?_⟩
              have su := same_upd (o := .tup [.ref r, .int c]) nu
              have eu : (upd H3 u (.tup [.ref r, .int c])) u = some (.tup [.ref r, .int c]) := upd_same
              have eDu := su _ _ eD
              refine ⟨Dn, _, _, rfl, rfl, eDu, small1000 (by omega), ?_⟩
              have st : Stay H3 (upd (upd H3 u (.tup [.ref r, .int c])) Dn (.lst (ys ++ [.ref u]))) := (Stay.of su).put eDu _
              refine ⟨ls, ds ++ [(ks ++ [j + 1], c)], zs, ys ++ [.ref u], _, _, _, rfl, rfl, same_put (sm.trans su) fDn _, ?_, all2_imp aW (ent_stay st), ?_, all2_imp aL (ent_stay st), gL, upd_same, all2_snoc (all2_imp aD (dent_stay st)) ⟨u, r, rfl, ?_, st _ _ er⟩, ?_, ?_, ?_, st _ _ ep, st _ _ et⟩
              · rw [upd_ne nWD]; exact su _ _ eW
              · rw [upd_ne nDL.symm]; exact su _ _ eL
              · exact (Stay.refl _).put eDu _ u _ eu
              · intro d hd
                rcases List.mem_append.mp hd with h | h
                · exact gD d h
                · rw [List.mem_singleton.mp h]
                  exact pw_done hpw (by rw [← hl]; exact hcan) h1'
              · rcases tr with h | h | h | ⟨m, g1, g2, g3, g4⟩
                · exact .inl h
                · exact .inr (.inl h)
                · exact .inr (.inr (.inl (List.mem_append_left _ h)))
                · have hm : m = j + 1 := by
                    have h4 := g2.2.1
                    have h5 : (ws.drop f).length = ws.length - f := List.length_drop ..
                    have h6 : m ≤ (ws.drop f).length := h4
                    omega
                  subst hm
                  exact .inr (.inr (.inl (List.mem_append_right _ (List.mem_singleton.mpr (g3 h1').symm))))
              · rw [List.length_append, List.length_singleton, h1', Nat.sub_self]
                rw [show ws.length - (f + j) = 0 + 1 by omega] at sz
                have : Rf (0 + 1) = 1 := rfl
                have : Rf 0 = 0 := rfl
                omega
            · have h1 : f + j + 1 ≠ ws.length := fun h => e (decide_eq_true (congrArg V.int (by omega)))
              refine ⟨_, rfl, .inl ⟨rfl, _, .inl (.inl eL)⟩, _, rfl, _, rfl, _, _, rfl, rfl, _, rfl, p, _, 2, .int c, rfl, rfl, .inl (.inl ep), rfl, _, rfl, _, rfl, _, _, rfl, rfl, .inl ⟨by omega, by omega⟩, _, _, rfl, rfl, (by show 3 ≤ sizeLine; decide), fun u nu => ?_⟩
              have hvv : ((f + j : Nat) : Int) + 1 = ((f + (j + 1) : Nat) : Int) := by omega
              dsimp only at nu ⊢
              rw [hvv]
              generalize hcc : c + (W - upto (-1) l (j + 1)) * (W - upto (-1) l (j + 1)) = cc
              have su := same_upd (o := .tup [.ref r, .int ((f + (j + 1) : Nat) : Int), .int cc]) nu
              have eu : (upd H3 u (.tup [.ref r, .int ((f + (j + 1) : Nat) : Int), .int cc])) u = some (.tup [.ref r, .int ((f + (j + 1) : Nat) : Int), .int cc]) := upd_same
              have eLu := su _ _ eL
              refine ⟨Lo, _, _, rfl, rfl, eLu, small1000 (by omega), ?_⟩
              have st : Stay H3 (upd (upd H3 u (.tup [.ref r, .int ((f + (j + 1) : Nat) : Int), .int cc])) Lo (.lst (zs ++ [.ref u]))) := (Stay.of su).put eLu _
              refine ⟨ls ++ [(ks ++ [j + 1], f + (j + 1), cc)], ds, zs ++ [.ref u], ys, _, _, _, rfl, rfl, same_put (sm.trans su) fLo _, ?_, all2_imp aW (ent_stay st), upd_same, all2_snoc (all2_imp aL (ent_stay st)) ⟨u, r, rfl, ?_, st _ _ er⟩, ?_, ?_, all2_imp aD (dent_stay st), gD, ?_, ?_, st _ _ ep, st _ _ et⟩
              · rw [upd_ne nWL]; exact su _ _ eW
              · exact (Stay.refl _).put eLu _ u _ eu
              · intro q hq
                rcases List.mem_append.mp hq with h | h
                · exact gL q h
                · rw [List.mem_singleton.mp h]
                  have := pw_step hpw (by rw [← hl]; exact hcan) (show f + (j + 1) < ws.length by omega)
                  rw [← hl] at this
                  unfold usedW at this
                  rw [hcc] at this
                  exact ⟨this, by show t + 1 ≤ f + (j + 1); omega⟩
              · rw [upd_ne nDL]; exact su _ _ eD
              · rcases tr with h | ⟨q0, h, g⟩ | h | ⟨m, g1, g2, g3, g4⟩
                · exact .inl h
                · exact .inr (.inl ⟨q0, List.mem_append_left _ h, g⟩)
                · exact .inr (.inr (.inl h))
                · by_cases hm : m = j + 1
                  · subst hm
                    have g5 := g4 (by show f + (j + 1) < ws.length; omega)
                    dsimp only at g5
                    rw [← hl] at g5
                    unfold usedW at g5
                    rw [hcc] at g5
                    exact .inr (.inl ⟨_, List.mem_append_right _ (List.mem_singleton.mpr rfl), g5⟩)
                  · exact .inr (.inr (.inr ⟨m, by omega, g2, g3, g4⟩))
              · rw [Sz_app, Sz_one]
                show _ + (_ + Rf (ws.length - (f + (j + 1)))) + _ ≤ 512
                rw [show ws.length - (f + j) = (ws.length - (f + (j + 1))) + 1 by omega, Rf_one _ (by omega)] at sz
                omega
        · rintro σ' H' ⟨ls, ds, zs, ys, rm, y8, y9, rfl, rfl, sm, eW, aW, eL, aL, gL, eD, aD, gD, tr, sz, ep, et⟩
          refine ⟨ls, ds, zs, ys, _, _, _, _, rfl, sm, eW, aW, eL, aL, gL, eD, aD, gD, ?_, by omega⟩
          rcases tr with h | h | h | ⟨m, h1, h2, _⟩
          · exact .inl h
          · exact .inr (.inl h)
          · exact .inr (.inr h)
          · exfalso
            have h3 : m ≤ (ws.drop f).length := h2.2.1
            rw [← hl] at h3
            omega
      · rintro σ' H' ⟨ls, ds, zs, ys, y6, y7, y8, y9, rfl, sm, eW, aW, eL, aL, gL, eD, aD, gD, tr, sz⟩
        refine ⟨_, rfl, Lo, zs, rfl, .inl (.inl (.inl eL)), fun l nl => ?_⟩
        have s2 := same_upd (o := .lst zs) nl
        have e0 : qs.drop xs.length = [] := by rw [aW.1]; exact List.drop_length ..
        rw [e0] at tr sz
        refine ⟨ls, ds, zs, ys, l, _, _, _, _, _, _, rfl, sm.trans s2, (ne_of_none eD nl).symm, upd_same, all2_imp aL (ent_stay (.of s2)), gL, s2 _ _ eD, all2_imp aD (dent_stay (.of s2)), gD, ?_, ?_⟩
        · rcases tr with ⟨_, h, _⟩ | h | h
          · cases h
          · exact .inl h
          · exact .inr h
        · have : Sz ws.length [] = 0 := rfl
          omega
    · rintro σ' H' ⟨qs, ds, xs, ys, Wa, y4, y5, y6, y7, y8, y9, rfl, smx, nWD, eW, aW, gW, eD, aD, gD, track, sz⟩
      have hq : qs = [] := by
        cases qs with
        | nil => rfl
        | cons q0 r =>
          have := gW q0 (List.mem_cons_self ..)
          have := this.1.1
          omega
      subst hq
      have hm : (dpk W ws, dpc W ws) ∈ ds := track.resolve_left (fun ⟨_, h, _⟩ => nomatch h)
      exact ⟨_, rfl, q Dn ds ys H' smx eD aD gD hm⟩
theorem ok_least_from (T : Tab K mg) : FnOk P w K mg base CX0 1 T.f_least_from T.d_least_from ["_law_widths", "_law_limit"] (sp_least_from K) := by
  refine T.F_least_from.ok sc_least_from (fun vs H Q E h => ?_) (fun cdv A outer s H vs Q E hr h => ?_)
  · obtain ⟨a, ws, W, rfl, _⟩ := h
    rfl
  · obtain ⟨a, ws, W, rfl, hS, hF, hn, W1, W2, q⟩ := h
    refine ⟨_, (pss_cons (ps_set (i := 2) sc_least_from.nd rfl (.inl rfl) (pe_op op_rep (pe_lst (pa_cons pe_int pa_nil)) (pe_op op_add (pe_callB call_len_seq (by rfl) T.m_len PySem.boot_len (pa_cons (pv 0) pa_nil)) pe_int)))
      (pss_cons (ps_for PassesOwn.never rfl (pi_range2 (by rfl) T.m_range (pa_cons pe_int (pa_cons (pe_op op_add (pe_callB call_len_seq (by rfl) T.m_len PySem.boot_len (pa_cons (pv 0) pa_nil)) pe_int) pa_nil))) (pg_name (i := 3) sc_least_from.nd rfl (.inl rfl))
      (pss_cons (ps_set (i := 4) sc_least_from.nd rfl (.inl rfl) (pe_op op_sub (pe_callB call_len_seq (by rfl) T.m_len PySem.boot_len (pa_cons (pv 0) pa_nil)) (pv 3)))
        (pss_cons (ps_set (i := 5) sc_least_from.nd rfl (.inl rfl) (pe_lst pa_nil))
        (pss_cons (ps_set (i := 6) sc_least_from.nd rfl (.inl rfl) (pe_op op_add (pv 1) pe_int))
        (C8.pss_cut (ps_for PassesOwn.never rfl (pi_range2 (by rfl) T.m_range (pa_cons (pv 4) (pa_cons (pe_callB call_len_seq (by rfl) T.m_len PySem.boot_len (pa_cons (pv 0) pa_nil)) pa_nil))) (pg_name (i := 7) sc_least_from.nd rfl (.inl rfl))
        (pss_cons (ps_set (i := 6) sc_least_from.nd rfl (.inl rfl) (pe_op op_sub (pe_op op_sub (pv 6) (pe_ix ix_list (pv 0) (pv 7) (fun _ _ => rfl))) pe_int))
          (pss_cons (ps_if (pt_cmpR op_lt (pv 6) pe_int (nomark _))
          (pss_one ps_break)
          pss_nil)
          (pss_one (ps_if (pt_cmpR op_eq (pv 7) (pe_op op_sub (pe_callB call_len_seq (by rfl) T.m_len PySem.boot_len (pa_cons (pv 0) pa_nil)) pe_int) (nomark _))
          (pss_one (ps_expr (pe_bm PySem.F.plainAttrs_list PySem.F.slot_list_append PySem.F.type_list_append mt_append (pv 5) (pa_cons pe_int pa_nil))))
          (pss_one (ps_expr (pe_bm PySem.F.plainAttrs_list PySem.F.slot_list_append PySem.F.type_list_append mt_append (pv 5) (pa_cons (pe_op op_add (pe_op op_mul (pv 6) (pv 6)) (pe_ix ix_list (pv 2) (pe_op op_add (pv 7) pe_int) (fun _ _ => rfl))) pa_nil)))))))))
        (pss_one (ps_asg (pe_callB (cr_min rfl) (by rfl) T.m_min (by decide +kernel) (pa_cons (pv 5) pa_nil)) (pg_sub (pv 2) (pv 4) set_list))))))))
      (pss_one (ps_ret (pv 2))))), ?_⟩
    have ln : (ws.map V.int).length = ws.length := List.length_map ..
    have b63 : (2 : Int) ^ 63 = 9223372036854775808 := by decide
    have b62 : (2 : Int) ^ 62 = 4611686018427387904 := by decide
    have e64 : (2 : Int) ^ 64 = 18446744073709551616 := by decide
    have en : ((ws.length : Int) + 1).toNat = ws.length + 1 := by omega
    refine ⟨(by show 1 ≤ sizeLine; decide), fun p1 n1 => ?_⟩
    have s1 := same_upd (o := .lst [V.int 0]) n1
    refine ⟨_, rfl, a, _, rfl, .inl (s1.seq hS), ?_⟩
    rw [ln]
    refine ⟨_, _, rfl, rfl, p1, _, _, rfl, rfl, upd_same, by omega, by omega, ?_, fun pc nc => ?_⟩
    · rw [en]; exact Nat.le_of_lt (small1000 (by show 1 * (ws.length + 1) ≤ 1000; omega))
    rw [en, flat_rep, rep_int]
    have s2 := s1.trans (same_upd (o := .lst ((List.replicate (ws.length + 1) (0 : Int)).map V.int)) nc)
    have ec0 : (upd (upd H p1 (.lst [V.int 0])) pc (.lst ((List.replicate (ws.length + 1) (0 : Int)).map V.int))) pc = some (.lst ((List.replicate (ws.length + 1) (0 : Int)).map V.int)) := upd_same
    have fc : H pc = none := s1.free nc
    generalize upd (upd H p1 (.lst [V.int 0])) pc (.lst ((List.replicate (ws.length + 1) (0 : Int)).map V.int)) = H0 at s2 ec0
    refine ⟨_, rfl, a, _, rfl, .inl (s2.seq hS), ?_⟩
    rw [ln]
    refine ⟨_, _, rfl, rfl, _, _, rfl, ⟨by omega, by omega, by omega, by omega⟩, for_range (lo := 1) (n := ((ws.length : Int) + 1 - 1).toNat) (fun i σ' H' => ∃ (ls : List Int) (y3 y4 y5 y6 y7 : Option V), σ' = [some (.ref a), some (.int W), some (.ref pc), y3, y4, y5, y6, y7] ∧ ls.length = ws.length + 1 ∧ (∀ j, ws.length ≤ i + j → j ≤ ws.length → ls[j]? = some (dpc W (ws.drop j))) ∧ Same H H' ∧ H' pc = some (.lst (ls.map V.int)))
      ⟨List.replicate (ws.length + 1) 0, none, none, none, none, none, rfl, List.length_replicate, (fun j h1 h2 => ?_), s2, ec0⟩ ?_ ?_⟩
    · have : j = ws.length := by omega
      subst this
      rw [List.getElem?_replicate, if_pos (by omega), List.drop_length]
      rfl
    · rintro i σ' H' hi ⟨ls, y3, y4, y5, y6, y7, rfl, ll, tab, sm, eC⟩
      obtain ⟨f, hf, ef⟩ : ∃ f : Nat, f = ws.length - 1 - i ∧ (ws.length : Int) - (1 + (i : Nat)) = (f : Int) := ⟨_, rfl, by omega⟩
      have hfl : f < ws.length := by omega
      obtain ⟨l, hl⟩ : ∃ l, l = ws.drop f := ⟨_, rfl⟩
      have hll : l.length = ws.length - f := by rw [hl, List.length_drop]
      have hlF : ∀ y ∈ l, 0 ≤ y ∧ y ≤ W := fun y hy => hF y (by rw [hl] at hy; exact List.mem_of_mem_drop hy)
      have hlc : l = l.head (by intro e; rw [e] at hll; simp at hll; omega) :: l.tail := (List.cons_head_tail _).symm
      obtain ⟨m, hm, _, hdc, _, hall⟩ := dp_is (W := W) (by rw [← hlc]; exact hlF)
      rw [← hlc] at hm hdc hall
      have hdc : dpc W l = candc W l m := hdc
      have hall : ∀ j, Can W (-1) l j → dpc W l ≤ candc W l j := fun j hj => (hall j hj).1
      refine ⟨_, rfl, a, _, rfl, .inl (sm.seq hS), _, rfl, _, _, rfl, rfl, ?_⟩
      dsimp only
      rw [ln, ef]
      refine ⟨Nat.zero_le _, fun E0 nE => ?_⟩
      have sE := sm.trans (same_upd (o := .lst []) nE)
      have eC1 := same_upd (o := .lst []) nE _ _ eC
      have eE1 : (upd H' E0 (.lst [])) E0 = some (.lst []) := upd_same
      have nCE : pc ≠ E0 := ne_of_none eC nE
      have fE : H E0 = none := sm.free nE
      generalize upd H' E0 (.lst []) = H1 at sE eC1 eE1
      refine ⟨_, rfl, _, _, rfl, rfl, ?_⟩
      refine ⟨fun σ' H' => ∃ (ss : List Int) (y3 y6 y7 : Option V), σ' = [some (.ref a), some (.int W), some (.ref pc), y3, some (.int f), some (.ref E0), y6, y7] ∧ (∀ s ∈ ss, ∃ k, Can W (-1) l k ∧ s = candc W l k) ∧ (∀ k, Can W (-1) l k → candc W l k ∈ ss) ∧ Same H H' ∧ H' pc = some (.lst (ls.map V.int)) ∧ H' E0 = some (.lst (ss.map V.int)), ?_, ?_⟩
      · refine ⟨_, rfl, _, rfl, a, _, rfl, .inl (sE.seq hS), ?_⟩
        rw [ln]
        refine ⟨_, _, rfl, ⟨by omega, by omega, by omega, by omega⟩, for_range (lo := (f : Int)) (n := ((ws.length : Int) - (f : Int)).toNat) (fun j σ' H' => ∃ (ss : List Int) (y3 y7 : Option V) (rm : Int), σ' = [some (.ref a), some (.int W), some (.ref pc), y3, some (.int f), some (.ref E0), some (.int rm), y7] ∧ rm = W - upto (-1) l j ∧ ss.length = j ∧ (∀ s ∈ ss, ∃ k, Can W (-1) l k ∧ s = candc W l k) ∧ (∀ k, Can W (-1) l k → k ≤ j → candc W l k ∈ ss) ∧ Same H H' ∧ H' pc = some (.lst (ls.map V.int)) ∧ H' E0 = some (.lst (ss.map V.int)))
          ⟨[], _, _, W + 1, rfl, by unfold upto; simp, rfl, (fun _ h => nomatch h), (fun k h1 h2 => by have := h1.1; omega), sE, eC1, eE1⟩ ?_ ?_⟩
        · rintro j σ' H' hj ⟨ss, y3, y7, rm, rfl, rfl, lss, s1, s2, sm, eC, eE⟩
          have hj2 : f + j < ws.length := by omega
          have hx : ws[f + j]? = some ws[f + j] := List.getElem?_eq_getElem hj2
          have hxF := hF _ (List.getElem_mem hj2)
          generalize ws[f + j] = x at hx hxF
          have hxl : l[j]? = some x := by rw [hl, List.getElem?_drop]; exact hx
          have hu := upto_succ (-1) l j x hxl
          have eat : (f : Int) + (j : Nat) = ((f + j : Nat) : Int) := by omega
          rw [eat]
          refine ⟨_, rfl, _, rfl, _, rfl, _, _, _, _, rfl, rfl, sm.seq hS, atI_nat (get_ints hx), _, _, rfl, rfl, _, _, rfl, rfl, ?_⟩
          dsimp only
          rw [show W - upto (-1) l j - x - 1 = W - upto (-1) l (j + 1) by omega]
          have mono := upto_mono (u := -1) (l := l) (fun y hy => (hlF y hy).1) (j + 1)
          refine ⟨_, rfl, _, _, rfl, rfl, _, rfl, ite2 (fun e => ?_) (fun e => ?_)⟩
          · have h0 : W - upto (-1) l (j + 1) < 0 := of_decide_eq_true e
            refine ⟨ss, _, _, _, rfl, s1, fun k hk => s2 k hk ?_, sm, eC, eE⟩
            by_cases hkj : k ≤ j
            · exact hkj
            · have := mono (k - (j + 1))
              rw [show j + 1 + (k - (j + 1)) = k by omega] at this
              have := hk.2.2
              omega
          · have hge : upto (-1) l (j + 1) ≤ W := by
              have : ¬ W - upto (-1) l (j + 1) < 0 := fun h => e (decide_eq_true h)
              omega
            have hcan : Can W (-1) l (j + 1) := ⟨by omega, by omega, hge⟩
            have low : -1 ≤ upto (-1) l (j + 1) := by
              have := upto_mono (u := -1) (l := l) (fun y hy => (hlF y hy).1) 0 (j + 1)
              rw [Nat.zero_add] at this
              have h0 : upto (-1) l 0 = -1 := by unfold upto; simp
              omega
            have small : (ss.map V.int).length < sizeLine := by rw [List.length_map]; exact small1000 (by omega)
            have next : ∀ v : Int, v = candc W l (j + 1) → (ss ++ [v]).length = j + 1 ∧ (∀ s ∈ ss ++ [v], ∃ k, Can W (-1) l k ∧ s = candc W l k) ∧ (∀ k, Can W (-1) l k → k ≤ j + 1 → candc W l k ∈ ss ++ [v]) := fun v hv => by
              refine ⟨by rw [List.length_append, lss]; rfl, fun s hs => ?_, fun k hk hkj => ?_⟩
              · rcases List.mem_append.mp hs with h | h
                · exact s1 s h
                · exact ⟨j + 1, hcan, by rw [List.mem_singleton.mp h]; exact hv⟩
              · by_cases e : k ≤ j
                · exact List.mem_append_left _ (s2 k hk e)
                · have : k = j + 1 := by omega
                  subst this
                  exact List.mem_append_right _ (List.mem_singleton.mpr hv.symm)
            refine ⟨_, rfl, _, rfl, a, _, rfl, .inl (sm.seq hS), ?_⟩
            rw [ln]
            refine ⟨_, _, rfl, rfl, rfl, _, rfl, ite2 (fun e => ?_) (fun e => ?_)⟩
            · have h1 : ((f + j : Nat) : Int) = (ws.length : Int) - 1 := V.int.inj (of_decide_eq_true e)
              have nx := next 0 (by
                unfold candc
                rw [List.drop_eq_nil_of_le (show l.length ≤ j + 1 by omega)]
                rfl)
              refine ⟨_, rfl, .inl ⟨rfl, _, .inl (.inl eE)⟩, E0, _, _, rfl, rfl, eE, small, ss ++ [0], _, _, _, rfl, rfl, nx.1, nx.2.1, nx.2.2, same_put sm fE _, ?_, ?_⟩
              · rw [upd_ne nCE]; exact eC
              · rw [upd_same, List.map_append]; rfl
            · have h1 : f + j + 1 ≠ ws.length := fun h => e (decide_eq_true (congrArg V.int (by omega)))
              have t1 := tab (f + j + 1) (by omega) (by omega)
              have nx := next ((W - upto (-1) l (j + 1)) * (W - upto (-1) l (j + 1)) + dpc W (ws.drop (f + j + 1))) (by
                unfold candc usedW
                rw [if_neg (fun h => by rw [List.drop_eq_nil_iff] at h; omega), hl, List.drop_drop, ← hl]
                rfl)
              refine ⟨_, rfl, .inl ⟨rfl, _, .inl (.inl eE)⟩, _, rfl, _, rfl, _, _, rfl, rfl, .inl ⟨by omega, by omega⟩, _, rfl, _, rfl, _, _, rfl, rfl, _, _, _, _, rfl, rfl, .inl (.inl eC), atI_nat (j := f + j + 1) (get_ints t1), _, _, rfl, rfl, E0, _, _, rfl, rfl, eE, small, ss ++ [_], _, _, _, rfl, rfl, nx.1, nx.2.1, nx.2.2, same_put sm fE _, ?_, ?_⟩
              · rw [upd_ne nCE]; exact eC
              · rw [upd_same, List.map_append]; rfl
        · rintro σ' H' ⟨ss, y3, y7, rm, rfl, rfl, lss, s1, s2, sm, eC, eE⟩
          exact ⟨ss, _, _, _, rfl, s1, fun k hk => s2 k hk (by have := hk.2.1; omega), sm, eC, eE⟩
      · rintro σ' H' ⟨ss, y3, y6, y7, rfl, s1, s2, sm, eC, eE⟩
        have hmem : dpc W l ∈ ss := by rw [hdc]; exact s2 m hm
        refine ⟨_, rfl, E0, ss, rfl, .inl (.inl eE), List.length_pos_of_mem hmem, fun m' h1 h2 => ?_⟩
        have em : m' = dpc W l := by
          obtain ⟨k, hk, e⟩ := s1 m' h1
          have h3 := hall k hk
          have h4 := h2 _ hmem
          omega
        subst em
        refine ⟨_, rfl, _, rfl, pc, _, _, f, rfl, rfl, eC, ixN_nat (by rw [List.length_map, ll]; omega), ?_⟩
        refine ⟨ls.set f (dpc W l), _, _, _, _, _, rfl, by rw [List.length_set]; exact ll, fun j h1 h2 => ?_, same_put sm fc _, by rw [upd_same, set_ints]⟩
        by_cases e : j = f
        · subst e
          rw [List.getElem?_set_self (by omega), hl]
        · rw [List.getElem?_set_ne (by omega)]
          exact tab j (by omega) h2
    · rintro σ' H' ⟨ls, y3, y4, y5, y6, y7, rfl, ll, tab, sm, eC⟩
      exact ⟨_, rfl, q pc ls H' sm eC ll fun i hi => tab i (by omega) hi⟩
theorem ok_row_width (T : Tab K mg) : FnOk P w K mg base CX0 2 T.f_row_width T.d_row_width ["row"] (sp_row_width K) := by
  refine T.F_row_width.ok sc_row_width (fun vs H Q E h => ?_) (fun cdv A outer s H vs Q E hr h => ?_)
  · obtain ⟨z, rfl, _⟩ := h
    rfl
  · obtain ⟨z, rfl, hz, q⟩ := h
    refine ⟨_, (pss_one (ps_ret (pe_call (ok_token_width T) (hr.mono (by decide)) (by rfl) T.g_token_width T.F_token_width.kp T.b_token_width .nil pass0 (pa_cons (pv 0) pa_nil)))), ?_⟩
    exact ⟨_, rfl, z, rfl, hz, q⟩
theorem ok_row_ends (T : Tab K mg) : FnOk P w K mg base CX0 2 T.f_row_ends T.d_row_ends ["widths", "width"] (sp_row_ends K) := by
  refine T.F_row_ends.ok sc_row_ends (fun vs H Q E h => ?_) (fun cdv A outer s H vs Q E hr h => ?_)
  · obtain ⟨a, ws, W, rfl, _⟩ := h
    rfl
  · obtain ⟨a, ws, W, rfl, hS, hn, hW, hF, q⟩ := h
    refine ⟨_, (pss_cons (ps_set (i := 2) sc_row_ends.nd rfl (.inl rfl) (pe_op op_rep (pe_lst (pa_cons pe_int pa_nil)) (pe_callB call_len_seq (by rfl) T.m_len PySem.boot_len (pa_cons (pv 0) pa_nil))))
      (pss_cons (ps_set (i := 3) sc_row_ends.nd rfl (.inl rfl) (pe_op op_rep (pe_lst (pa_cons (pe_callB call_len_seq (by rfl) T.m_len PySem.boot_len (pa_cons (pv 0) pa_nil)) pa_nil)) (pe_callB call_len_seq (by rfl) T.m_len PySem.boot_len (pa_cons (pv 0) pa_nil))))
      (pss_cons (ps_expr (pe_call (ok_fill_ends T) (hr.mono (by decide)) (by rfl) T.g_fill_ends T.F_fill_ends.kp T.b_fill_ends .nil pass0 (pa_cons (pv 0) (pa_cons (pv 1) (pa_cons (pv 2) (pa_cons (pv 3) (pa_cons (pe_tup (pa_cons pe_int (pa_cons (pe_callB call_len_seq (by rfl) T.m_len PySem.boot_len (pa_cons (pv 0) pa_nil)) pa_nil))) pa_nil)))))))
      (pss_one (ps_ret (pv 3)))))), ?_⟩
    have ln : (ws.map V.int).length = ws.length := List.length_map ..
    refine ⟨(by show 1 ≤ sizeLine; decide), fun p1 n1 => ?_⟩
    have s1 := same_upd (o := .lst [V.int 0]) n1
    refine ⟨_, rfl, _, _, rfl, .inl (s1.seq hS), ?_⟩
    rw [ln]
    have b63 : (2 : Int) ^ 63 = 9223372036854775808 := by decide
    refine ⟨p1, _, _, rfl, rfl, upd_same, by omega, by omega, ?_, fun pc nc => ?_⟩
    · rw [Int.toNat_natCast]; exact Nat.le_of_lt (small1000 (by show 1 * ws.length ≤ 1000; omega))
    rw [Int.toNat_natCast, flat_rep, rep_int]
    have s2 := s1.trans (same_upd (o := .lst ((List.replicate ws.length (0 : Int)).map V.int)) nc)
    have ec : upd (upd H p1 (.lst [V.int 0])) pc (.lst ((List.replicate ws.length (0 : Int)).map V.int)) pc = some (.lst ((List.replicate ws.length (0 : Int)).map V.int)) := upd_same
    have fc : H pc = none := s1.free nc
    generalize upd (upd H p1 (.lst [V.int 0])) pc (.lst ((List.replicate ws.length (0 : Int)).map V.int)) = H2 at s2 ec
    refine ⟨_, rfl, _, _, rfl, .inl (s2.seq hS), ?_⟩
    rw [ln]
    refine ⟨(by show 1 ≤ sizeLine; decide), fun p3 n3 => ?_⟩
    have s3 := same_upd (o := .lst [V.int ws.length]) n3
    refine ⟨_, rfl, _, _, rfl, .inl ((s2.trans s3).seq hS), ?_⟩
    rw [ln]
    refine ⟨p3, _, _, rfl, rfl, upd_same, by omega, by omega, ?_, fun pe ne => ?_⟩
    · rw [Int.toNat_natCast]; exact Nat.le_of_lt (small1000 (by show 1 * ws.length ≤ 1000; omega))
    rw [Int.toNat_natCast, flat_rep, rep_int]
    have s4 := s3.trans (same_upd (o := .lst ((List.replicate ws.length (ws.length : Int)).map V.int)) ne)
    have fe : H pe = none := (s2.trans s3).free ne
    have npe : pc ≠ pe := ne_of_none (s3 _ _ ec) ne
    have ee : upd (upd H2 p3 (.lst [V.int ws.length])) pe (.lst ((List.replicate ws.length (ws.length : Int)).map V.int)) pe = some (.lst ((List.replicate ws.length (ws.length : Int)).map V.int)) := upd_same
    generalize upd (upd H2 p3 (.lst [V.int ws.length])) pe (.lst ((List.replicate ws.length (ws.length : Int)).map V.int)) = H4 at s4 ee
    have s04 := s2.trans s4
    refine ⟨_, rfl, _, rfl, _, rfl, _, rfl, _, rfl, _, _, rfl, .inl (s04.seq hS), ?_⟩
    rw [ln]
    refine ⟨(by show 2 ≤ sizeLine; decide), fun ps np => ?_⟩
    have s5 := same_upd (o := .tup [.int 0, .int ws.length]) np
    refine ⟨H, a, pc, pe, ps, ws, _, _, W, rfl, s04.trans s5, hS, hn, hW, hF, fc, fe, npe, (s4.trans s5) _ _ ec, s5 _ _ ee, List.length_replicate, List.length_replicate, upd_same, fun es H' s he le tab => ?_⟩
    exact ⟨_, rfl, q pe es H' s fe he le tab⟩
theorem ok_rows (T : Tab K mg) : FnOk P w K mg base CX0 2 T.f_rows T.d_rows ["_law_tokens", "_law_limit"] (sp_rows K) := by
  refine T.F_rows.ok sc_rows (fun vs H Q E h => ?_) (fun cdv A outer s H vs Q E hr h => ?_)
  · obtain ⟨a, zs, W, rfl, _⟩ := h
    rfl
  · obtain ⟨a, zs, W, rfl, hS, hT, hW, hF, q⟩ := h
    obtain ⟨t1, t2, t3⟩ := id hT
    refine ⟨_, (pss_cons (ps_set (i := 2) sc_rows.nd rfl (.inl rfl) (pe_lst pa_nil))
      (pss_cons (ps_set (i := 3) sc_rows.nd rfl (.inl rfl) pe_int)
      (pss_cons (ps_for PassesOwn.never rfl (pi_list (pe_call (ok_cut T) (hr.mono (by decide)) (by rfl) T.g_cut T.F_cut.kp T.b_cut .nil pass0 (pa_cons (pe_lc (own := [("_law_token_here", 5)]) (g := gName 5) (by rfl) sc_rows.nd (pi_list (pv 0)) (blkOk_by (own := [("_law_token_here", 5)]) (N := N_rows) (sc := defScope s_rows) (by decide +kernel)) (fun _ _ _ _ _ => pg_name (i := 5) sc_rows.nd rfl (.inl rfl)) (fun _ _ _ _ _ => pts_nil) (fun _ _ _ _ _ => (pe_call (ok_width T) (hr.mono (by decide)) (by rfl) T.g_width T.F_width.kp T.b_width .nil pass0 (pa_cons (pv 5) pa_nil)))) (pa_cons (pv 1) pa_nil)))) (pg_name (i := 4) sc_rows.nd rfl (.inl rfl))
      (pss_cons (ps_expr (pe_bm PySem.F.plainAttrs_list PySem.F.slot_list_append PySem.F.type_list_append mt_append (pv 2) (pa_cons (pe_join pe_str (pe_slice sl_list (pv 0) (po_some (pv 3)) (po_some (pe_op op_add (pv 3) (pv 4))))) pa_nil)))
        (pss_one (ps_set (i := 3) sc_rows.nd rfl (.inl rfl) (pe_op op_add (pv 3) (pv 4))))))
      (pss_one (ps_ret (pv 2)))))), ?_⟩
    have lw : (wids zs).length = zs.length := List.length_map ..
    have hS0 := hS
    refine ⟨Nat.zero_le _, fun R fR => ?_⟩
    have s1 := same_upd (o := .lst []) fR
    have e1 : (upd H R (.lst [])) R = some (.lst []) := upd_same
    generalize upd H R (.lst []) = H1 at s1 e1
    replace hS := s1.seq hS
    refine ⟨_, rfl, a, rfl, ⟨_, hS⟩, fun D nD0 => ?_⟩
    refine lc_list (xs := zs.map V.str) (fun i H' => Same H1 H' ∧ H' D = some (.lst ((wids (zs.take i)).map V.int))) ⟨same_upd nD0, upd_same⟩ (fun i H' _ hh => Same.seq hh.1 hS) ?_ ?_
    · rintro i x H' hx ⟨sm, eD⟩
      obtain ⟨z, rfl, hz⟩ := get_map hx
      have hz1 := (t3 z (List.mem_of_getElem? hz)).1
      have hi : i < zs.length := (List.getElem?_eq_some_iff.mp hz).1
      refine ⟨rfl, ?_⟩
      refine ⟨_, rfl, z, rfl, Nat.le_of_lt (small1000 (by omega)), _, eD, ?_, same_put sm nD0 _, ?_⟩
      · rw [List.length_map]; unfold wids; rw [List.length_map, List.length_take]; exact small1000 (by omega)
      · rw [upd_same, wids_snoc hz, List.map_append]; rfl
    rintro H' ⟨sm, eD⟩
    rw [wids_all] at eD
    refine ⟨_, rfl, D, wids zs, W, rfl, .inl (.inl eD), by omega, by omega, fits_of hF, fun p ks H2 s2 np ek ep => ?_⟩
    have ekt : ks = takes W zs := ek
    subst ekt
    refine ⟨p, rfl, ⟨_, .inl (.inl ep)⟩, for_list (xs := (cnts (takes W zs) 0).map fun k => V.int (k : Nat)) (fun i σ' H' => ∃ (at' : Nat) (rs : List Str) (y4 : Option V), σ' = [some (.ref a), some (.int W), some (.ref R), some (.int at'), y4, none] ∧ at' ≤ zs.length ∧ rs ++ rows (zs.drop at') ((takes W zs).drop at') 0 = setL W zs ∧ (cnts (takes W zs) 0).drop i = cnts ((takes W zs).drop at') 0 ∧ rs.length ≤ at' ∧ Same H H' ∧ H' R = some (.lst (rs.map V.str)) ∧ H' p = some (.lst ((cnts (takes W zs) 0).map fun k => V.int (k : Nat))))
      ⟨0, [], none, rfl, Nat.zero_le _, rfl, rfl, Nat.le_refl _, (s1.trans sm).trans s2, s2 _ _ (sm _ _ e1), ep⟩ (fun i σ' H' _ hh => ?_) ?_ ?_⟩
    · obtain ⟨_, _, _, _, _, _, _, _, _, _, e⟩ := hh
      exact .inl (.inl e)
    · rintro i x σ' H' hx ⟨at', rs, y4, rfl, ha, er, ecn, lr, sm2, eR, eP⟩
      obtain ⟨k, rfl, hk⟩ : ∃ k : Nat, x = .int (k : Int) ∧ (cnts (takes W zs) 0)[i]? = some k := by
        rw [List.getElem?_map] at hx
        cases e : (cnts (takes W zs) 0)[i]? with
        | none => rw [e] at hx; cases hx
        | some k => rw [e] at hx; exact ⟨k, (Option.some.inj hx).symm, rfl⟩
      have hil := (List.getElem?_eq_some_iff.mp hk).1
      have hik := (List.getElem?_eq_some_iff.mp hk).2
      have hat : at' < zs.length := by
        rcases Nat.lt_or_ge at' zs.length with h | h
        · exact h
        · rw [List.drop_of_length_le (show (takes W zs).length ≤ at' by rw [takes_len]; exact h), List.drop_eq_getElem_cons hil] at ecn
          cases ecn
      obtain ⟨q0, ed, et, k1, k2⟩ := takes_at W zs hF at' hat
      generalize q0.2 = k' at et k1 k2
      have hst := cnts_step (takes W zs) at' k' et k1
      rw [hst, List.drop_eq_getElem_cons hil, hik] at ecn
      injection ecn with i1 i2
      subst i1
      have hsub : ∀ z ∈ (zs.drop at').take k, z.length ≤ 1000 := fun z hz => Nat.le_trans (t3 z (List.mem_of_mem_drop (List.mem_of_mem_take hz))).1 (by decide)
      have hfit2 := join_fit ((zs.drop at').take k) hsub (by rw [List.length_take, List.length_drop]; omega)
      refine ⟨_, rfl, .inl ⟨rfl, _, .inl (.inl eR)⟩, ⟨_, rfl⟩, _, rfl, _, rfl, _, rfl, _, rfl, _, rfl, _, _, rfl, rfl, _, rfl, _, _, rfl, sm2.seq hS0, fun p2 np2 => ?_⟩
      rw [cut_strs zs at' k k2]
      have s3 := same_upd (o := .lst (((zs.drop at').take k).map V.str)) np2
      refine ⟨_, p2, _, rfl, rfl, .inl (.inl (.inl upd_same)), hfit2, _, _, _, rfl, rfl, s3 _ _ eR, ?_, ?_⟩
      · rw [List.length_map]; exact small1000 (by omega)
      refine ⟨_, rfl, _, rfl, _, _, rfl, rfl, at' + k, rs ++ [Txt.join " " ((zs.drop at').take k)], _, rfl, k2, ?_, i2, ?_, same_put (sm2.trans s3) fR _, ?_, ?_⟩
      · rw [← er, rows_step zs (takes W zs) at' k hat et k1, List.append_assoc]
        rfl
      · rw [List.length_append, List.length_singleton]
        omega
      · rw [upd_same, List.map_append]; rfl
      · by_cases h : p = R
        · subst h
          rw [sm _ _ e1] at np
          cases np
        · rw [upd_ne h]; exact s3 _ _ eP
    · rintro σ' H' ⟨at', rs, y4, rfl, ha, er, ecn, lr, sm2, eR, eP⟩
      rw [List.length_map, List.drop_length] at ecn
      have h0 := cnts_ne ecn.symm
      have hl := congrArg List.length h0
      rw [List.length_drop, takes_len, List.length_nil] at hl
      have : at' = zs.length := by omega
      subst this
      rw [List.drop_length, rows_end, List.append_nil] at er
      subst er
      exact ⟨_, rfl, q R H' sm2 fR eR⟩
theorem ok_token (T : Tab K mg) : FnOk P w K mg base CX0 2 T.f_token T.d_token ["_law_source_here", "_law_wide"] (sp_token K) := by
  refine T.F_token.ok sc_token (fun vs H Q E h => ?_) (fun cdv A outer s H vs Q E hr h => ?_)
  · obtain ⟨a, w, rfl, _⟩ := h
    rfl
  · obtain ⟨a, w, rfl, hs, w1, w2, q⟩ := h
    refine ⟨_, (pss_cons (ps_if (pt_cmpR op_eq (pe_call (ok_pick T) (hr.mono (by decide)) (by rfl) T.g_pick T.F_pick.kp T.b_pick .nil pass0 (pa_cons (pv 0) (pa_cons pe_int pa_nil))) pe_int (nomark _))
      (pss_one (ps_ret (pe_op op_add_str (pe_op op_rep_str (pe_ix ix_str pe_str (pe_call (ok_pick T) (hr.mono (by decide)) (by rfl) T.g_pick T.F_pick.kp T.b_pick .nil pass0 (pa_cons (pv 0) (pa_cons pe_int pa_nil))) (fun _ _ => rfl)) (pe_op op_fdiv (pv 1) pe_int)) (pe_op op_rep_str pe_str (pe_op op_sub (pv 1) (pe_op op_mul (pe_op op_fdiv (pv 1) pe_int) pe_int))))))
      pss_nil)
      (pss_one (ps_ret (pe_op op_rep_str (pe_ix ix_str pe_str (pe_call (ok_pick T) (hr.mono (by decide)) (by rfl) T.g_pick T.F_pick.kp T.b_pick .nil pass0 (pa_cons (pv 0) (pa_cons pe_int pa_nil))) (fun _ _ => rfl)) (pv 1))))), ?_⟩
    have hsp : ("n" : Str) = ⟨#[110]⟩ := rfl
    refine ⟨_, rfl, _, _, rfl, hs, by decide, by decide, fun r0 H0 s0 b0 p1 p2 => ?_⟩
    refine ⟨rfl, _, rfl, ite2 (fun e => ?_) (fun e => ?_)⟩
    · have el : ("mw" : Str).length = 2 := by decide +kernel
      refine ⟨_, rfl, _, _, rfl, s0, by decide, by decide, fun r H1 s1 b1 p1 p2 => ?_⟩
      have hj : r.toNat < ("mw" : Str).cps.toList.length := by
        have : ("mw" : Str).length = ("mw" : Str).cps.toList.length := rfl
        omega
      have hm := List.getElem_mem hj
      have hc := sign_ok "mw" (by decide +kernel) hm
      have hc32 : ∀ c ∈ ("mw" : Str).cps.toList, c ≠ 32 := by decide +kernel
      refine ⟨_, _, _, rfl, rfl, (by rw [el]; exact Nat.le_of_lt (small1000 (by decide))), at_of' (by omega) (List.getElem?_eq_getElem hj), ?_⟩
      generalize ("mw" : Str).cps.toList[r.toNat] = c at hc hm
      have h1 := ok_mul1 (n := w / 2) (N := 20) hc (by omega)
      have h2 := ok_mul1 (c := 110) (n := w - w / 2 * 2) (N := 1) (by decide) (by omega)
      have k1 := tok_mul (c := c) (n := w / 2) (by omega) (hc32 c hm)
      have k2 := tok_mul (c := 110) (n := w - w / 2 * 2) (by omega) (by decide)
      refine ⟨_, rfl, _, _, rfl, rfl, ⟨by decide, by decide⟩, _, _, rfl, rfl, mul_ok (by show 1 ≤ 100; decide) (by omega) (by omega), ?_⟩
      refine ⟨_, rfl, _, rfl, _, _, rfl, rfl, ⟨by decide, by decide⟩, _, _, rfl, rfl, .inr ⟨by decide, by decide⟩, _, _, rfl, rfl, "n", _, rfl, rfl, mul_ok (by decide +kernel) (by omega) (by omega), _, _, rfl, rfl, ?_, ?_⟩
      · exact Nat.le_of_lt (small1000 (by rw [hsp]; omega))
      · refine q _ H1 s1 (But.trans b0 b1) (by rw [len_app, hsp]; omega) (ok_app _ _ h1.2 (by rw [hsp]; exact h2.2)) ?_ ?_
        · rw [tl_app, hsp]
          intro h
          rcases List.mem_append.mp h with h | h
          · exact k1.1 h
          · exact k2.1 h
        · have e2 : (if (110 : Nat) = 109 ∨ (110 : Nat) = 119 then (1 : Int) else 0) = 0 := by decide
          rw [wid_app, hsp, k1.2, k2.2, e2]
          split <;> omega
    · have el : ("abnx.1" : Str).length = 6 := by decide +kernel
      refine ⟨_, rfl, _, _, rfl, s0, by decide, by decide, fun r H1 s1 b1 p1 p2 => ?_⟩
      have hj : r.toNat < ("abnx.1" : Str).cps.toList.length := by
        have : ("abnx.1" : Str).length = ("abnx.1" : Str).cps.toList.length := rfl
        omega
      have hm := List.getElem_mem hj
      have hc := sign_ok "abnx.1" (by decide +kernel) hm
      have hc32 : ∀ c ∈ ("abnx.1" : Str).cps.toList, c ≠ 32 ∧ ¬ (c = 109 ∨ c = 119) := by decide +kernel
      refine ⟨_, _, _, rfl, rfl, (by rw [el]; exact Nat.le_of_lt (small1000 (by decide))), at_of' (by omega) (List.getElem?_eq_getElem hj), ?_⟩
      generalize ("abnx.1" : Str).cps.toList[r.toNat] = c at hc hm
      have h1 := ok_mul1 (n := w) (N := 20) hc (by omega)
      have k1 := tok_mul (c := c) (n := w) (by omega) (hc32 c hm).1
      refine ⟨_, rfl, _, _, rfl, rfl, mul_ok (by show 1 ≤ 100; decide) (by omega) (by omega), q _ H1 s1 (b0.trans b1) (by omega) h1.2 k1.1 ?_⟩
      rw [k1.2, if_neg (hc32 c hm).2]
      omega
theorem ok_counts (T : Tab K mg) : FnOk P w K mg base CX0 2 T.f_counts T.d_counts ["_law_rows_here", "_law_tokens", "_law_limit"] (sp_counts K) := by
  refine T.F_counts.ok sc_counts (fun vs H Q E h => ?_) (fun cdv A outer s H vs Q E hr h => ?_)
  · obtain ⟨a, b, zs, W, rfl, _⟩ := h
    rfl
  · obtain ⟨a, b, zs, W, rfl, hT, hS, hz, hz2, W1, W2, q⟩ := h
    refine ⟨_, (pss_cons (ps_if (pt_not (pt_val (pe_callB call_isi (by rfl) T.m_isinstance (by decide +kernel) (pa_cons (pv 0) (pa_cons (pe_bltn (v := .ty "tuple") (u := .type "tuple") (by rfl) T.m_tuple (by decide +kernel) rfl) pa_nil)))))
      (pss_one (ps_ret pe_non))
      pss_nil)
      (pss_cons (ps_set (i := 3) sc_counts.nd rfl (.inl rfl) (pe_lst pa_nil))
      (pss_cons (ps_set (i := 4) sc_counts.nd rfl (.inl rfl) (pe_lst pa_nil))
      (pss_cons (ps_for PassesOwn.never rfl (pi_tup (pv 0)) (pg_name (i := 5) sc_counts.nd rfl (.inl rfl))
      (pss_cons (ps_if (PW.pt (pw_or (pt_not (pt_val (pe_callB call_isi (by rfl) T.m_isinstance (by decide +kernel) (pa_cons (pv 5) (pa_cons (pe_bltn (v := .ty "str") (u := .type "str") (by rfl) T.m_str (by decide +kernel) rfl) pa_nil))))) (pw_or1 (pt_cmpR op_gt (pe_call (ok_width T) (hr.mono (by decide)) (by rfl) T.g_width T.F_width.kp T.b_width .nil pass0 (pa_cons (pv 5) pa_nil)) (pv 2) (nomark _)))))
        (pss_one (ps_ret pe_non))
        pss_nil)
        (pss_cons (ps_expr (pe_bm PySem.F.plainAttrs_list PySem.F.slot_list_append PySem.F.type_list_append mt_append (pv 3) (pa_cons (pe_callB call_len_seq (by rfl) T.m_len PySem.boot_len (pa_cons (pe_split (pv 5) pe_str) pa_nil)) pa_nil)))
        (pss_one (ps_set (i := 4) sc_counts.nd rfl (.inl rfl) (pe_op op_cat (pv 4) (pe_split (pv 5) pe_str)))))))
      (pss_cons (ps_if (pt_cmpR (op_neD hr.units) (pv 4) (pv 1) (nomark _))
      (pss_one (ps_ret pe_non))
      pss_nil)
      (pss_one (ps_ret (pe_callTy call_tuple_of (by rfl) T.m_tuple (by decide +kernel) (pa_cons (pv 3) pa_nil))))))))), ?_⟩
    obtain ⟨t1, t2, t3⟩ := id hz
    have hF := fits_of (W := W) (zs := zs) fun z hz => Int.le_trans (hz2 z hz).2 W1
    have hway := dpk_way (W := W) _ (wids zs) (Nat.le_refl _) hF
    obtain ⟨c1, c2, c3, c4⟩ := way_chunks hway zs rfl
    have hch := setL_chunk (W := W) _ zs (Nat.le_refl _) hF
    generalize hcs : chunk zs (dpk W (wids zs)) = cs at c1 c2 c3 hch
    generalize hks : dpk W (wids zs) = ks at c3 q
    rw [hch, List.map_map] at hT
    have sub : ∀ ch ∈ cs, ∀ z ∈ ch, z ∈ zs := fun ch h z hz => by
      rw [← c1]
      exact List.mem_flatten.mpr ⟨ch, h, hz⟩
    have small : ∀ ch ∈ cs, (Txt.join " " ch).length ≤ 60 := fun ch h => by
      have := (c2 ch h).2
      have := wid_ge (Txt.join " " ch)
      omega
    have split : ∀ ch ∈ cs, Txt.split (Txt.join " " ch) " " = ch := fun ch h => by
      rw [TL.split_join (s := 32) (S := []) (by rfl) (by decide +kernel) (c2 ch h).1 fun z hzm => (hz2 z (sub ch h z hzm)).1]
    have lks : ks.length = cs.length := by rw [← c3, List.length_map]
    have lfl : ∀ i, ((cs.take i).flatten).length ≤ 34 := fun i => by
      have h1 : ((cs.take i).flatten).length + ((cs.drop i).flatten).length = zs.length := by
        rw [← List.length_append, ← List.flatten_append, List.take_append_drop, c1]
      omega
    have lch : ∀ ch ∈ cs, ch.length ≤ 34 := fun ch h => by
      have := List.Sublist.length_le (List.sublist_flatten_of_mem h)
      rw [c1] at this
      omega
    have lcs : cs.length ≤ 34 := by
      have h1 : ∀ l : List (List Str), (∀ ch ∈ l, ch ≠ []) → l.length ≤ l.flatten.length := fun l => by
        induction l with
        | nil => exact fun _ => Nat.le_refl _
        | cons x r ih =>
          intro h
          have hx := List.length_pos_iff.mpr (h x (List.mem_cons_self ..))
          have := ih fun y hy => h y (List.mem_cons_of_mem _ hy)
          rw [List.flatten_cons, List.length_append, List.length_cons]
          omega
      have := h1 cs fun ch h => (c2 ch h).1
      rw [c1] at this
      omega
    refine ⟨_, rfl, _, _, _, _, _, rfl, .ty "tuple", ty_T hT, kit_ty (by decide +kernel), true, rfl, iteF ?_⟩
    refine ⟨Nat.zero_le _, fun D nD => ⟨Nat.zero_le _, fun E0 nE => ?_⟩⟩
    have s1 := same_upd (o := .lst []) nD
    have s2 := s1.trans (same_upd (o := .lst []) nE)
    have eD := same_upd (o := .lst []) nE D _ upd_same
    have nDE : D ≠ E0 := ne_of_none upd_same nE
    have eE : (upd (upd H D (.lst [])) E0 (.lst [])) E0 = some (.lst []) := upd_same
    generalize upd (upd H D (.lst [])) E0 (.lst []) = H0 at s2 eD eE
    refine ⟨_, rfl, a, rfl, ⟨_, same_seqT s2 hT⟩, for_tup (xs := cs.map (V.str ∘ Txt.join " ")) (fun i σ' H' => Same H H' ∧ ∃ (S : Addr) (y5 : Option V), σ' = [some (.ref a), some (.ref b), some (.int W), some (.ref D), some (.ref S), y5] ∧ D ≠ S ∧ H' D = some (.lst (natV (ks.take i))) ∧ H' S = some (.lst (((cs.take i).flatten).map V.str))) ⟨s2, E0, none, rfl, nDE, eD, eE⟩ (fun i σ' H' _ hh => same_seqT hh.1 hT) ?_ ?_⟩
    · rintro i x σ' H' hx ⟨sm, S, y5, rfl, nDS, eD, eS⟩
      have hi : i < cs.length := by
        have := (List.getElem?_eq_some_iff.mp hx).1
        rwa [List.length_map] at this
      have hmem := List.getElem_mem hi
      have ex : x = .str (Txt.join " " cs[i]) := by
        rw [List.getElem?_map, List.getElem?_eq_getElem hi] at hx
        exact (Option.some.inj hx).symm
      subst ex
      have hsm := small _ hmem
      have hsp := split _ hmem
      have hwd := (c2 _ hmem).2
      have hlc := lch _ hmem
      have hki : ks[i]? = some (cs[i]).length := by
        rw [← c3, List.getElem?_map, List.getElem?_eq_getElem hi]
        rfl
      have htk : ks.take (i + 1) = ks.take i ++ [(cs[i]).length] := by rw [List.take_add_one, hki]; rfl
      have hfl : (cs.take (i + 1)).flatten = (cs.take i).flatten ++ cs[i] := by
        rw [List.take_add_one, List.getElem?_eq_getElem hi, List.flatten_append]
        simp
      have hlf := lfl i
      rw [htk, hfl]
      generalize Txt.join " " cs[i] = z at hsm hsp hwd
      generalize cs[i] = ch at hsp hlc
      have hzl : z.length ≤ sizeLine := Nat.le_of_lt (small1000 (by omega))
      refine ⟨_, rfl, _, _, _, _, _, rfl, .ty "str", .base (.str z), kit_ty (by decide +kernel), true, rfl, iteF ?_⟩
      refine ⟨_, rfl, z, rfl, hzl, _, rfl, _, _, rfl, rfl, _, rfl, ite2 (fun e => ?_) (fun _ => ?_)⟩
      · have : W < wid z := of_decide_eq_true e
        omega
      refine ⟨_, rfl, .inl ⟨rfl, _, .inl (.inl eD)⟩, _, rfl, ⟨_, rfl⟩, z, _, rfl, rfl, (by decide +kernel), ?_, fun p np => ?_⟩
      · exact Nat.le_of_lt (small1000 (by omega))
      rw [hsp]
      have sp := same_upd (o := .lst (ch.map V.str)) np
      have ep : (upd H' p (.lst (ch.map V.str))) p = some (.lst (ch.map V.str)) := upd_same
      have eDp := sp _ _ eD
      have eSp := sp _ _ eS
      have smp := sm.trans sp
      generalize upd H' p (.lst (ch.map V.str)) = H1 at ep eDp eSp smp
      refine ⟨p, _, rfl, .inl (.inl (.inl ep)), D, _, _, rfl, rfl, eDp, ?_, ?_⟩
      · unfold natV
        rw [List.length_map, List.length_take]
        exact small1000 (by omega)
      have smD := same_put smp nD (.lst (natV (ks.take i) ++ [.int ((ch.map V.str).length : Int)]))
      have eD1 : (upd H1 D (.lst (natV (ks.take i) ++ [.int ((ch.map V.str).length : Int)]))) D = some (.lst (natV (ks.take i ++ [ch.length]))) := by
        rw [upd_same, List.length_map]
        unfold natV
        rw [List.map_append]
        rfl
      have eS1 : (upd H1 D (.lst (natV (ks.take i) ++ [.int ((ch.map V.str).length : Int)]))) S = some (.lst (((cs.take i).flatten).map V.str)) := by
        rw [upd_ne nDS.symm]
        exact eSp
      generalize upd H1 D (.lst (natV (ks.take i) ++ [.int ((ch.map V.str).length : Int)])) = H2 at smD eD1 eS1
      refine ⟨_, rfl, _, rfl, ⟨_, rfl⟩, z, _, rfl, rfl, (by decide +kernel), ?_, fun p2 np2 => ?_⟩
      · exact Nat.le_of_lt (small1000 (by omega))
      rw [hsp]
      have sp2 := same_upd (o := .lst (ch.map V.str)) np2
      have ep2 : (upd H2 p2 (.lst (ch.map V.str))) p2 = some (.lst (ch.map V.str)) := upd_same
      have eD2 := sp2 _ _ eD1
      have eS2 := sp2 _ _ eS1
      have sm2 := smD.trans sp2
      generalize upd H2 p2 (.lst (ch.map V.str)) = H3 at ep2 eD2 eS2 sm2
      refine ⟨S, p2, _, _, rfl, rfl, eS2, ep2, ?_, fun r nr => ?_⟩
      · rw [List.length_map, List.length_map]
        exact Nat.le_of_lt (small1000 (by omega))
      have s3 := same_upd (o := .lst (((cs.take i).flatten).map V.str ++ ch.map V.str)) nr
      refine ⟨sm2.trans s3, r, _, rfl, ne_of_none eD2 nr, s3 _ _ eD2, ?_⟩
      rw [upd_same, List.map_append]
    · rintro σ' H' ⟨sm, S, y5, rfl, nDS, eD, eS⟩
      rw [List.length_map, List.take_length, c1] at eS
      rw [List.length_map, ← lks, List.take_length] at eD
      refine ⟨_, rfl, _, rfl, .list (zs.map PyData.str), .list (zs.map PyData.str), .lst (.inl (.inl eS)) (dp_strs zs), .lst (sm.seq hS) (dp_strs zs), shaped_l zs (fun z hz => (t3 z hz).2), shaped_l zs (fun z hz => (t3 z hz).2), _, rfl, ?_⟩
      have ee : PyData.eqv (.list (zs.map PyData.str)) (.list (zs.map PyData.str)) = true := by
        show PyData.eqvAll (zs.map PyData.str) (zs.map PyData.str) = true
        rw [eqv_strs]
        exact decide_eq_true rfl
      rw [ee]
      refine iteF ?_
      refine ⟨_, rfl, D, _, rfl, .inl ⟨.inl (.inl eD), fun l nl => ?_⟩⟩
      exact q l _ (sm.trans (same_upd nl)) upd_same
theorem ok_rows_are_least (T : Tab K mg) : FnOk P w K mg base CX0 2 T.f_rows_are_least T.d_rows_are_least ["_law_widths", "_law_limit", "_law_counts_here"] (sp_rows_are_least K) := by
  refine T.F_rows_are_least.ok sc_rows_are_least (fun vs H Q E h => ?_) (fun cdv A outer s H vs Q E hr h => ?_)
  · obtain ⟨a, b, ws, W, rfl, _⟩ := h
    rfl
  · obtain ⟨a, b, ws, W, rfl, hS, hT, hF, hn, W1, W2, q⟩ := h
    refine ⟨_, (pss_cons (ps_set (i := 3) sc_rows_are_least.nd rfl (.inl rfl) (pe_call (ok_least_from T) (hr.mono (by decide)) (by rfl) T.g_least_from T.F_least_from.kp T.b_least_from .nil pass0 (pa_cons (pv 0) (pa_cons (pv 1) pa_nil))))
      (pss_cons (ps_set (i := 4) sc_rows_are_least.nd rfl (.inl rfl) pe_int)
      (pss_cons (ps_for PassesOwn.never rfl (pi_tup (pv 2)) (pg_name (i := 5) sc_rows_are_least.nd rfl (.inl rfl))
      (pss_cons (ps_set (i := 6) sc_rows_are_least.nd rfl (.inl rfl) (pe_op op_add (pv 1) pe_int))
        (C8.pss_cut (ps_for PassesOwn.never rfl (pi_range2 (by rfl) T.m_range (pa_cons (pv 4) (pa_cons (pe_callB call_len_seq (by rfl) T.m_len PySem.boot_len (pa_cons (pv 0) pa_nil)) pa_nil))) (pg_name (i := 7) sc_rows_are_least.nd rfl (.inl rfl))
        (pss_cons (ps_set (i := 6) sc_rows_are_least.nd rfl (.inl rfl) (pe_op op_sub (pe_op op_sub (pv 6) (pe_ix ix_list (pv 0) (pv 7) (fun _ _ => rfl))) pe_int))
          (pss_cons (ps_if (pt_cmpR op_lt (pv 6) pe_int (nomark _))
          (pss_one ps_break)
          pss_nil)
          (pss_cons (ps_set (i := 8) sc_rows_are_least.nd rfl (.inl rfl) (pe_op op_add (pe_op op_mul (pv 6) (pv 6)) (pe_ix ix_list (pv 3) (pe_op op_add (pv 7) pe_int) (fun _ _ => rfl))))
          (C8.pss_cut (ps_if (pt_cmpR op_eq (pv 7) (pe_op op_sub (pe_callB call_len_seq (by rfl) T.m_len PySem.boot_len (pa_cons (pv 0) pa_nil)) pe_int) (nomark _))
          (pss_one (ps_set (i := 8) sc_rows_are_least.nd rfl (.inl rfl) pe_int))
          pss_nil)
          (pss_cons (ps_if (PW.pt (pw_and (pt_cmpR op_eq (pe_op op_sub (pe_op op_add (pv 7) pe_int) (pv 4)) (pv 5) (nomark _)) (pw_and1 (pt_cmpR op_ne (pv 8) (pe_ix ix_list (pv 3) (pv 4) (fun _ _ => rfl)) (nomark _)))))
          (pss_one (ps_ret pe_bl))
          pss_nil)
          (pss_one (ps_if (PW.pt (pw_and (pt_cmpR op_gt (pe_op op_sub (pe_op op_add (pv 7) pe_int) (pv 4)) (pv 5) (nomark _)) (pw_and1 (pt_cmpR op_le (pv 8) (pe_ix ix_list (pv 3) (pv 4) (fun _ _ => rfl)) (nomark _)))))
          (pss_one (ps_ret pe_bl))
          pss_nil))))))))
        (pss_one (ps_set (i := 4) sc_rows_are_least.nd rfl (.inl rfl) (pe_op op_add (pv 4) (pv 5)))))))
      (pss_one (ps_ret pe_bl))))), ?_⟩
    have ln : (ws.map V.int).length = ws.length := List.length_map ..
    have b62 : (2 : Int) ^ 62 = 4611686018427387904 := by decide
    have e64 : (2 : Int) ^ 64 = 18446744073709551616 := by decide
    generalize hks : dpk W ws = ks at hT
    refine ⟨_, rfl, _, rfl, a, ws, W, rfl, hS, hF, hn, W1, W2, fun p ls H1 sm eL ll lv => ?_⟩
    refine ⟨_, rfl, b, rfl, ⟨_, same_seqT sm hT⟩, for_tup (xs := natV ks) (fun i σ' H' => H1 = H' ∧ ∃ (n : Nat) (y5 y6 y7 y8 : Option V), σ' = [some (.ref a), some (.int W), some (.ref b), some (.ref p), some (.int n), y5, y6, y7, y8] ∧ n ≤ ws.length ∧ dpk W (ws.drop n) = ks.drop i) ⟨rfl, 0, none, none, none, none, rfl, Nat.zero_le _, hks⟩ (fun i σ' H' _ hh => by rw [← hh.1]; exact same_seqT sm hT) ?_ ?_⟩
    · rintro i x0 σ' H' hx ⟨rfl, n, y5, y6, y7, y8, rfl, hnl, hd⟩
      have hi : i < ks.length := by
        have := (List.getElem?_eq_some_iff.mp hx).1
        rwa [natV, List.length_map] at this
      have ex : x0 = .int (ks[i] : Nat) := by
        unfold natV at hx
        rw [List.getElem?_map, List.getElem?_eq_getElem hi] at hx
        exact (Option.some.inj hx).symm
      subst ex
      rw [List.drop_eq_getElem_cons hi] at hd
      generalize ks[i] = k at hd
      generalize hrest : ks.drop (i + 1) = rest at hd
      obtain ⟨l, hl⟩ : ∃ l, l = ws.drop n := ⟨_, rfl⟩
      have hll : l.length = ws.length - n := by rw [hl, List.length_drop]
      have hlF : ∀ y ∈ l, 0 ≤ y ∧ y ≤ W := fun y hy => hF y (by rw [hl] at hy; exact List.mem_of_mem_drop hy)
      have hlne : l ≠ [] := fun e => by
        rw [← hl, e] at hd
        cases hd
      have hlc : l = l.head hlne :: l.tail := (List.cons_head_tail _).symm
      obtain ⟨m, hm, hmk, hdc, _, hall⟩ := dp_is (W := W) (by rw [← hlc]; exact hlF)
      rw [← hlc] at hm hmk hdc hall
      rw [← hl, hmk] at hd
      injection hd with e1 e2
      subst e1
      have hdc : dpc W l = candc W l m := hdc
      have hall1 : ∀ j, Can W (-1) l j → m < j → dpc W l < candc W l j := fun j hj => (hall j hj).2
      have l0 := lv n hnl
      rw [← hl] at l0
      have hmn : n + m ≤ ws.length := by have := hm.2.1; omega
      have eml : l.drop m = ws.drop (n + m) := by rw [hl, List.drop_drop]
      refine ⟨_, rfl, _, _, rfl, rfl, ?_⟩
      refine ⟨fun σ' H' => H1 = H' ∧ ∃ (y6 y7 y8 : Option V), σ' = [some (.ref a), some (.int W), some (.ref b), some (.ref p), some (.int n), some (.int (m : Nat)), y6, y7, y8], ?_, ?_⟩
      · refine ⟨_, rfl, _, rfl, a, _, rfl, .inl (sm.seq hS), ?_⟩
        rw [ln]
        refine ⟨_, _, rfl, ⟨by omega, by omega, by omega, by omega⟩, for_range (lo := (n : Int)) (n := ((ws.length : Int) - (n : Int)).toNat) (fun j σ' H' => H1 = H' ∧ ∃ (rm : Int) (y7 y8 : Option V), σ' = [some (.ref a), some (.int W), some (.ref b), some (.ref p), some (.int n), some (.int (m : Nat)), some (.int rm), y7, y8] ∧ rm = W - upto (-1) l j)
          ⟨rfl, W + 1, _, _, rfl, by unfold upto; simp⟩ ?_ ?_⟩
        · rintro j σ' H' hj ⟨rfl, rm, y7, y8, rfl, rfl⟩
          have hj2 : n + j < ws.length := by omega
          have hx : ws[n + j]? = some ws[n + j] := List.getElem?_eq_getElem hj2
          have hxF := hF _ (List.getElem_mem hj2)
          generalize ws[n + j] = x at hx hxF
          have hxl : l[j]? = some x := by rw [hl, List.getElem?_drop]; exact hx
          have hu := upto_succ (-1) l j x hxl
          have eat : (n : Int) + (j : Nat) = ((n + j : Nat) : Int) := by omega
          rw [eat]
          refine ⟨_, rfl, _, rfl, _, rfl, _, _, _, _, rfl, rfl, sm.seq hS, atI_nat (get_ints hx), _, _, rfl, rfl, _, _, rfl, rfl, ?_⟩
          dsimp only
          rw [show W - upto (-1) l j - x - 1 = W - upto (-1) l (j + 1) by omega]
          refine ⟨_, rfl, _, _, rfl, rfl, _, rfl, ite2 (fun e => ?_) (fun e => ?_)⟩
          · exact ⟨rfl, _, _, _, rfl⟩
          · have hge : upto (-1) l (j + 1) ≤ W := by
              have : ¬ W - upto (-1) l (j + 1) < 0 := fun h => e (decide_eq_true h)
              omega
            have hcan : Can W (-1) l (j + 1) := ⟨by omega, by omega, hge⟩
            have low : -1 ≤ upto (-1) l (j + 1) := by
              have := upto_mono (u := -1) (l := l) (fun y hy => (hlF y hy).1) 0 (j + 1)
              rw [Nat.zero_add] at this
              have h0 : upto (-1) l 0 = -1 := by unfold upto; simp
              omega
            have t1 := lv (n + j + 1) (by omega)
            refine ⟨_, rfl, _, rfl, _, _, rfl, rfl, .inl ⟨by omega, by omega⟩, _, rfl, _, rfl, _, _, rfl, rfl, _, _, _, _, rfl, rfl, .inl (.inl eL), atI_nat (j := n + j + 1) (get_ints t1), _, _, rfl, rfl, ?_⟩
            refine ⟨fun σ' H' => H1 = H' ∧ σ' = [some (.ref a), some (.int W), some (.ref b), some (.ref p), some (.int n), some (.int (m : Nat)), some (.int (W - upto (-1) l (j + 1))), some (.int ((n + j : Nat) : Int)), some (.int (candc W l (j + 1)))], ?_, ?_⟩
            · refine ⟨_, rfl, _, rfl, a, _, rfl, .inl (sm.seq hS), ?_⟩
              rw [ln]
              refine ⟨_, _, rfl, rfl, rfl, _, rfl, ite2 (fun e => ?_) (fun e => ?_)⟩
              · have h1 : ((n + j : Nat) : Int) = (ws.length : Int) - 1 := V.int.inj (of_decide_eq_true e)
                have e0 : candc W l (j + 1) = 0 := by
                  unfold candc
                  rw [List.drop_eq_nil_of_le (show l.length ≤ j + 1 by omega)]
                  rfl
                rw [e0]
                exact ⟨rfl, rfl⟩
              · have h1 : n + j + 1 ≠ ws.length := fun h => e (decide_eq_true (congrArg V.int (by omega)))
                have e0 : candc W l (j + 1) = (W - upto (-1) l (j + 1)) * (W - upto (-1) l (j + 1)) + dpc W (ws.drop (n + j + 1)) := by
                  unfold candc usedW
                  rw [if_neg (fun h => by rw [List.drop_eq_nil_iff] at h; omega), hl, List.drop_drop, ← hl]
                  rfl
                rw [e0]
                exact ⟨rfl, rfl⟩
            · rintro σ' H' ⟨rfl, rfl⟩
              have hq : ((n + j : Nat) : Int) + 1 - (n : Int) = ((j + 1 : Nat) : Int) := by omega
              have two : (j + 1 = m → candc W l (j + 1) = dpc W l) := fun h => by rw [hdc, h]
              have three : (m < j + 1 → ¬ candc W l (j + 1) ≤ dpc W l) := fun h => by
                have := hall1 (j + 1) hcan h
                omega
              have last : ∀ R : Prop, R → R := fun _ h => h
              refine ⟨_, rfl, _, _, rfl, rfl, _, rfl, _, _, rfl, rfl, _, rfl, rfl, _, rfl, ?_⟩
              by_cases h1 : j + 1 = m
              · rw [decide_eq_true (show V.int (((n + j : Nat) : Int) + 1 - (n : Int)) = V.int (m : Nat) by rw [hq, h1])]
                refine iteT ?_
                refine ⟨_, rfl, _, rfl, _, rfl, p, _, _, _, rfl, rfl, .inl (.inl eL), atI_nat (get_ints l0), rfl, _, rfl, ?_⟩
                rw [decide_eq_true (show V.int (candc W l (j + 1)) = V.int (dpc W l) by rw [two h1])]
                refine iteF ?_
                refine ⟨_, rfl, _, _, rfl, rfl, _, rfl, _, _, rfl, rfl, _, rfl, _, _, rfl, rfl, _, rfl, ?_⟩
                rw [decide_eq_false (p := (m : Int) < ((n + j : Nat) : Int) + 1 - (n : Int)) (by omega)]
                refine iteF ?_
                exact ⟨rfl, _, _, _, rfl, rfl⟩
              · rw [decide_eq_false (p := V.int (((n + j : Nat) : Int) + 1 - (n : Int)) = V.int (m : Nat)) (fun h => h1 (by have := V.int.inj h; omega))]
                refine iteF ?_
                refine ⟨_, rfl, _, _, rfl, rfl, _, rfl, _, _, rfl, rfl, _, rfl, _, _, rfl, rfl, _, rfl, ?_⟩
                by_cases h2 : m < j + 1
                · rw [decide_eq_true (p := (m : Int) < ((n + j : Nat) : Int) + 1 - (n : Int)) (by omega)]
                  refine iteT ?_
                  refine ⟨_, rfl, _, rfl, _, rfl, p, _, _, _, rfl, rfl, .inl (.inl eL), atI_nat (get_ints l0), _, _, rfl, rfl, _, rfl, ?_⟩
                  rw [decide_eq_false (three h2)]
                  refine iteF ?_
                  exact ⟨rfl, _, _, _, rfl, rfl⟩
                · rw [decide_eq_false (p := (m : Int) < ((n + j : Nat) : Int) + 1 - (n : Int)) (by omega)]
                  refine iteF ?_
                  exact ⟨rfl, _, _, _, rfl, rfl⟩
        · rintro σ' H' ⟨rfl, rm, y7, y8, rfl, rfl⟩
          exact ⟨rfl, _, _, _, rfl⟩
      · rintro σ' H' ⟨rfl, y6, y7, y8, rfl⟩
        refine ⟨_, rfl, _, rfl, _, _, rfl, rfl, ?_⟩
        refine ⟨rfl, n + m, _, _, _, _, rfl, hmn, ?_⟩
        rw [← eml]
        exact e2
    · rintro σ' H' ⟨rfl, n, y5, y6, y7, y8, rfl, hnl, hd⟩
      exact q _ sm
theorem ok_set_lines (T : Tab K mg) : FnOk P w K mg base CX0 3 T.f_set_lines T.d_set_lines ["tokens", "width"] (sp_set_lines K) := by
  refine T.F_set_lines.ok sc_set_lines (fun vs H Q E h => ?_) (fun cdv A outer s H vs Q E hr h => ?_)
  · obtain ⟨a, zs, W, rfl, _⟩ := h
    rfl
  · obtain ⟨a, zs, W, rfl, hS, hT, hW, hF, q⟩ := h
    obtain ⟨t1, t2, t3⟩ := id hT
    refine ⟨_, (C8.pss_cut (ps_set (i := 2) sc_set_lines.nd rfl (.inl rfl) (pe_call (ok_row_ends T) (hr.mono (by decide)) (by rfl) T.g_row_ends T.F_row_ends.kp T.b_row_ends .nil pass0 (pa_cons (pe_lc (own := [("token", 5)]) (g := gName 5) (by rfl) sc_set_lines.nd (pi_or (pi_list (pv 0)) (pi_tup (pv 0))) (blkOk_by (own := [("token", 5)]) (N := N_set_lines) (sc := defScope s_set_lines) (by decide +kernel)) (fun _ _ _ _ _ => pg_name (i := 5) sc_set_lines.nd rfl (.inl rfl)) (fun _ _ _ _ _ => pts_nil) (fun _ _ _ _ _ => (pe_call (ok_token_width T) (hr.mono (by decide)) (by rfl) T.g_token_width T.F_token_width.kp T.b_token_width .nil pass0 (pa_cons (pv 5) pa_nil)))) (pa_cons (pv 1) pa_nil))))
      (pss_cons (ps_set (i := 3) sc_set_lines.nd rfl (.inl rfl) (pe_lst pa_nil))
      (pss_cons (ps_set (i := 4) sc_set_lines.nd rfl (.inl rfl) pe_int)
      (pss_cons (ps_while PassesOwn.never (pt_cmpR op_lt (pv 4) (pe_callB call_len_seq (by rfl) T.m_len PySem.boot_len (pa_cons (pv 0) pa_nil)) (nomark _))
      (C8.pss_cut (ps_expr (pe_bm PySem.F.plainAttrs_list PySem.F.slot_list_append PySem.F.type_list_append mt_append (pv 3) (pa_cons (pe_join pe_str (pe_callTy call_list_of (by rfl) T.m_list (by decide +kernel) (pa_cons (pe_slice (SlR.or sl_list sl_tupA) (pv 0) (po_some (pv 4)) (po_some (pe_ix ix_list (pv 2) (pv 4) (fun _ _ => rfl)))) pa_nil))) pa_nil)))
        (pss_one (ps_set (i := 4) sc_set_lines.nd rfl (.inl rfl) (pe_ix ix_list (pv 2) (pv 4) (fun _ _ => rfl))))))
      (pss_one (ps_ret (pe_callTy call_tuple_of (by rfl) T.m_tuple (by decide +kernel) (pa_cons (pv 3) pa_nil)))))))), ?_⟩
    have hfit : Fits W (wids zs) := fits_of hF
    have lw : (wids zs).length = zs.length := List.length_map ..
    have hS0 := hS
    have lz : (zs.map V.str).length = zs.length := List.length_map ..
    refine ⟨fun σ' H' => ∃ (pe : Addr) (es : List Int), σ' = [some (.ref a), some (.int W), some (.ref pe), none, none, none] ∧ Same H H' ∧ H' pe = some (.lst (es.map V.int)) ∧ H pe = none ∧ es.length = zs.length ∧ (∀ (i : Nat) (q : Int × Nat), (dp W (wids zs))[i]? = some q → es[i]? = some ((i : Int) + (q.2 : Int))), ?_, ?_⟩
    · rcases hS with hS | hS
      · refine .inl ⟨_, rfl, a, rfl, ⟨_, hS⟩, fun D nD0 => ?_⟩
        refine lc_list (xs := zs.map V.str) (fun i H' => Same H H' ∧ H' D = some (.lst ((wids (zs.take i)).map V.int))) ⟨same_upd nD0, upd_same⟩ (fun i H' _ hh => Same.seq hh.1 hS) ?_ ?_
        · rintro i x H' hx ⟨sm, eD⟩
          obtain ⟨z, rfl, hz⟩ := get_map hx
          have hz1 := (t3 z (List.mem_of_getElem? hz)).1
          have hi : i < zs.length := (List.getElem?_eq_some_iff.mp hz).1
          refine ⟨rfl, ?_⟩
          refine ⟨_, rfl, z, rfl, Nat.le_of_lt (small1000 (by omega)), _, eD, ?_, same_put sm nD0 _, ?_⟩
          · rw [List.length_map]; unfold wids; rw [List.length_map, List.length_take]; exact small1000 (by omega)
          · rw [upd_same, wids_snoc hz, List.map_append]; rfl
        rintro H' ⟨sm, eD⟩
        rw [wids_all] at eD
        exact ⟨_, rfl, D, wids zs, W, rfl, .inl (.inl eD), by omega, by omega, hfit, fun p es H2 s2 np ep le tab => ⟨p, es, rfl, sm.trans s2, ep, sm.free np, by omega, tab⟩⟩
      · refine .inr ⟨_, rfl, a, rfl, ⟨_, hS⟩, fun D nD0 => ?_⟩
        refine lc_tup (xs := zs.map V.str) (fun i H' => Same H H' ∧ H' D = some (.lst ((wids (zs.take i)).map V.int))) ⟨same_upd nD0, upd_same⟩ (fun i H' _ hh => same_seqT hh.1 hS) ?_ ?_
        · rintro i x H' hx ⟨sm, eD⟩
          obtain ⟨z, rfl, hz⟩ := get_map hx
          have hz1 := (t3 z (List.mem_of_getElem? hz)).1
          have hi : i < zs.length := (List.getElem?_eq_some_iff.mp hz).1
          refine ⟨rfl, ?_⟩
          refine ⟨_, rfl, z, rfl, Nat.le_of_lt (small1000 (by omega)), _, eD, ?_, same_put sm nD0 _, ?_⟩
          · rw [List.length_map]; unfold wids; rw [List.length_map, List.length_take]; exact small1000 (by omega)
          · rw [upd_same, wids_snoc hz, List.map_append]; rfl
        rintro H' ⟨sm, eD⟩
        rw [wids_all] at eD
        exact ⟨_, rfl, D, wids zs, W, rfl, .inl (.inl eD), by omega, by omega, hfit, fun p es H2 s2 np ep le tab => ⟨p, es, rfl, sm.trans s2, ep, sm.free np, by omega, tab⟩⟩
    rintro σ' H1 ⟨pe, es, rfl, s1, eE, fe, le, tab⟩
    refine ⟨Nat.zero_le _, fun R nR => ?_⟩
    have fR : H R = none := s1.free nR
    have nRE : R ≠ pe := fun e => by rw [e, eE] at nR; cases nR
    refine while_by (fun σ' H' => ∃ (i : Nat) (rs : List Str), σ' = [some (.ref a), some (.int W), some (.ref pe), some (.ref R), some (.int i), none] ∧ i ≤ zs.length ∧ rs ++ rows (zs.drop i) ((takes W zs).drop i) 0 = setL W zs ∧ rs.length ≤ i ∧ Same H H' ∧ H' R = some (.lst (rs.map V.str)) ∧ H' pe = some (.lst (es.map V.int))) (fun σ' _ => match σ' with | [_, _, _, _, some (.int i), _] => (zs.length - i.toNat) | _ => 0)
      ⟨0, [], rfl, Nat.zero_le _, rfl, Nat.le_refl _, s1.trans (same_upd nR), upd_same, by rw [upd_ne nRE.symm]; exact eE⟩ ?_ ?_
    · rintro σ' H' ⟨i, rs, rfl, hi, er, lr, sm, eR, eE⟩
      refine ⟨_, rfl, _, rfl, _, _, rfl, same_sq sm hS0, _, _, rfl, rfl, _, rfl, ite2 (fun e => ?_) (fun e => ?_)⟩
      · have h0 : (i : Int) < ((zs.map V.str).length : Int) := of_decide_eq_true e
        have hi2 : i < zs.length := by omega
        obtain ⟨q0, ed, ek, k1, k2⟩ := takes_at W zs hF i hi2
        have ee := tab i q0 ed
        generalize q0.2 = k at ek k1 k2 ee
        have hat : atI (es.map V.int) (i : Int) = some (.int ((i : Int) + (k : Int))) := atI_nat (get_ints ee)
        have hsub : ∀ z ∈ (zs.drop i).take k, z.length ≤ 1000 := fun z hz => Nat.le_trans (t3 z (List.mem_of_mem_drop (List.mem_of_mem_take hz))).1 (by decide)
        have hfit2 := join_fit ((zs.drop i).take k) hsub (by rw [List.length_take, List.length_drop]; omega)
        refine ⟨fun σ' H'' => σ' = [some (.ref a), some (.int W), some (.ref pe), some (.ref R), some (.int i), none] ∧ Same H H'' ∧ H'' R = some (.lst ((rs ++ [Txt.join " " ((zs.drop i).take k)]).map V.str)) ∧ H'' pe = some (.lst (es.map V.int)), ?_, ?_⟩
        · have fin : ∀ (l : Addr) (H2 : Hp), Same H' H2 → H2 R = some (.lst (rs.map V.str)) ∧ H2 pe = some (.lst (es.map V.int)) ∧ Same H H2 := fun l H2 s2 => ⟨s2 _ _ eR, s2 _ _ eE, sm.trans s2⟩
          rcases same_sq sm hS0 with hL | hL
          · refine ⟨_, rfl, .inl ⟨rfl, _, .inl (.inl eR)⟩, ⟨_, rfl⟩, _, rfl, _, rfl, _, rfl, _, rfl, _, rfl, _, _, _, _, rfl, rfl, .inl (.inl eE), hat, _, rfl, .inl ⟨_, _, rfl, hL, fun p np => ?_⟩⟩
            rw [cut_strs zs i k k2]
            refine ⟨_, _, rfl, .inl (.inl (.inl upd_same)), fun l nl => ?_⟩
            obtain ⟨f1, f2, f3⟩ := fin l _ ((same_upd np).trans (same_upd (o := .lst (((zs.drop i).take k).map V.str)) nl))
            refine ⟨_, l, _, rfl, rfl, .inl (.inl (.inl upd_same)), hfit2, _, _, _, rfl, rfl, f1, ?_, rfl, same_put f3 fR _, ?_, ?_⟩
            · rw [List.length_map]; exact small1000 (by omega)
            · rw [upd_same, List.map_append]; rfl
            · rw [upd_ne nRE.symm]; exact f2
          · refine ⟨_, rfl, .inl ⟨rfl, _, .inl (.inl eR)⟩, ⟨_, rfl⟩, _, rfl, _, rfl, _, rfl, _, rfl, _, rfl, _, _, _, _, rfl, rfl, .inl (.inl eE), hat, _, rfl, .inr ⟨_, _, rfl, hL, fun hw => ?_, fun hw p np => ?_⟩⟩
            · have hall : (zs.drop i).take k = zs := by
                rw [HT.sIx_nat, show (i : Int) + (k : Int) = ((i + k : Nat) : Int) by omega, HT.sIx_nat, lz] at hw
                have h0 : i = 0 := by omega
                have h1 : k = zs.length := by omega
                subst h0
                rw [h1, List.drop_zero, List.take_length]
              rw [hall] at hfit2 ⊢
              refine ⟨_, _, rfl, .inr hL, fun l nl => ?_⟩
              obtain ⟨f1, f2, f3⟩ := fin l _ (same_upd (o := .lst (zs.map V.str)) nl)
              refine ⟨_, l, _, rfl, rfl, .inl (.inl (.inl upd_same)), hfit2, _, _, _, rfl, rfl, f1, ?_, rfl, same_put f3 fR _, ?_, ?_⟩
              · rw [List.length_map]; exact small1000 (by omega)
              · rw [upd_same, List.map_append]; rfl
              · rw [upd_ne nRE.symm]; exact f2
            · rw [cut_strs zs i k k2]
              refine ⟨_, _, rfl, .inr (.inl (.inl upd_same)), fun l nl => ?_⟩
              obtain ⟨f1, f2, f3⟩ := fin l _ ((same_upd np).trans (same_upd (o := .lst (((zs.drop i).take k).map V.str)) nl))
              refine ⟨_, l, _, rfl, rfl, .inl (.inl (.inl upd_same)), hfit2, _, _, _, rfl, rfl, f1, ?_, rfl, same_put f3 fR _, ?_, ?_⟩
              · rw [List.length_map]; exact small1000 (by omega)
              · rw [upd_same, List.map_append]; rfl
              · rw [upd_ne nRE.symm]; exact f2
        · rintro σ' H'' ⟨rfl, sm2, eR2, eE2⟩
          refine ⟨_, rfl, _, rfl, _, _, _, _, rfl, rfl, .inl (.inl eE2), hat, ⟨i + k, _, rfl, k2, ?_, ?_, sm2, eR2, eE2⟩, ?_⟩
          · rw [← er, rows_step zs (takes W zs) i k hi2 ek k1, List.append_assoc]
            rfl
          · rw [List.length_append, List.length_singleton]
            omega
          · show zs.length - ((i : Int) + (k : Int)).toNat < zs.length - (i : Int).toNat
            omega
      · have h0 : ¬ (i : Int) < ((zs.map V.str).length : Int) := fun h => e (decide_eq_true h)
        have hi2 : i = zs.length := by omega
        subst hi2
        rw [List.drop_length, rows_end, List.append_nil] at er
        subst er
        exact ⟨_, rfl, _, _, rfl, .inl ⟨.inl (.inl eR), fun p np => q p _ (sm.trans (same_upd np)) (sm.free np) upd_same⟩⟩
    · rintro σ' H' Q Q' hq ⟨v, hv, w, hw, p, xs, e, hs, i, j, e1, e2, k, e3, hk⟩
      exact ⟨v, hv, w, hw, p, xs, e, hs, i, j, e1, e2, k, e3, hq _ _ hk⟩
theorem ok_line_cost (T : Tab K mg) : FnOk P w K mg base CX0 3 T.f_line_cost T.d_line_cost ["rows", "width"] (sp_line_cost K) := by
  refine T.F_line_cost.ok sc_line_cost (fun vs H Q E h => ?_) (fun cdv A outer s H vs Q E hr h => ?_)
  · obtain ⟨a, zs, w, rfl, _⟩ := h
    rfl
  · obtain ⟨a, zs, w, rfl, hS, ⟨r1, r2, r3⟩, w1, w2, q⟩ := h
    refine ⟨_, (pss_one (ps_ret (pe_callB (cr_sum rfl) (by rfl) T.m_sum (by decide +kernel) (pa_cons (pe_lc (own := [("row", 2)]) (g := gName 2) (by rfl) sc_line_cost.nd (pi_or (pi_list (pe_slice (SlR.or sl_list sl_tup) (pv 0) po_none (po_some (pe_un un_neg pe_int)))) (pi_tup (pe_slice (SlR.or sl_list sl_tup) (pv 0) po_none (po_some (pe_un un_neg pe_int))))) (blkOk_by (own := [("row", 2)]) (N := N_line_cost) (sc := defScope s_line_cost) (by decide +kernel)) (fun _ _ _ _ _ => pg_name (i := 2) sc_line_cost.nd rfl (.inl rfl)) (fun _ _ _ _ _ => pts_nil) (fun _ _ _ _ _ => (pe_op op_pow (pe_op op_sub (pv 1) (pe_call (ok_row_width T) (hr.mono (by decide)) (by rfl) T.g_row_width T.F_row_width.kp T.b_row_width .nil pass0 (pa_cons (pv 2) pa_nil))) pe_int))) pa_nil)))), ?_⟩
    have e1 : (zs.map V.str).dropLast = zs.dropLast.map V.str := by rw [List.map_dropLast]
    have l1 : zs.dropLast.length ≤ 40 := by rw [List.length_dropLast]; omega
    have r3' : ∀ z ∈ zs.dropLast, z.length ≤ 100 := fun z hz => r3 z (by rw [List.dropLast_eq_take] at hz; exact List.mem_of_mem_take hz)
    rcases hS with hS | hS
    · refine .inl ⟨_, rfl, 1, rfl, -1, rfl, .inl ⟨a, zs.map V.str, rfl, hS, fun p np => ?_⟩⟩
      rw [cut_last, e1]
      refine ⟨p, rfl, ⟨_, .inl (.inl upd_same)⟩, fun D nD => ?_⟩
      have nDp : p ≠ D := ne_of_none upd_same nD
      have nD0 : H D = none := (same_upd np).free nD
      refine lc_list (xs := zs.dropLast.map V.str) (fun i H' => Same H H' ∧ H' p = some (.lst (zs.dropLast.map V.str)) ∧ ∃ cs : List Int, H' D = some (.lst (cs.map V.int)) ∧ cs.length = i ∧ cs.sum = cost w (zs.dropLast.take i))
        ⟨(same_upd np).trans (same_upd nD), by rw [upd_ne nDp, upd_same], [], upd_same, rfl, rfl⟩ (fun i H' _ hh => .inl (.inl hh.2.1)) ?_ ?_
      · rintro i x H' hx ⟨sm, eP, cs, eD, lc, sc⟩
        obtain ⟨z, rfl, hz⟩ := get_map hx
        have hi : i < zs.dropLast.length := (List.getElem?_eq_some_iff.mp hz).1
        have hz1 := r3' z (List.mem_of_getElem? hz)
        refine ⟨rfl, ?_⟩
        refine ⟨_, rfl, _, rfl, z, rfl, Nat.le_of_lt (small1000 (by omega)), _, _, rfl, rfl, _, _, rfl, rfl, ⟨by decide, by decide, pow_ok w1 w2 hz1⟩, cs.map V.int, eD, ?_, ?_, ?_, cs ++ [(w - wid z) * (w - wid z)], ?_, ?_, ?_⟩
        · rw [List.length_map]; exact small1000 (by omega)
        · intro b o e
          rw [upd_ne (ne_of_none e nD0)]
          exact sm b o e
        · rw [upd_ne nDp]; exact eP
        · rw [upd_same, List.map_append]; show some (HO.lst (_ ++ [V.int ((w - wid z) ^ (2 : Int).toNat)])) = _; rw [sq2]; rfl
        · rw [List.length_append, lc]; rfl
        · rw [List.sum_append, sc, List.take_add_one, hz]
          show _ = cost w (_ ++ [z])
          rw [cost_snoc]
          simp
      · rintro H' ⟨sm, eP, cs, eD, lc, sc⟩
        refine ⟨D, cs, rfl, .inl (.inl eD), ?_⟩
        rw [sc, List.length_map, List.take_of_length_le (Nat.le_refl _)]
        exact q H' sm
    · refine .inr ⟨_, rfl, 1, rfl, -1, rfl, .inr ⟨a, zs.map V.str, rfl, hS, ?_, fun p np => ?_⟩⟩
      · rw [sIx_m1, HT.sIx_none]
        have : (zs.map V.str).length ≠ 0 := by rw [List.length_map]; exact fun h => r1 (List.length_eq_zero_iff.mp h)
        omega
      rw [cut_last, e1]
      refine ⟨p, rfl, ⟨_, .inl (.inl upd_same)⟩, fun D nD => ?_⟩
      have nDp : p ≠ D := ne_of_none upd_same nD
      have nD0 : H D = none := (same_upd np).free nD
      refine lc_tup (xs := zs.dropLast.map V.str) (fun i H' => Same H H' ∧ H' p = some (.tup (zs.dropLast.map V.str)) ∧ ∃ cs : List Int, H' D = some (.lst (cs.map V.int)) ∧ cs.length = i ∧ cs.sum = cost w (zs.dropLast.take i))
        ⟨(same_upd np).trans (same_upd nD), by rw [upd_ne nDp, upd_same], [], upd_same, rfl, rfl⟩ (fun i H' _ hh => .inl (.inl hh.2.1)) ?_ ?_
      · rintro i x H' hx ⟨sm, eP, cs, eD, lc, sc⟩
        obtain ⟨z, rfl, hz⟩ := get_map hx
        have hi : i < zs.dropLast.length := (List.getElem?_eq_some_iff.mp hz).1
        have hz1 := r3' z (List.mem_of_getElem? hz)
        refine ⟨rfl, ?_⟩
        refine ⟨_, rfl, _, rfl, z, rfl, Nat.le_of_lt (small1000 (by omega)), _, _, rfl, rfl, _, _, rfl, rfl, ⟨by decide, by decide, pow_ok w1 w2 hz1⟩, cs.map V.int, eD, ?_, ?_, ?_, cs ++ [(w - wid z) * (w - wid z)], ?_, ?_, ?_⟩
        · rw [List.length_map]; exact small1000 (by omega)
        · intro b o e
          rw [upd_ne (ne_of_none e nD0)]
          exact sm b o e
        · rw [upd_ne nDp]; exact eP
        · rw [upd_same, List.map_append]; show some (HO.lst (_ ++ [V.int ((w - wid z) ^ (2 : Int).toNat)])) = _; rw [sq2]; rfl
        · rw [List.length_append, lc]; rfl
        · rw [List.sum_append, sc, List.take_add_one, hz]
          show _ = cost w (_ ++ [z])
          rw [cost_snoc]
          simp
      · rintro H' ⟨sm, eP, cs, eD, lc, sc⟩
        refine ⟨D, cs, rfl, .inl (.inl eD), ?_⟩
        rw [sc, List.length_map, List.take_of_length_le (Nat.le_refl _)]
        exact q H' sm
theorem ok_some_tokens (T : Tab K mg) : FnOk P w K mg base CX0 3 T.f_some_tokens T.d_some_tokens ["_law_source_here"] (sp_some_tokens K) := by
  refine T.F_some_tokens.ok sc_some_tokens (fun vs H Q E h => ?_) (fun cdv A outer s H vs Q E hr h => ?_)
  · obtain ⟨a, rfl, _⟩ := h
    rfl
  · obtain ⟨a, rfl, hs, q⟩ := h
    refine ⟨_, (pss_cons (ps_set (i := 1) sc_some_tokens.nd rfl (.inl rfl) (pe_op op_add pe_int (pe_call (ok_pick T) (hr.mono (by decide)) (by rfl) T.g_pick T.F_pick.kp T.b_pick .nil pass0 (pa_cons (pv 0) (pa_cons pe_int pa_nil)))))
      (C8.pss_cut (ps_if (pt_cmpR op_eq (pe_call (ok_pick T) (hr.mono (by decide)) (by rfl) T.g_pick T.F_pick.kp T.b_pick .nil pass0 (pa_cons (pv 0) (pa_cons pe_int pa_nil))) pe_int (nomark _))
      (pss_one (ps_set (i := 1) sc_some_tokens.nd rfl (.inl rfl) (pe_op op_add pe_int (pe_call (ok_pick T) (hr.mono (by decide)) (by rfl) T.g_pick T.F_pick.kp T.b_pick .nil pass0 (pa_cons (pv 0) (pa_cons pe_int pa_nil))))))
      pss_nil)
      (pss_cons (ps_set (i := 2) sc_some_tokens.nd rfl (.inl rfl) (pe_call (ok_pick T) (hr.mono (by decide)) (by rfl) T.g_pick T.F_pick.kp T.b_pick .nil pass0 (pa_cons (pv 0) (pa_cons pe_int pa_nil))))
      (pss_cons (ps_set (i := 3) sc_some_tokens.nd rfl (.inl rfl) (pe_op op_add pe_int (pe_call (ok_pick T) (hr.mono (by decide)) (by rfl) T.g_pick T.F_pick.kp T.b_pick .nil pass0 (pa_cons (pv 0) (pa_cons pe_int pa_nil)))))
      (pss_cons (ps_set (i := 4) sc_some_tokens.nd rfl (.inl rfl) (pe_op op_add pe_int (pe_call (ok_pick T) (hr.mono (by decide)) (by rfl) T.g_pick T.F_pick.kp T.b_pick .nil pass0 (pa_cons (pv 0) (pa_cons pe_int pa_nil)))))
      (pss_cons (ps_set (i := 5) sc_some_tokens.nd rfl (.inl rfl) (pe_lst pa_nil))
      (pss_cons (ps_for PassesOwn.never rfl (pi_range1 (by rfl) T.m_range (pa_cons (pv 1) pa_nil)) (pg_name (i := 6) sc_some_tokens.nd rfl (.inl rfl))
      (pss_cons (ps_set (i := 7) sc_some_tokens.nd rfl (.inl rfl) (pv 3))
        (C8.pss_cut (ps_if (PW.pt (pw_and (pt_cmpR op_eq (pv 2) pe_int (nomark _)) (pw_and1 (pt_cmpR op_eq (pe_call (ok_pick T) (hr.mono (by decide)) (by rfl) T.g_pick T.F_pick.kp T.b_pick .nil pass0 (pa_cons (pv 0) (pa_cons pe_int pa_nil))) pe_int (nomark _)))))
        (pss_one (ps_set (i := 7) sc_some_tokens.nd rfl (.inl rfl) (pv 4)))
        pss_nil)
        (C8.pss_cut (ps_if (pt_cmpR op_eq (pv 2) pe_int (nomark _))
        (pss_one (ps_set (i := 7) sc_some_tokens.nd rfl (.inl rfl) (pe_op op_add pe_int (pe_call (ok_pick T) (hr.mono (by decide)) (by rfl) T.g_pick T.F_pick.kp T.b_pick .nil pass0 (pa_cons (pv 0) (pa_cons pe_int pa_nil))))))
        pss_nil)
        (C8.pss_cut (ps_if (pt_cmpR op_eq (pv 2) pe_int (nomark _))
        (pss_one (ps_set (i := 7) sc_some_tokens.nd rfl (.inl rfl) (pe_op op_add pe_int (pe_call (ok_pick T) (hr.mono (by decide)) (by rfl) T.g_pick T.F_pick.kp T.b_pick .nil pass0 (pa_cons (pv 0) (pa_cons pe_int pa_nil))))))
        pss_nil)
        (pss_one (ps_expr (pe_bm PySem.F.plainAttrs_list PySem.F.slot_list_append PySem.F.type_list_append mt_append (pv 5) (pa_cons (pe_call (ok_token T) (hr.mono (by decide)) (by rfl) T.g_token T.F_token.kp T.b_token .nil pass0 (pa_cons (pv 0) (pa_cons (pv 7) pa_nil))) pa_nil)))))))))
      (C8.pss_cut (ps_if (pt_cmpR op_eq (pe_call (ok_pick T) (hr.mono (by decide)) (by rfl) T.g_pick T.F_pick.kp T.b_pick .nil pass0 (pa_cons (pv 0) (pa_cons pe_int pa_nil))) pe_int (nomark _))
      (pss_one (ps_expr (pe_bm PySem.F.plainAttrs_list PySem.F.slot_list_append PySem.F.type_list_append mt_append (pv 5) (pa_cons (pe_call (ok_token T) (hr.mono (by decide)) (by rfl) T.g_token T.F_token.kp T.b_token .nil pass0 (pa_cons (pv 0) (pa_cons pe_int pa_nil))) pa_nil))))
      pss_nil)
      (pss_one (ps_ret (pv 5))))))))))), ?_⟩
    refine ⟨_, rfl, _, _, rfl, hs, by decide, by decide, fun n1 H1 s1 b1 p1 p2 => ?_⟩
    refine ⟨_, _, rfl, rfl, ?_⟩
    refine ⟨fun σ' H' => ∃ n : Int, σ' = [some (.ref a), some (.int n), none, none, none, none, none, none] ∧ 1 ≤ n ∧ n ≤ 33 ∧ Src H' a ∧ But a H H', ?_, ?_⟩
    · refine ⟨_, rfl, _, _, rfl, s1, by decide, by decide, fun r H2 s2 b2 p3 p4 => ?_⟩
      refine ⟨rfl, _, rfl, ite2 (fun e => ?_) (fun e => ?_)⟩
      · refine ⟨_, rfl, _, _, rfl, s2, by decide, by decide, fun r H3 s3 b3 p5 p6 => ?_⟩
        exact ⟨_, _, rfl, rfl, _, rfl, by omega, by omega, s3, (b1.trans b2).trans b3⟩
      · exact ⟨_, rfl, by omega, by omega, s2, b1.trans b2⟩
    rintro σ' H1 ⟨n, rfl, n1, n2, s1, b1⟩
    refine ⟨_, rfl, _, _, rfl, s1, by decide, by decide, fun way H2 s2 b2 p3 p4 => ?_⟩
    refine ⟨_, rfl, _, _, rfl, s2, by decide, by decide, fun one H3 s3 b3 p5 p6 => ?_⟩
    refine ⟨_, _, rfl, rfl, ?_⟩
    refine ⟨_, rfl, _, _, rfl, s3, by decide, by decide, fun two H30 s30 b30 p50 p60 => ?_⟩
    refine ⟨_, _, rfl, rfl, ?_⟩
    have b123 := ((b1.trans b2).trans b3).trans b30
    refine ⟨Nat.zero_le _, fun D nD => ?_⟩
    have nDa : a ≠ D := s30.ne nD
    have fD : H D = none := b123.none nD nDa.symm
    refine ⟨_, rfl, _, rfl, by omega, by omega, for_range (lo := 0) (n := n.toNat) (fun i σ' H' => ∃ (zs : List Str) (y6 y7 : Option V), σ' = [some (.ref a), some (.int n), some (.int way), some (.int (1 + one)), some (.int (1 + two)), some (.ref D), y6, y7] ∧ zs.length = i ∧ (∀ z ∈ zs, z.length ≤ 21 ∧ PyData.strOk z = true) ∧ Tok2 zs ∧ Src H' a ∧ But a H H' ∧ H' D = some (.lst (zs.map V.str)))
      ⟨[], none, none, rfl, rfl, (fun _ h => nomatch h), (fun _ h => nomatch h), s30.put nDa _, b123.put fD _, upd_same⟩ ?_ ?_⟩
    · rintro i σ' H4 hi ⟨zs, y6, y7, rfl, lz, hz, hz2, s4, b4, eD⟩
      refine ⟨_, rfl, ?_⟩
      refine ⟨fun σ' H' => ∃ w : Int, σ' = [some (.ref a), some (.int n), some (.int way), some (.int (1 + one)), some (.int (1 + two)), some (.ref D), some (.int (0 + (i : Int))), some (.int w)] ∧ 1 ≤ w ∧ w ≤ 20 ∧ Src H' a ∧ But a H H' ∧ H' D = some (.lst (zs.map V.str)), ?_, ?_⟩
      · refine ⟨_, rfl, rfl, _, rfl, ite2 (fun e => ?_) (fun e => ?_)⟩
        · refine ⟨_, rfl, _, _, rfl, s4, by decide, by decide, fun r H6 s6 b6 p7 p8 => ?_⟩
          refine ⟨rfl, _, rfl, ite2 (fun e => ?_) (fun e => ?_)⟩
          · exact ⟨_, rfl, _, rfl, by omega, by omega, s6, b4.trans b6, b6 D _ nDa.symm eD⟩
          · exact ⟨_, rfl, by omega, by omega, s6, b4.trans b6, b6 D _ nDa.symm eD⟩
        · exact ⟨_, rfl, by omega, by omega, s4, b4, eD⟩
      rintro σ' H5 ⟨w, rfl, w1, w2, s5, b5, eD5⟩
      refine ⟨fun σ' H' => ∃ w : Int, σ' = [some (.ref a), some (.int n), some (.int way), some (.int (1 + one)), some (.int (1 + two)), some (.ref D), some (.int (0 + (i : Int))), some (.int w)] ∧ 1 ≤ w ∧ w ≤ 20 ∧ Src H' a ∧ But a H H' ∧ H' D = some (.lst (zs.map V.str)), ?_, ?_⟩
      · refine ⟨_, rfl, rfl, _, rfl, ite2 (fun e => ?_) (fun e => ?_)⟩
        · refine ⟨_, rfl, _, _, rfl, s5, by decide, by decide, fun r H6 s6 b6 p7 p8 => ?_⟩
          exact ⟨_, _, rfl, rfl, _, rfl, by omega, by omega, s6, b5.trans b6, b6 D _ nDa.symm eD5⟩
        · exact ⟨_, rfl, w1, w2, s5, b5, eD5⟩
      rintro σ' H6 ⟨w, rfl, w1, w2, s6, b6, eD6⟩
      refine ⟨fun σ' H' => ∃ w : Int, σ' = [some (.ref a), some (.int n), some (.int way), some (.int (1 + one)), some (.int (1 + two)), some (.ref D), some (.int (0 + (i : Int))), some (.int w)] ∧ 1 ≤ w ∧ w ≤ 20 ∧ Src H' a ∧ But a H H' ∧ H' D = some (.lst (zs.map V.str)), ?_, ?_⟩
      · refine ⟨_, rfl, rfl, _, rfl, ite2 (fun e => ?_) (fun e => ?_)⟩
        · refine ⟨_, rfl, _, _, rfl, s6, by decide, by decide, fun r H7 s7 b7 p7 p8 => ?_⟩
          exact ⟨_, _, rfl, rfl, _, rfl, by omega, by omega, s7, b6.trans b7, b7 D _ nDa.symm eD6⟩
        · exact ⟨_, rfl, w1, w2, s6, b6, eD6⟩
      rintro σ' H7 ⟨w, rfl, w1, w2, s7, b7, eD7⟩
      refine ⟨_, rfl, .inl ⟨rfl, _, .inl (.inl eD7)⟩, _, rfl, _, rfl, a, w, rfl, s7, w1, w2, fun z H8 s8 b8 l8 o8 g8 d8 => ?_⟩
      have eD8 := b8 D _ nDa.symm eD7
      refine ⟨_, _, _, rfl, rfl, eD8, ?_, zs ++ [z], _, _, rfl, ?_, ?_, ?_, s8.put nDa _, (b7.trans b8).put fD _, ?_⟩
      · rw [List.length_map]; exact small1000 (by omega)
      · rw [List.length_append, lz]; rfl
      · intro y hy
        rcases List.mem_append.mp hy with h | h
        · exact hz y h
        · rw [List.mem_singleton.mp h]; exact ⟨l8, o8⟩
      · intro y hy
        rcases List.mem_append.mp hy with h | h
        · exact hz2 y h
        · rw [List.mem_singleton.mp h]; exact ⟨g8, d8⟩
      · rw [upd_same, List.map_append]; rfl
    · rintro σ' H4 ⟨zs, y6, y7, rfl, lz, hz, hz2, s4, b4, eD⟩
      have hne : zs ≠ [] := fun e => by
        rw [e] at lz
        have : (0 : Nat) = n.toNat := lz
        omega
      refine ⟨fun σ' H' => ∃ zs : List Str, σ' = [some (.ref a), some (.int n), some (.int way), some (.int (1 + one)), some (.int (1 + two)), some (.ref D), y6, y7] ∧ Toks zs ∧ Tok2 zs ∧ Src H' a ∧ But a H H' ∧ H' D = some (.lst (zs.map V.str)), ?_, ?_⟩
      · refine ⟨_, rfl, _, _, rfl, s4, by decide, by decide, fun r H5 s5 b5 p7 p8 => ?_⟩
        have eD5 := b5 D _ nDa.symm eD
        refine ⟨rfl, _, rfl, ite2 (fun e => ?_) (fun e => ?_)⟩
        · refine ⟨_, rfl, .inl ⟨rfl, _, .inl (.inl eD5)⟩, _, rfl, a, _, rfl, s5, by decide, by decide, fun z H8 s8 b8 l8 o8 g8 d8 => ?_⟩
          have eD8 := b8 D _ nDa.symm eD5
          refine ⟨_, _, _, rfl, rfl, eD8, ?_, zs ++ [z], rfl, ⟨by simp, ?_, ?_⟩, ?_, s8.put nDa _, ((b4.trans b5).trans b8).put fD _, ?_⟩
          · rw [List.length_map]; exact small1000 (by omega)
          · rw [List.length_append]; show zs.length + 1 ≤ 34; omega
          · intro y hy
            rcases List.mem_append.mp hy with h | h
            · exact hz y h
            · rw [List.mem_singleton.mp h]; exact ⟨l8, o8⟩
          · intro y hy
            rcases List.mem_append.mp hy with h | h
            · exact hz2 y h
            · rw [List.mem_singleton.mp h]; exact ⟨g8, d8⟩
          · rw [upd_same, List.map_append]; rfl
        · exact ⟨zs, rfl, ⟨hne, by omega, hz⟩, hz2, s5, b4.trans b5, eD5⟩
      · rintro σ' H5 ⟨zs, rfl, hT, h2, s5, b5, eD5⟩
        exact ⟨_, rfl, q zs D H5 fD s5 b5 eD5 hT h2⟩
theorem ok_right (T : Tab K mg) : FnOk P w K mg base CX0 4 T.f_right T.d_right ["_law_tokens", "_law_limit"] (sp_right K) := by
  refine T.F_right.ok sc_right (fun vs H Q E h => ?_) (fun cdv A outer s H vs Q E hr h => ?_)
  · obtain ⟨a, zs, W, rfl, _⟩ := h
    rfl
  · obtain ⟨a, zs, W, rfl, hS, hT, hT2, W1, W2, q⟩ := h
    obtain ⟨t1, t2, t3⟩ := id hT
    refine ⟨_, (pss_cons (ps_setLc (i := 2) (own := [("_law_token_here", 9)]) (g := gName 9) (by rfl) sc_right.nd rfl rfl (sw_true rfl rfl rfl (by decide +kernel)) (pi_list (pv 0)) (blkOk_by (own := [("_law_token_here", 9)]) (N := N_right) (sc := defScope s_right) (by decide +kernel)) (fun _ _ _ _ _ => pg_name (i := 9) sc_right.nd rfl (.inl rfl)) (fun _ _ _ _ _ => pts_nil) (fun _ _ _ _ _ => (pe_call (ok_width T) (hr.mono (by decide)) (by rfl) T.g_width T.F_width.kp T.b_width .nil pass0 (pa_cons (pv 9) pa_nil))))
      (pss_cons (ps_set (i := 3) sc_right.nd rfl (.inl rfl) (pe_call (ok_set_lines T) (hr.mono (by decide)) (by rfl) T.g_set_lines T.F_set_lines.kp T.b_set_lines .nil pass0 (pa_cons (pe_callTy call_tuple_of (by rfl) T.m_tuple (by decide +kernel) (pa_cons (pv 0) pa_nil)) (pa_cons (pv 1) pa_nil))))
      (pss_cons (ps_set (i := 4) sc_right.nd rfl (.inl rfl) (pe_call (ok_counts T) (hr.mono (by decide)) (by rfl) T.g_counts T.F_counts.kp T.b_counts .nil pass0 (pa_cons (pv 3) (pa_cons (pv 0) (pa_cons (pv 1) pa_nil)))))
      (pss_cons (ps_if (pt_cmpR op_isN (pv 4) pe_non (nomark _))
      (pss_one (ps_ret pe_bl))
      pss_nil)
      (pss_cons (ps_set (i := 5) sc_right.nd rfl (.inl rfl) (pe_call (ok_line_cost T) (hr.mono (by decide)) (by rfl) T.g_line_cost T.F_line_cost.kp T.b_line_cost .nil pass0 (pa_cons (pv 3) (pa_cons (pv 1) pa_nil))))
      (pss_cons (ps_set (i := 6) sc_right.nd rfl (.inl rfl) (pe_call (ok_sum T) (hr.mono (by decide)) (by rfl) T.g_sum T.F_sum.kp T.b_sum .nil pass0 (pa_cons (pv 2) (pa_cons (pv 1) (pa_cons (pv 4) pa_nil)))))
      (pss_cons (ps_if (PW.pt (pw_or (pt_not (pt_val (pe_call (ok_is_integer T) (hr.mono (by decide)) (by rfl) T.g_is_integer T.F_is_integer.kp T.b_is_integer .nil pass0 (pa_cons (pv 5) pa_nil)))) (pw_or1 (pt_cmpR op_ne (pv 5) (pv 6) (nomark _)))))
      (pss_one (ps_ret pe_bl))
      pss_nil)
      (pss_cons (ps_if (pt_cmpR op_gt (pe_callB call_len_seq (by rfl) T.m_len PySem.boot_len (pa_cons (pv 0) pa_nil)) pe_int (nomark _))
      (pss_one (ps_ret (pe_call (ok_rows_are_least T) (hr.mono (by decide)) (by rfl) T.g_rows_are_least T.F_rows_are_least.kp T.b_rows_are_least .nil pass0 (pa_cons (pv 2) (pa_cons (pv 1) (pa_cons (pv 4) pa_nil))))))
      pss_nil)
      (pss_cons (ps_set (i := 7) sc_right.nd rfl (.inl rfl) (pe_call (ok_all_ways T) (hr.mono (by decide)) (by rfl) T.g_all_ways T.F_all_ways.kp T.b_all_ways .nil pass0 (pa_cons (pv 2) (pa_cons (pv 1) pa_nil))))
      (pss_cons (ps_for PassesOwn.never rfl (pi_list (pv 7)) (pg_name (i := 8) sc_right.nd rfl (.inl rfl))
      (pss_one (ps_if (PW.pt (pw_or (pt_cmpR op_lt (pe_ix ix_tup (pv 8) pe_int (fun _ _ => rfl)) (pv 6) (nomark _)) (pw_or1 (PW.pt (pw_and (pt_cmpR op_eq (pe_ix ix_tup (pv 8) pe_int (fun _ _ => rfl)) (pv 6) (nomark _)) (pw_and1 (pt_cmpR (op_gtT hr.units0) (pe_ix ix_tup (pv 8) pe_int (fun _ _ => rfl)) (pv 4) (nomark _))))))))
        (pss_one (ps_ret pe_bl))
        pss_nil)))
      (pss_one (ps_ret (pe_cmpR (op_inD (un2 hr)) (pe_tup (pa_cons (pv 4) (pa_cons (pv 6) pa_nil))) (pv 7) (by rfl)))))))))))))), ?_⟩
    have lw : (wids zs).length = zs.length := List.length_map ..
    have lz : (zs.map V.str).length = zs.length := List.length_map ..
    have hFz : ∀ z ∈ zs, wid z ≤ W := fun z hz => Int.le_trans (hT2 z hz).2 W1
    have hF := fits_of hFz
    have hway := dpk_way (W := W) _ (wids zs) (Nat.le_refl _) hF
    obtain ⟨c1, c2, c3, c4⟩ := way_chunks hway zs rfl
    have hch := setL_chunk (W := W) _ zs (Nat.le_refl _) hF
    rw [← hch] at c4
    have hl0 : zs.length ≠ 0 := fun h => t1 (List.length_eq_zero_iff.mp h)
    have hRows : Rows (setL W zs) := by
      have hne : chunk zs (dpk W (wids zs)) ≠ [] := fun e => by
        rw [e] at c1
        exact t1 c1.symm
      have hcl := way_len hway
      rw [hch]
      refine ⟨fun e => hne (List.map_eq_nil_iff.mp e), ?_, fun r hr => ?_⟩
      · rw [List.length_map, chunk_len]; omega
      · obtain ⟨ch, hc, rfl⟩ := List.mem_map.mp hr
        have h1 := (c2 ch hc).2
        have h2 := wid_ge (Txt.join " " ch)
        omega
    generalize hks : dpk W (wids zs) = ks at hway
    generalize hcc : dpc W (wids zs) = cc at hway c4
    refine ⟨_, rfl, a, rfl, ⟨_, hS⟩, fun D nD0 => ?_⟩
    have hS0 := hS
    refine lc_list (xs := zs.map V.str) (fun i H' => Same H H' ∧ H' D = some (.lst ((wids (zs.take i)).map V.int))) ⟨same_upd nD0, upd_same⟩ (fun i H' _ hh => Same.seq hh.1 hS) ?_ ?_
    · rintro i x H' hx ⟨sm, eD⟩
      obtain ⟨z, rfl, hz⟩ := get_map hx
      have hz1 := (t3 z (List.mem_of_getElem? hz)).1
      have hi : i < zs.length := (List.getElem?_eq_some_iff.mp hz).1
      refine ⟨rfl, ?_⟩
      refine ⟨_, rfl, z, rfl, Nat.le_of_lt (small1000 (by omega)), _, eD, ?_, same_put sm nD0 _, ?_⟩
      · rw [List.length_map]; unfold wids; rw [List.length_map, List.length_take]; exact small1000 (by omega)
      · rw [upd_same, wids_snoc hz, List.map_append]; rfl
    rintro H' ⟨sm, eD⟩
    rw [wids_all] at eD
    refine ⟨_, rfl, a, _, rfl, .inl ⟨sm.seq hS, fun T1 nT1 => ?_⟩⟩
    have s1 := sm.trans (same_upd (o := .tup (zs.map V.str)) nT1)
    have eD1 := same_upd (o := .tup (zs.map V.str)) nT1 _ _ eD
    refine ⟨_, rfl, T1, zs, W, rfl, .inr (.inl (.inl upd_same)), hT, W2, hFz, fun R H2 s2 nR eR => ?_⟩
    have s2' := s1.trans s2
    refine ⟨_, rfl, _, rfl, _, rfl, R, a, zs, W, rfl, .inl (.inl eR), s2'.seq hS, hT, hT2, W1, W2, fun C H3 s3 eC => ?_⟩
    rw [hks] at eC
    have s3' := s2'.trans s3
    refine ⟨_, rfl, rfl, _, rfl, ite2 (fun e => absurd (of_decide_eq_true e) (by intro z; cases z)) (fun _ => ?_)⟩
    refine ⟨_, rfl, _, rfl, R, setL W zs, W, rfl, .inr (.inl (.inl (s3 _ _ eR))), hRows, by omega, by omega, fun H4 s4 => ?_⟩
    have s4' := s3'.trans s4
    have eD4 := s4 _ _ (s3 _ _ (s2 _ _ eD1))
    have eC4 := s4 _ _ eC
    refine ⟨_, rfl, _, rfl, _, rfl, D, C, wids zs, ks, W, cc, rfl, .inl (.inl eD4), .inl (.inl eC4), hway, hF, by omega, by omega, fun H5 s5 => ?_⟩
    have s5' := s4'.trans s5
    have eD5 := s5 _ _ eD4
    have eC5 := s5 _ _ eC4
    refine ⟨_, rfl, _, rfl, _, rfl, iteF ?_⟩
    refine ⟨_, rfl, _, rfl, rfl, _, rfl, ?_⟩
    rw [decide_eq_true (congrArg V.int c4)]
    refine iteF ?_
    refine ⟨_, rfl, a, _, rfl, .inl (s5'.seq hS), _, _, rfl, rfl, _, rfl, ite2 (fun e => ?_) (fun e => ?_)⟩
    · exact ⟨_, rfl, _, rfl, _, rfl, D, C, wids zs, W, rfl, .inl (.inl eD5), .inl (.inl (by rw [hks]; exact eC5)), hF, by omega, by omega, by omega, fun H6 s6 => q H6 (s5'.trans s6)⟩
    · have h10 : ¬ (10 : Int) < ((zs.map V.str).length : Int) := fun h => e (decide_eq_true h)
      rw [lz] at h10
      refine ⟨_, rfl, _, rfl, D, wids zs, W, rfl, .inl (.inl eD5), hF, by omega, by omega, by omega, by omega, fun Y ds ys H6 s6 eY aY gY mem => ?_⟩
      have eC6 := s6 _ _ eC5
      rw [hks, hcc] at mem
      refine ⟨_, rfl, Y, rfl, ⟨_, .inl (.inl eY)⟩, for_list (xs := ys) (fun i σ' H' => ∃ y8 : Option V, σ' = [some (.ref a), some (.int W), some (.ref D), some (.ref R), some (.ref C), some (.int (cost W (setL W zs).dropLast)), some (.int cc), some (.ref Y), y8, none] ∧ H6 = H') ⟨none, rfl, rfl⟩ (fun i σ' H' _ hh => ?_) ?_ ?_⟩
      · obtain ⟨_, _, rfl⟩ := hh
        exact .inl (.inl eY)
      · rintro i x σ' H' hx ⟨y8, rfl, rfl⟩
        obtain ⟨⟨kd, cd⟩, hd, p, tt, rfl, ep, et⟩ := all2_get aY hx
        dsimp only at ep et
        have hw := gY _ (List.mem_of_getElem? hd)
        have hle := way_least (W := W) _ (wids zs) kd cd (Nat.le_refl _) hF hw
        rw [hks, hcc] at hle
        refine ⟨_, rfl, p, _, 1, .int cd, rfl, rfl, .inl (.inl ep), rfl, _, rfl, _, _, rfl, rfl, _, rfl, ite2 (fun e => ?_) (fun _ => ?_)⟩
        · have : cd < cc := of_decide_eq_true e
          omega
        refine ⟨_, rfl, p, _, 1, .int cd, rfl, rfl, .inl (.inl ep), rfl, _, rfl, rfl, _, rfl, ite2 (fun e => ?_) (fun e => ?_)⟩
        · have ec : cd = cc := V.int.inj (of_decide_eq_true e)
          refine ⟨_, rfl, p, _, 0, .ref tt, rfl, rfl, .inl (.inl ep), rfl, _, rfl, tt, C, kd, ks, rfl, rfl, .inl (.inl et), .inl (.inl eC6), fun r hr => ⟨_, rfl, ?_⟩⟩
          rw [hr (hle.2 ec)]
          refine iteF ?_
          exact ⟨_, rfl, rfl⟩
        · exact ⟨_, rfl, rfl⟩
      · rintro σ' H' ⟨y8, rfl, rfl⟩
        refine ⟨_, rfl, _, rfl, (by show 2 ≤ sizeLine; decide), fun g ng => ?_⟩
        have sg := same_upd (o := .tup [.ref C, .int cc]) ng
        have dg : DEnt (upd H6 g (.tup [.ref C, .int cc])) (ks, cc) (.ref g) := ⟨g, C, rfl, upd_same, sg _ _ eC6⟩
        refine ⟨_, rfl, dD (ks, cc), ds.map dD, dp_dent dg, .lst (.inl (.inl (sg _ _ eY))) (dp_ways ds ys (all2_imp aY (dent_stay (.of sg)))), shaped_D _, shaped_Ds _, ?_⟩
        rw [any_D mem]
        exact q _ ((s5'.trans s6).trans sg)
theorem ok_law (T : Tab K mg) : FnOk P w K mg base CX0 5 T.f_law T.d_law ["_law_script"] (sp_law K) := by
  refine T.F_law.ok sc_law (fun vs H Q E h => ?_) (fun cdv A outer s H vs Q E hr h => ?_)
  · obtain ⟨a, ns, rfl, _⟩ := h
    rfl
  · obtain ⟨a, ns, rfl, hS, hlen, q⟩ := h
    refine ⟨_, (pss_cons (ps_set (i := 1) sc_law.nd rfl (.inl rfl) (pe_lst pa_nil))
      (pss_cons (ps_for PassesOwn.never rfl (pi_range1 (by rfl) T.m_range (pa_cons (pe_callB (call_max2 rfl) (by rfl) T.m_max (by decide +kernel) (pa_cons pe_int (pa_cons (pe_callB (call_min2 rfl) (by rfl) T.m_min (by decide +kernel) (pa_cons pe_int (pa_cons (pe_callB call_len_seq (by rfl) T.m_len PySem.boot_len (pa_cons (pv 0) pa_nil)) pa_nil))) pa_nil))) pa_nil)) (pg_name (i := 2) sc_law.nd rfl (.inl rfl))
      (pss_cons (ps_set (i := 3) sc_law.nd rfl (.inl rfl) (pe_call (ok_source T) (hr.mono (by decide)) (by rfl) T.g_source T.F_source.kp T.b_source .nil pass0 (pa_cons (pv 0) (pa_cons (pv 2) pa_nil))))
        (pss_cons (ps_set (i := 4) sc_law.nd rfl (.inl rfl) (pe_op op_add pe_int (pe_call (ok_pick T) (hr.mono (by decide)) (by rfl) T.g_pick T.F_pick.kp T.b_pick .nil pass0 (pa_cons (pv 3) (pa_cons pe_int pa_nil)))))
        (C8.pss_cut (ps_if (pt_cmpR op_eq (pe_call (ok_pick T) (hr.mono (by decide)) (by rfl) T.g_pick T.F_pick.kp T.b_pick .nil pass0 (pa_cons (pv 3) (pa_cons pe_int pa_nil))) pe_int (nomark _))
        (pss_one (ps_set (i := 4) sc_law.nd rfl (.inl rfl) (pe_op op_add pe_int (pe_call (ok_pick T) (hr.mono (by decide)) (by rfl) T.g_pick T.F_pick.kp T.b_pick .nil pass0 (pa_cons (pv 3) (pa_cons pe_int pa_nil))))))
        pss_nil)
        (pss_cons (ps_set (i := 5) sc_law.nd rfl (.inl rfl) (pe_call (ok_some_tokens T) (hr.mono (by decide)) (by rfl) T.g_some_tokens T.F_some_tokens.kp T.b_some_tokens .nil pass0 (pa_cons (pv 3) pa_nil)))
        (pss_cons (ps_if (pt_not (pt_val (pe_call (ok_right T) (hr.mono (by decide)) (by rfl) T.g_right T.F_right.kp T.b_right .nil pass0 (pa_cons (pv 5) (pa_cons (pv 4) pa_nil)))))
        (pss_one (ps_ret pe_bl))
        pss_nil)
        (pss_one (ps_expr (pe_bm PySem.F.plainAttrs_list PySem.F.slot_list_append PySem.F.type_list_append mt_append (pv 1) (pa_cons (pe_lst (pa_cons (pv 5) (pa_cons (pv 4) pa_nil))) pa_nil))))))))))
      (pss_cons (ps_for PassesOwn.never rfl (pi_list (pv 1)) (pg_name (i := 6) sc_law.nd rfl (.inl rfl))
      (pss_cons (ps_set (i := 7) sc_law.nd rfl (.inl rfl) (pe_callTy call_list_of (by rfl) T.m_list (by decide +kernel) (pa_cons (pe_ix ix_list (pv 6) pe_int (fun _ _ => rfl)) pa_nil)))
        (pss_cons (ps_set (i := 8) sc_law.nd rfl (.inl rfl) (pe_call (ok_set_lines T) (hr.mono (by decide)) (by rfl) T.g_set_lines T.F_set_lines.kp T.b_set_lines .nil pass0 (pa_cons (pv 7) (pa_cons (pe_ix ix_list (pv 6) pe_int (fun _ _ => rfl)) pa_nil))))
        (pss_cons (ps_if (PW.pt (pw_or (pt_cmpR (op_neD hr.units) (pv 7) (pe_ix ix_list (pv 6) pe_int (fun _ _ => rfl)) (nomark _)) (pw_or1 (pt_cmpR (op_neD hr.units) (pv 8) (pe_call (ok_set_lines T) (hr.mono (by decide)) (by rfl) T.g_set_lines T.F_set_lines.kp T.b_set_lines .nil pass0 (pa_cons (pe_callTy call_tuple_of (by rfl) T.m_tuple (by decide +kernel) (pa_cons (pe_ix ix_list (pv 6) pe_int (fun _ _ => rfl)) pa_nil)) (pa_cons (pe_ix ix_list (pv 6) pe_int (fun _ _ => rfl)) pa_nil))) (nomark _)))))
        (pss_one (ps_ret pe_bl))
        pss_nil)
        (pss_one (ps_if (PW.pt (pw_or (pt_cmpR op_isN (pe_call (ok_counts T) (hr.mono (by decide)) (by rfl) T.g_counts T.F_counts.kp T.b_counts .nil pass0 (pa_cons (pv 8) (pa_cons (pe_ix ix_list (pv 6) pe_int (fun _ _ => rfl)) (pa_cons (pe_ix ix_list (pv 6) pe_int (fun _ _ => rfl)) pa_nil)))) pe_non (nomark _)) (pw_or1 (pt_cmpR (op_neD hr.units) (pe_callTy call_list_of (by rfl) T.m_list (by decide +kernel) (pa_cons (pv 8) pa_nil)) (pe_call (ok_rows T) (hr.mono (by decide)) (by rfl) T.g_rows T.F_rows.kp T.b_rows .nil pass0 (pa_cons (pe_ix ix_list (pv 6) pe_int (fun _ _ => rfl)) (pa_cons (pe_ix ix_list (pv 6) pe_int (fun _ _ => rfl)) pa_nil))) (nomark _)))))
        (pss_one (ps_ret pe_bl))
        pss_nil))))))
      (pss_one (ps_ret pe_bl))))), ?_⟩
    refine ⟨Nat.zero_le _, fun s ns0 => ?_⟩
    have s0 : Same H (upd H s (.lst [])) := same_upd ns0
    have hn : ((ns.map V.int).length : Int) ≤ 63 := by rw [List.length_map]; omega
    refine ⟨_, rfl, _, _, rfl, .inl (s0.seq hS), _, _, rfl, _, _, rfl, _, rfl, ?_, ?_, for_range (lo := 0) (fun i σ' H' => ∃ (ps : List Addr) (y2 y3 y4 y5 : Option V), σ' = [some (.ref a), some (.ref s), y2, y3, y4, y5, none, none, none] ∧ ps.length = i ∧ Same H H' ∧ H' s = some (.lst (ps.map V.ref)) ∧ ∀ p ∈ ps, p ≠ s ∧ ∃ (zs : List Str) (W : Int) (p2 : Addr), p2 ≠ s ∧ Toks zs ∧ Tok2 zs ∧ 20 ≤ W ∧ W ≤ 60 ∧ H' p = some (.lst [.ref p2, .int W]) ∧ H' p2 = some (.lst (zs.map V.str))) ⟨[], none, none, none, none, rfl, rfl, s0, upd_same, fun _ h => nomatch h⟩ ?_ ?_⟩
    · split <;> split <;> omega
    · split <;> split <;> omega
    · rintro i σ' Hx hi ⟨ps, y2, y3, y4, y5, rfl, lp, smh, eS, good⟩
      have hi2 : i < 64 := by
        split at hi <;> split at hi <;> omega
      refine ⟨_, rfl, _, rfl, a, ns, i, ?_, smh.seq hS, fun p0 H1 sm1 n0 src => ?_⟩
      · show [V.ref a, V.int (0 + (i : Int))] = [V.ref a, V.int (i : Int)]
        rw [Int.zero_add]
      have nsp : s ≠ p0 := ne_of_none eS n0
      refine ⟨_, rfl, _, _, rfl, src, by decide, by decide, fun n1 H2 s2 b2 p1 p2 => ?_⟩
      refine ⟨_, _, rfl, rfl, ?_⟩
      refine ⟨fun σ' H' => ∃ W : Int, σ' = [some (.ref a), some (.ref s), some (.int (0 + (i : Int))), some (.ref p0), some (.int W), y5, none, none, none] ∧ 20 ≤ W ∧ W ≤ 60 ∧ Src H' p0 ∧ But p0 H1 H', ?_, ?_⟩
      · refine ⟨_, rfl, _, _, rfl, s2, by decide, by decide, fun r H3 s3 b3 p3 p4 => ?_⟩
        refine ⟨rfl, _, rfl, ite2 (fun e => ?_) (fun e => ?_)⟩
        · refine ⟨_, rfl, _, _, rfl, s3, by decide, by decide, fun r H4 s4 b4 p5 p6 => ?_⟩
          exact ⟨_, _, rfl, rfl, _, rfl, by omega, by omega, s4, (b2.trans b3).trans b4⟩
        · exact ⟨_, rfl, by omega, by omega, s3, b2.trans b3⟩
      rintro σ' H2 ⟨W, rfl, W1, W2, src2, b2⟩
      refine ⟨_, rfl, p0, rfl, src2, fun zs p H3 np src3 b3 e3 hT hT2 => ?_⟩
      have b23 := b2.trans b3
      have x3 : Same Hx H3 := b23.same n0 sm1
      have nps : p ≠ s := fun e => by
        rw [e, b2 _ _ nsp (sm1 _ _ eS)] at np
        cases np
      refine ⟨_, rfl, _, rfl, p, zs, W, rfl, .inl (.inl e3), hT, hT2, W1, W2, fun H7 s7 => ⟨true, rfl, ?_⟩⟩
      refine iteF ?_
      have x7 := x3.trans s7
      refine ⟨_, rfl, .inl ⟨rfl, _, .inl (.inl (x7 _ _ eS))⟩, _, rfl, _, rfl, (by show 2 ≤ sizeLine; decide), fun t nt => ?_⟩
      have s8 := same_upd (o := .lst [V.ref p, V.int W]) nt
      have x8 := x7.trans s8
      have nts : t ≠ s := fun e => by
        rw [e, x7 _ _ eS] at nt
        cases nt
      refine ⟨_, _, _, rfl, rfl, x8 _ _ eS, ?_, ?_⟩
      · rw [List.length_map]; exact small1000 (by omega)
      refine ⟨ps ++ [t], _, _, _, _, rfl, ?_, same_put (smh.trans x8) ns0 _, ?_, ?_⟩
      · rw [List.length_append, lp]; rfl
      · rw [upd_same, List.map_append]; rfl
      · intro p' hp
        rcases List.mem_append.mp hp with h | h
        · obtain ⟨h1, zs', w', q2, h2, h3, h4, h5, h6, h7, h8⟩ := good p' h
          exact ⟨h1, zs', w', q2, h2, h3, h4, h5, h6, by rw [upd_ne h1]; exact x8 _ _ h7, by rw [upd_ne h2]; exact x8 _ _ h8⟩
        · rw [List.mem_singleton.mp h]
          exact ⟨nts, zs, W, p, nps, hT, hT2, W1, W2, by rw [upd_ne nts, upd_same], by rw [upd_ne nps]; exact s8 _ _ (s7 _ _ e3)⟩
    · rintro σ' Hx ⟨ps, y2, y3, y4, y5, rfl, lp, smh, eS, good⟩
      refine ⟨_, rfl, _, rfl, ⟨_, .inl (.inl eS)⟩, for_list (xs := ps.map V.ref) (fun i σ'' H'' => ∃ y6 y7 y8 : Option V, σ'' = [some (.ref a), some (.ref s), y2, y3, y4, y5, y6, y7, y8] ∧ Same Hx H'') ⟨none, none, none, rfl, Same.refl _⟩ (fun (i : Nat) (σ'' : L2.St) (H'' : Hp) _ hh => ?_) ?_ ?_⟩
      · obtain ⟨_, _, _, _, s2⟩ := hh
        exact .inl (.inl (s2 _ _ eS))
      · rintro i x σ'' H'' hx ⟨y6, y7, y8, rfl, s2⟩
        obtain ⟨p, rfl, hp⟩ := get_mapR hx
        obtain ⟨_, zs, W, p2, _, hT, hT2, W1, W2, e1, e2⟩ := good p hp
        obtain ⟨t1, t2, t3⟩ := id hT
        have okz : ∀ z ∈ zs, PyData.strOk z = true := fun z hz => (t3 z hz).2
        have hFz : ∀ z ∈ zs, wid z ≤ W := fun z hz => Int.le_trans (hT2 z hz).2 W1
        have okr := setL_ok (W := W) okz
        have e1' := s2 _ _ e1
        have e2' := s2 _ _ e2
        refine ⟨_, rfl, _, _, _, _, rfl, rfl, .inl (.inl e1'), atI_nat (j := 0) rfl, _, _, rfl, .inl (.inl (.inl e2')), fun l nl => ?_⟩
        have s3 := same_upd (o := .lst (zs.map V.str)) nl
        refine ⟨_, rfl, _, rfl, _, _, _, _, rfl, rfl, .inl (.inl (s3 _ _ e1')), atI_nat (j := 1) rfl, l, zs, W, rfl, .inl (.inl (.inl upd_same)), hT, W2, hFz, fun td H4 s4 ntd etd => ?_⟩
        have x4 := s3.trans s4
        refine ⟨_, rfl, _, rfl, _, _, _, _, rfl, rfl, .inl (.inl (x4 _ _ e1')), atI_nat (j := 0) rfl, .list (zs.map PyData.str), .list (zs.map PyData.str), .lst (.inl (.inl (s4 _ _ upd_same))) (dp_strs _), .lst (.inl (.inl (x4 _ _ e2'))) (dp_strs _), shaped_l _ okz, shaped_l _ okz, _, rfl, ?_⟩
        rw [show PyData.eqv (.list (zs.map PyData.str)) (.list (zs.map PyData.str)) = decide (zs = zs) from eqv_strs _ _, decide_eq_true rfl]
        refine iteF ?_
        refine ⟨_, rfl, _, rfl, _, _, _, _, rfl, rfl, .inl (.inl (x4 _ _ e1')), atI_nat (j := 0) rfl, _, _, rfl, .inl ⟨.inl (.inl (x4 _ _ e2')), fun tt ntt => ?_⟩⟩
        have s5 := same_upd (o := .tup (zs.map V.str)) ntt
        refine ⟨_, rfl, _, _, _, _, rfl, rfl, .inl (.inl (s5 _ _ (x4 _ _ e1'))), atI_nat (j := 1) rfl, tt, zs, W, rfl, .inr (.inl (.inl upd_same)), hT, W2, hFz, fun te H6 s6 nte ete => ?_⟩
        have x6 := (x4.trans s5).trans s6
        have etd6 := s6 _ _ (s5 _ _ etd)
        refine ⟨.tuple ((setL W zs).map PyData.str), .tuple ((setL W zs).map PyData.str), .tup (.inl (.inl etd6)) (dp_strs _), .tup (.inl (.inl ete)) (dp_strs _), shaped_t _ okr, shaped_t _ okr, _, rfl, ?_⟩
        rw [show PyData.eqv (.tuple ((setL W zs).map PyData.str)) (.tuple ((setL W zs).map PyData.str)) = decide (setL W zs = setL W zs) from eqv_strs _ _, decide_eq_true rfl]
        refine iteF ?_
        refine ⟨_, rfl, _, rfl, _, _, _, _, rfl, rfl, .inl (.inl (x6 _ _ e1')), atI_nat (j := 0) rfl, _, rfl, _, _, _, _, rfl, rfl, .inl (.inl (x6 _ _ e1')), atI_nat (j := 1) rfl, td, p2, zs, W, rfl, .inl (.inl etd6), .inl (.inl (x6 _ _ e2')), hT, hT2, W1, W2, fun C H7 s7 eC => ?_⟩
        have x7 := x6.trans s7
        refine ⟨rfl, _, rfl, ite2 (fun e => absurd (of_decide_eq_true e) (by intro z; cases z)) (fun _ => ?_)⟩
        refine ⟨_, rfl, _, _, rfl, .inr (.inl (.inl (s7 _ _ etd6))), fun l2 nl2 => ?_⟩
        have s8 := same_upd (o := .lst ((setL W zs).map V.str)) nl2
        have x8 := x7.trans s8
        refine ⟨_, rfl, _, _, _, _, rfl, rfl, .inl (.inl (x8 _ _ e1')), atI_nat (j := 0) rfl, _, rfl, _, _, _, _, rfl, rfl, .inl (.inl (x8 _ _ e1')), atI_nat (j := 1) rfl, p2, zs, W, rfl, .inl (.inl (x8 _ _ e2')), hT, W2, hFz, fun lr H9 s9 nlr elr => ?_⟩
        refine ⟨.list ((setL W zs).map PyData.str), .list ((setL W zs).map PyData.str), .lst (.inl (.inl (s9 _ _ upd_same))) (dp_strs _), .lst (.inl (.inl elr)) (dp_strs _), shaped_l _ okr, shaped_l _ okr, _, rfl, ?_⟩
        rw [show PyData.eqv (.list ((setL W zs).map PyData.str)) (.list ((setL W zs).map PyData.str)) = decide (setL W zs = setL W zs) from eqv_strs _ _, decide_eq_true rfl]
        refine iteF ?_
        exact ⟨_, _, _, rfl, s2.trans (x8.trans s9)⟩
      · rintro σ'' H'' ⟨y6, y7, y8, rfl, s2⟩
        exact q _
end
theorem all_mk {l : PySem.W.OpenLaw} {w : World} {K : PySem.W.Frag} {h : Heap} {mg : Str → Option Value} {fa f0 f1 f2 f3 f4 f5 f6 f7 f8 f9 f10 f11 f12 f13 f14 f15 f16 f17 f18 f19 f20 : Addr} (X : K.In h) (G : h.Ns mainGlobals mg) (hfa : mg "law" = some (.ref fa))
    {od0 an0 od1 an1 od2 an2 od3 an3 od4 an4 od5 an5 od6 an6 od7 an7 od8 an8 od9 an9 od10 an10 od11 an11 od12 an12 od13 an13 od14 an14 od15 an15 od16 an16 od17 an17 od18 an18 od19 an19 od20 an20 : Option Addr} {sl0 sl1 sl2 sl3 sl4 sl5 sl6 sl7 sl8 sl9 sl10 sl11 sl12 sl13 sl14 sl15 sl16 sl17 sl18 sl19 sl20 : Array (Option Value)} {oc0 kV0 dc0 pm0 cd0 ct0 oc1 kV1 dc1 pm1 cd1 ct1 oc2 kV2 dc2 pm2 cd2 ct2 oc3 kV3 dc3 pm3 cd3 ct3 oc4 kV4 dc4 pm4 cd4 ct4 oc5 kV5 dc5 pm5 cd5 ct5 oc6 kV6 dc6 pm6 cd6 ct6 oc7 kV7 dc7 pm7 cd7 ct7 oc8 kV8 dc8 pm8 cd8 ct8 oc9 kV9 dc9 pm9 cd9 ct9 oc10 kV10 dc10 pm10 cd10 ct10 oc11 kV11 dc11 pm11 cd11 ct11 oc12 kV12 dc12 pm12 cd12 ct12 oc13 kV13 dc13 pm13 cd13 ct13 oc14 kV14 dc14 pm14 cd14 ct14 oc15 kV15 dc15 pm15 cd15 ct15 oc16 kV16 dc16 pm16 cd16 ct16 oc17 kV17 dc17 pm17 cd17 ct17 oc18 kV18 dc18 pm18 cd18 ct18 oc19 kV19 dc19 pm19 cd19 ct19 oc20 kV20 dc20 pm20 cd20 ct20 : Value}
    (a0 : PySem.W.nsIn K mainGlobals "token_width" = some (some (.ref f0))) (l0 : K.lookup f0 = some ⟨oc0, od0, .func (PySem.W.fnOf "token_width" "token_width" (defArgs s_token_width) (defBody s_token_width) (defScope s_token_width) .none kV0 dc0 pm0 an0 cd0 ct0), sl0⟩) (c0 : PySem.W.codeIn K cd0 "token_width" = true) (k0 : PySem.W.keepIn K (.ref f0) = true)
    (a1 : PySem.W.nsIn K mainGlobals "row_width" = some (some (.ref f1))) (l1 : K.lookup f1 = some ⟨oc1, od1, .func (PySem.W.fnOf "row_width" "row_width" (defArgs s_row_width) (defBody s_row_width) (defScope s_row_width) .none kV1 dc1 pm1 an1 cd1 ct1), sl1⟩) (c1 : PySem.W.codeIn K cd1 "row_width" = true) (k1 : PySem.W.keepIn K (.ref f1) = true)
    (a2 : PySem.W.nsIn K mainGlobals "set_lines" = some (some (.ref f2))) (l2 : K.lookup f2 = some ⟨oc2, od2, .func (PySem.W.fnOf "set_lines" "set_lines" (defArgs s_set_lines) (defBody s_set_lines) (defScope s_set_lines) .none kV2 dc2 pm2 an2 cd2 ct2), sl2⟩) (c2 : PySem.W.codeIn K cd2 "set_lines" = true) (k2 : PySem.W.keepIn K (.ref f2) = true)
    (a3 : PySem.W.nsIn K mainGlobals "row_ends" = some (some (.ref f3))) (l3 : K.lookup f3 = some ⟨oc3, od3, .func (PySem.W.fnOf "row_ends" "row_ends" (defArgs s_row_ends) (defBody s_row_ends) (defScope s_row_ends) .none kV3 dc3 pm3 an3 cd3 ct3), sl3⟩) (c3 : PySem.W.codeIn K cd3 "row_ends" = true) (k3 : PySem.W.keepIn K (.ref f3) = true)
    (a4 : PySem.W.nsIn K mainGlobals "fill_ends" = some (some (.ref f4))) (l4 : K.lookup f4 = some ⟨oc4, od4, .func (PySem.W.fnOf "fill_ends" "fill_ends" (defArgs s_fill_ends) (defBody s_fill_ends) (defScope s_fill_ends) .none kV4 dc4 pm4 an4 cd4 ct4), sl4⟩) (c4 : PySem.W.codeIn K cd4 "fill_ends" = true) (k4 : PySem.W.keepIn K (.ref f4) = true)
    (a5 : PySem.W.nsIn K mainGlobals "line_cost" = some (some (.ref f5))) (l5 : K.lookup f5 = some ⟨oc5, od5, .func (PySem.W.fnOf "line_cost" "line_cost" (defArgs s_line_cost) (defBody s_line_cost) (defScope s_line_cost) .none kV5 dc5 pm5 an5 cd5 ct5), sl5⟩) (c5 : PySem.W.codeIn K cd5 "line_cost" = true) (k5 : PySem.W.keepIn K (.ref f5) = true)
    (a6 : PySem.W.nsIn K mainGlobals "_law_source" = some (some (.ref f6))) (l6 : K.lookup f6 = some ⟨oc6, od6, .func (PySem.W.fnOf "_law_source" "_law_source" (defArgs s_source) (defBody s_source) (defScope s_source) .none kV6 dc6 pm6 an6 cd6 ct6), sl6⟩) (c6 : PySem.W.codeIn K cd6 "_law_source" = true) (k6 : PySem.W.keepIn K (.ref f6) = true)
    (a7 : PySem.W.nsIn K mainGlobals "_law_pick" = some (some (.ref f7))) (l7 : K.lookup f7 = some ⟨oc7, od7, .func (PySem.W.fnOf "_law_pick" "_law_pick" (defArgs s_pick) (defBody s_pick) (defScope s_pick) .none kV7 dc7 pm7 an7 cd7 ct7), sl7⟩) (c7 : PySem.W.codeIn K cd7 "_law_pick" = true) (k7 : PySem.W.keepIn K (.ref f7) = true)
    (a8 : PySem.W.nsIn K mainGlobals "_law_is_integer" = some (some (.ref f8))) (l8 : K.lookup f8 = some ⟨oc8, od8, .func (PySem.W.fnOf "_law_is_integer" "_law_is_integer" (defArgs s_is_integer) (defBody s_is_integer) (defScope s_is_integer) .none kV8 dc8 pm8 an8 cd8 ct8), sl8⟩) (c8 : PySem.W.codeIn K cd8 "_law_is_integer" = true) (k8 : PySem.W.keepIn K (.ref f8) = true)
    (a9 : PySem.W.nsIn K mainGlobals "_law_width" = some (some (.ref f9))) (l9 : K.lookup f9 = some ⟨oc9, od9, .func (PySem.W.fnOf "_law_width" "_law_width" (defArgs s_width) (defBody s_width) (defScope s_width) .none kV9 dc9 pm9 an9 cd9 ct9), sl9⟩) (c9 : PySem.W.codeIn K cd9 "_law_width" = true) (k9 : PySem.W.keepIn K (.ref f9) = true)
    (a10 : PySem.W.nsIn K mainGlobals "_law_cut" = some (some (.ref f10))) (l10 : K.lookup f10 = some ⟨oc10, od10, .func (PySem.W.fnOf "_law_cut" "_law_cut" (defArgs s_cut) (defBody s_cut) (defScope s_cut) .none kV10 dc10 pm10 an10 cd10 ct10), sl10⟩) (c10 : PySem.W.codeIn K cd10 "_law_cut" = true) (k10 : PySem.W.keepIn K (.ref f10) = true)
    (a11 : PySem.W.nsIn K mainGlobals "_law_rows" = some (some (.ref f11))) (l11 : K.lookup f11 = some ⟨oc11, od11, .func (PySem.W.fnOf "_law_rows" "_law_rows" (defArgs s_rows) (defBody s_rows) (defScope s_rows) .none kV11 dc11 pm11 an11 cd11 ct11), sl11⟩) (c11 : PySem.W.codeIn K cd11 "_law_rows" = true) (k11 : PySem.W.keepIn K (.ref f11) = true)
    (a12 : PySem.W.nsIn K mainGlobals "_law_token" = some (some (.ref f12))) (l12 : K.lookup f12 = some ⟨oc12, od12, .func (PySem.W.fnOf "_law_token" "_law_token" (defArgs s_token) (defBody s_token) (defScope s_token) .none kV12 dc12 pm12 an12 cd12 ct12), sl12⟩) (c12 : PySem.W.codeIn K cd12 "_law_token" = true) (k12 : PySem.W.keepIn K (.ref f12) = true)
    (a13 : PySem.W.nsIn K mainGlobals "_law_some_tokens" = some (some (.ref f13))) (l13 : K.lookup f13 = some ⟨oc13, od13, .func (PySem.W.fnOf "_law_some_tokens" "_law_some_tokens" (defArgs s_some_tokens) (defBody s_some_tokens) (defScope s_some_tokens) .none kV13 dc13 pm13 an13 cd13 ct13), sl13⟩) (c13 : PySem.W.codeIn K cd13 "_law_some_tokens" = true) (k13 : PySem.W.keepIn K (.ref f13) = true)
    (a14 : PySem.W.nsIn K mainGlobals "_law_counts" = some (some (.ref f14))) (l14 : K.lookup f14 = some ⟨oc14, od14, .func (PySem.W.fnOf "_law_counts" "_law_counts" (defArgs s_counts) (defBody s_counts) (defScope s_counts) .none kV14 dc14 pm14 an14 cd14 ct14), sl14⟩) (c14 : PySem.W.codeIn K cd14 "_law_counts" = true) (k14 : PySem.W.keepIn K (.ref f14) = true)
    (a15 : PySem.W.nsIn K mainGlobals "_law_sum" = some (some (.ref f15))) (l15 : K.lookup f15 = some ⟨oc15, od15, .func (PySem.W.fnOf "_law_sum" "_law_sum" (defArgs s_sum) (defBody s_sum) (defScope s_sum) .none kV15 dc15 pm15 an15 cd15 ct15), sl15⟩) (c15 : PySem.W.codeIn K cd15 "_law_sum" = true) (k15 : PySem.W.keepIn K (.ref f15) = true)
    (a16 : PySem.W.nsIn K mainGlobals "_law_all_ways" = some (some (.ref f16))) (l16 : K.lookup f16 = some ⟨oc16, od16, .func (PySem.W.fnOf "_law_all_ways" "_law_all_ways" (defArgs s_all_ways) (defBody s_all_ways) (defScope s_all_ways) .none kV16 dc16 pm16 an16 cd16 ct16), sl16⟩) (c16 : PySem.W.codeIn K cd16 "_law_all_ways" = true) (k16 : PySem.W.keepIn K (.ref f16) = true)
    (a17 : PySem.W.nsIn K mainGlobals "_law_least_from" = some (some (.ref f17))) (l17 : K.lookup f17 = some ⟨oc17, od17, .func (PySem.W.fnOf "_law_least_from" "_law_least_from" (defArgs s_least_from) (defBody s_least_from) (defScope s_least_from) .none kV17 dc17 pm17 an17 cd17 ct17), sl17⟩) (c17 : PySem.W.codeIn K cd17 "_law_least_from" = true) (k17 : PySem.W.keepIn K (.ref f17) = true)
    (a18 : PySem.W.nsIn K mainGlobals "_law_rows_are_least" = some (some (.ref f18))) (l18 : K.lookup f18 = some ⟨oc18, od18, .func (PySem.W.fnOf "_law_rows_are_least" "_law_rows_are_least" (defArgs s_rows_are_least) (defBody s_rows_are_least) (defScope s_rows_are_least) .none kV18 dc18 pm18 an18 cd18 ct18), sl18⟩) (c18 : PySem.W.codeIn K cd18 "_law_rows_are_least" = true) (k18 : PySem.W.keepIn K (.ref f18) = true)
    (a19 : PySem.W.nsIn K mainGlobals "_law_right" = some (some (.ref f19))) (l19 : K.lookup f19 = some ⟨oc19, od19, .func (PySem.W.fnOf "_law_right" "_law_right" (defArgs s_right) (defBody s_right) (defScope s_right) .none kV19 dc19 pm19 an19 cd19 ct19), sl19⟩) (c19 : PySem.W.codeIn K cd19 "_law_right" = true) (k19 : PySem.W.keepIn K (.ref f19) = true)
    (a20 : PySem.W.nsIn K mainGlobals "law" = some (some (.ref f20))) (l20 : K.lookup f20 = some ⟨oc20, od20, .func (PySem.W.fnOf "law" "law" (defArgs s_law) (defBody s_law) (defScope s_law) .none kV20 dc20 pm20 an20 cd20 ct20), sl20⟩) (c20 : PySem.W.codeIn K cd20 "law" = true) (k20 : PySem.W.keepIn K (.ref f20) = true)
    (z_abs : PySem.W.nsIn K mainGlobals "abs" = some none)
    (z_bool : PySem.W.nsIn K mainGlobals "bool" = some none)
    (z_int : PySem.W.nsIn K mainGlobals "int" = some none)
    (z_isinstance : PySem.W.nsIn K mainGlobals "isinstance" = some none)
    (z_len : PySem.W.nsIn K mainGlobals "len" = some none)
    (z_list : PySem.W.nsIn K mainGlobals "list" = some none)
    (z_max : PySem.W.nsIn K mainGlobals "max" = some none)
    (z_min : PySem.W.nsIn K mainGlobals "min" = some none)
    (z_range : PySem.W.nsIn K mainGlobals "range" = some none)
    (z_reversed : PySem.W.nsIn K mainGlobals "reversed" = some none)
    (z_str : PySem.W.nsIn K mainGlobals "str" = some none)
    (z_sum : PySem.W.nsIn K mainGlobals "sum" = some none)
    (z_tuple : PySem.W.nsIn K mainGlobals "tuple" = some none)
    : ∃ fd : FuncData, (∀ (s : Shared) (v : Value), BindsTo s fd ⟨[v], []⟩ [("_law_script", v)]) ∧ ∀ base : Heap, K.In base → base.Ns mainGlobals mg → FnOk l.prog w K mg base CX0 5 fa fd ["_law_script"] (sp_law K) := by
  have e := hfa.symm.trans (PySem.W.mg_of X G a20)
  cases e
  have F0 := fun_mk (st := s_token_width) l0 c0 k0
  have b0 := F0.binds (ps := ["token"]) fun _ _ _ _ _ _ us hl => match us, hl with | [_], _ => rfl
  have F1 := fun_mk (st := s_row_width) l1 c1 k1
  have b1 := F1.binds (ps := ["row"]) fun _ _ _ _ _ _ us hl => match us, hl with | [_], _ => rfl
  have F2 := fun_mk (st := s_set_lines) l2 c2 k2
  have b2 := F2.binds (ps := ["tokens", "width"]) fun _ _ _ _ _ _ us hl => match us, hl with | [_, _], _ => rfl
  have F3 := fun_mk (st := s_row_ends) l3 c3 k3
  have b3 := F3.binds (ps := ["widths", "width"]) fun _ _ _ _ _ _ us hl => match us, hl with | [_, _], _ => rfl
  have F4 := fun_mk (st := s_fill_ends) l4 c4 k4
  have b4 := F4.binds (ps := ["widths", "width", "costs", "ends", "span"]) fun _ _ _ _ _ _ us hl => match us, hl with | [_, _, _, _, _], _ => rfl
  have F5 := fun_mk (st := s_line_cost) l5 c5 k5
  have b5 := F5.binds (ps := ["rows", "width"]) fun _ _ _ _ _ _ us hl => match us, hl with | [_, _], _ => rfl
  have F6 := fun_mk (st := s_source) l6 c6 k6
  have b6 := F6.binds (ps := ["_law_script", "_law_k"]) fun _ _ _ _ _ _ us hl => match us, hl with | [_, _], _ => rfl
  have F7 := fun_mk (st := s_pick) l7 c7 k7
  have b7 := F7.binds (ps := ["_law_source_here", "_law_many"]) fun _ _ _ _ _ _ us hl => match us, hl with | [_, _], _ => rfl
  have F8 := fun_mk (st := s_is_integer) l8 c8 k8
  have b8 := F8.binds (ps := ["_law_actual"]) fun _ _ _ _ _ _ us hl => match us, hl with | [_], _ => rfl
  have F9 := fun_mk (st := s_width) l9 c9 k9
  have b9 := F9.binds (ps := ["_law_token_here"]) fun _ _ _ _ _ _ us hl => match us, hl with | [_], _ => rfl
  have F10 := fun_mk (st := s_cut) l10 c10 k10
  have b10 := F10.binds (ps := ["_law_widths", "_law_limit"]) fun _ _ _ _ _ _ us hl => match us, hl with | [_, _], _ => rfl
  have F11 := fun_mk (st := s_rows) l11 c11 k11
  have b11 := F11.binds (ps := ["_law_tokens", "_law_limit"]) fun _ _ _ _ _ _ us hl => match us, hl with | [_, _], _ => rfl
  have F12 := fun_mk (st := s_token) l12 c12 k12
  have b12 := F12.binds (ps := ["_law_source_here", "_law_wide"]) fun _ _ _ _ _ _ us hl => match us, hl with | [_, _], _ => rfl
  have F13 := fun_mk (st := s_some_tokens) l13 c13 k13
  have b13 := F13.binds (ps := ["_law_source_here"]) fun _ _ _ _ _ _ us hl => match us, hl with | [_], _ => rfl
  have F14 := fun_mk (st := s_counts) l14 c14 k14
  have b14 := F14.binds (ps := ["_law_rows_here", "_law_tokens", "_law_limit"]) fun _ _ _ _ _ _ us hl => match us, hl with | [_, _, _], _ => rfl
  have F15 := fun_mk (st := s_sum) l15 c15 k15
  have b15 := F15.binds (ps := ["_law_widths", "_law_limit", "_law_counts_here"]) fun _ _ _ _ _ _ us hl => match us, hl with | [_, _, _], _ => rfl
  have F16 := fun_mk (st := s_all_ways) l16 c16 k16
  have b16 := F16.binds (ps := ["_law_widths", "_law_limit"]) fun _ _ _ _ _ _ us hl => match us, hl with | [_, _], _ => rfl
  have F17 := fun_mk (st := s_least_from) l17 c17 k17
  have b17 := F17.binds (ps := ["_law_widths", "_law_limit"]) fun _ _ _ _ _ _ us hl => match us, hl with | [_, _], _ => rfl
  have F18 := fun_mk (st := s_rows_are_least) l18 c18 k18
  have b18 := F18.binds (ps := ["_law_widths", "_law_limit", "_law_counts_here"]) fun _ _ _ _ _ _ us hl => match us, hl with | [_, _, _], _ => rfl
  have F19 := fun_mk (st := s_right) l19 c19 k19
  have b19 := F19.binds (ps := ["_law_tokens", "_law_limit"]) fun _ _ _ _ _ _ us hl => match us, hl with | [_, _], _ => rfl
  have F20 := fun_mk (st := s_law) l20 c20 k20
  have b20 := F20.binds (ps := ["_law_script"]) fun _ _ _ _ _ _ us hl => match us, hl with | [_], _ => rfl
  let T : Tab K mg := ⟨_, _, F0, b0, PySem.W.mg_of X G a0, _, _, F1, b1, PySem.W.mg_of X G a1, _, _, F2, b2, PySem.W.mg_of X G a2, _, _, F3, b3, PySem.W.mg_of X G a3, _, _, F4, b4, PySem.W.mg_of X G a4, _, _, F5, b5, PySem.W.mg_of X G a5, _, _, F6, b6, PySem.W.mg_of X G a6, _, _, F7, b7, PySem.W.mg_of X G a7, _, _, F8, b8, PySem.W.mg_of X G a8, _, _, F9, b9, PySem.W.mg_of X G a9, _, _, F10, b10, PySem.W.mg_of X G a10, _, _, F11, b11, PySem.W.mg_of X G a11, _, _, F12, b12, PySem.W.mg_of X G a12, _, _, F13, b13, PySem.W.mg_of X G a13, _, _, F14, b14, PySem.W.mg_of X G a14, _, _, F15, b15, PySem.W.mg_of X G a15, _, _, F16, b16, PySem.W.mg_of X G a16, _, _, F17, b17, PySem.W.mg_of X G a17, _, _, F18, b18, PySem.W.mg_of X G a18, _, _, F19, b19, PySem.W.mg_of X G a19, _, _, F20, b20, PySem.W.mg_of X G a20, PySem.W.mg_none_of X G z_abs, PySem.W.mg_none_of X G z_bool, PySem.W.mg_none_of X G z_int, PySem.W.mg_none_of X G z_isinstance, PySem.W.mg_none_of X G z_len, PySem.W.mg_none_of X G z_list, PySem.W.mg_none_of X G z_max, PySem.W.mg_none_of X G z_min, PySem.W.mg_none_of X G z_range, PySem.W.mg_none_of X G z_reversed, PySem.W.mg_none_of X G z_str, PySem.W.mg_none_of X G z_sum, PySem.W.mg_none_of X G z_tuple⟩
  exact ⟨PySem.W.fnOf "law" "law" (defArgs s_law) (defBody s_law) (defScope s_law) .none kV20 dc20 pm20 an20 cd20 ct20, fun s v => .of_eq rfl, fun base _ _ => ok_law T⟩
end K17
open PySem PySem.W PyProof.Rows
set_option maxRecDepth 100000 in
set_option maxHeartbeats 0 in
theorem PySem.Challenge.cw_afterleaves_k17_whole_least_lines_holds : PySem.Challenge.rw_afterleaves_k17_whole_least_lines.Holds := by
  w_on; o_law; k_head; (case hw => w_witness2)
  k_fill
  refine L2.walk_of (l := PySem.Challenge.rw_afterleaves_k17_whole_least_lines) (n := 63) (k := 5) (x := "_law_script") (CX := fun _ => L2.CX0) (sp := fun w => K17.sp_law _) rfl (by decide) rfl ⟨rfl, by decide, by decide⟩ (fun w h Y => PySem.W.kIn_of Y) ?F (fun _ _ a ns hl _ hS => ⟨a, ns, rfl, hS, hl, fun _ => rfl⟩) (fun _ _ _ _ _ h => h)
  case F =>
    intro w mg fa h KX G hmg
    refine' K17.all_mk KX G hmg ?a0 ?l0 ?c0 ?k0 ?a1 ?l1 ?c1 ?k1 ?a2 ?l2 ?c2 ?k2 ?a3 ?l3 ?c3 ?k3 ?a4 ?l4 ?c4 ?k4 ?a5 ?l5 ?c5 ?k5 ?a6 ?l6 ?c6 ?k6 ?a7 ?l7 ?c7 ?k7 ?a8 ?l8 ?c8 ?k8 ?a9 ?l9 ?c9 ?k9 ?a10 ?l10 ?c10 ?k10 ?a11 ?l11 ?c11 ?k11 ?a12 ?l12 ?c12 ?k12 ?a13 ?l13 ?c13 ?k13 ?a14 ?l14 ?c14 ?k14 ?a15 ?l15 ?c15 ?k15 ?a16 ?l16 ?c16 ?k16 ?a17 ?l17 ?c17 ?k17 ?a18 ?l18 ?c18 ?k18 ?a19 ?l19 ?c19 ?k19 ?a20 ?l20 ?c20 ?k20 ?z_abs ?z_bool ?z_int ?z_isinstance ?z_len ?z_list ?z_max ?z_min ?z_range ?z_reversed ?z_str ?z_sum ?z_tuple
    (case a0 => k_is)
    (case l0 => k_is)
    (case c0 => k_is)
    (case k0 => k_is)
    (case a1 => k_is)
    (case l1 => k_is)
    (case c1 => k_is)
    (case k1 => k_is)
    (case a2 => k_is)
    (case l2 => k_is)
    (case c2 => k_is)
    (case k2 => k_is)
    (case a3 => k_is)
    (case l3 => k_is)
    (case c3 => k_is)
    (case k3 => k_is)
    (case a4 => k_is)
    (case l4 => k_is)
    (case c4 => k_is)
    (case k4 => k_is)
    (case a5 => k_is)
    (case l5 => k_is)
    (case c5 => k_is)
    (case k5 => k_is)
    (case a6 => k_is)
    (case l6 => k_is)
    (case c6 => k_is)
    (case k6 => k_is)
    (case a7 => k_is)
    (case l7 => k_is)
    (case c7 => k_is)
    (case k7 => k_is)
    (case a8 => k_is)
    (case l8 => k_is)
    (case c8 => k_is)
    (case k8 => k_is)
    (case a9 => k_is)
    (case l9 => k_is)
    (case c9 => k_is)
    (case k9 => k_is)
    (case a10 => k_is)
    (case l10 => k_is)
    (case c10 => k_is)
    (case k10 => k_is)
    (case a11 => k_is)
    (case l11 => k_is)
    (case c11 => k_is)
    (case k11 => k_is)
    (case a12 => k_is)
    (case l12 => k_is)
    (case c12 => k_is)
    (case k12 => k_is)
    (case a13 => k_is)
    (case l13 => k_is)
    (case c13 => k_is)
    (case k13 => k_is)
    (case a14 => k_is)
    (case l14 => k_is)
    (case c14 => k_is)
    (case k14 => k_is)
    (case a15 => k_is)
    (case l15 => k_is)
    (case c15 => k_is)
    (case k15 => k_is)
    (case a16 => k_is)
    (case l16 => k_is)
    (case c16 => k_is)
    (case k16 => k_is)
    (case a17 => k_is)
    (case l17 => k_is)
    (case c17 => k_is)
    (case k17 => k_is)
    (case a18 => k_is)
    (case l18 => k_is)
    (case c18 => k_is)
    (case k18 => k_is)
    (case a19 => k_is)
    (case l19 => k_is)
    (case c19 => k_is)
    (case k19 => k_is)
    (case a20 => k_is)
    (case l20 => k_is)
    (case c20 => k_is)
    (case k20 => k_is)
    (case z_abs => k_is)
    (case z_bool => k_is)
    (case z_int => k_is)
    (case z_isinstance => k_is)
    (case z_len => k_is)
    (case z_list => k_is)
    (case z_max => k_is)
    (case z_min => k_is)
    (case z_range => k_is)
    (case z_reversed => k_is)
    (case z_str => k_is)
    (case z_sum => k_is)
    (case z_tuple => k_is)

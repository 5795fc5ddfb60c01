import PyProof.Rows.All
import Wide.All
import OpenK.AllK
import Wide.FinOn
import HandS.ForMost
import HandS.Codes
import HandS.IsInst
import HandS.Walk
import HandS.DeepEq
import HandS.TupAny
import HandS.RevRange
import PySem.Challenge.RW_afterleaves_k18_whole_width_changes
set_option Elab.async false
set_option linter.all false
set_option maxRecDepth 100000
set_option maxHeartbeats 4000000
namespace K18
open PySem PySem.Spec PyProof.Rows L2
/-! ### the text -/
def topS (i : Nat) : Stmt := PySem.Challenge.pw_afterleaves_k18_whole_width_changes.main.body.getD i (.Pass ⟨0, 0, 0, 0⟩)
abbrev s_token_width : Stmt := topS 2
abbrev N_token_width : List Str := ["token"]
theorem sc_token_width : FnScope N_token_width ["token"] (defScope s_token_width) := ⟨rfl, rfl, rfl, by decide +kernel, rfl, by decide +kernel, by decide +kernel⟩
abbrev s_set_lines : Stmt := topS 3
abbrev N_set_lines : List Str := ["tokens", "width", "ends", "rows", "first", "token"]
theorem sc_set_lines : FnScope N_set_lines ["tokens", "width"] (defScope s_set_lines) := ⟨rfl, rfl, rfl, by decide +kernel, rfl, by decide +kernel, by decide +kernel⟩
abbrev s_row_ends : Stmt := topS 4
abbrev N_row_ends : List Str := ["widths", "width", "costs", "ends"]
theorem sc_row_ends : FnScope N_row_ends ["widths", "width"] (defScope s_row_ends) := ⟨rfl, rfl, rfl, by decide +kernel, rfl, by decide +kernel, by decide +kernel⟩
abbrev s_fill_ends : Stmt := topS 5
abbrev N_fill_ends : List Str := ["widths", "width", "costs", "ends", "span", "count", "first", "best", "used", "last", "cost"]
theorem sc_fill_ends : FnScope N_fill_ends ["widths", "width", "costs", "ends", "span"] (defScope s_fill_ends) := ⟨rfl, rfl, rfl, by decide +kernel, rfl, by decide +kernel, by decide +kernel⟩
abbrev s_width_changes : Stmt := topS 6
abbrev N_width_changes : List Str := ["tokens", "most", "least", "changes", "rows", "width", "wider", "token"]
theorem sc_width_changes : FnScope N_width_changes ["tokens", "most"] (defScope s_width_changes) := ⟨rfl, rfl, rfl, by decide +kernel, rfl, by decide +kernel, by decide +kernel⟩
abbrev s_source : Stmt := topS 8
abbrev N_source : List Str := ["_law_script", "_law_k", "_law_cell", "_law_number", "_law_great"]
theorem sc_source : FnScope N_source ["_law_script", "_law_k"] (defScope s_source) := ⟨rfl, rfl, rfl, by decide +kernel, rfl, by decide +kernel, by decide +kernel⟩
abbrev s_pick : Stmt := topS 9
abbrev N_pick : List Str := ["_law_source_here", "_law_many", "_law_taken"]
theorem sc_pick : FnScope N_pick ["_law_source_here", "_law_many"] (defScope s_pick) := ⟨rfl, rfl, rfl, by decide +kernel, rfl, by decide +kernel, by decide +kernel⟩
abbrev s_is_integer : Stmt := topS 10
abbrev N_is_integer : List Str := ["_law_actual"]
theorem sc_is_integer : FnScope N_is_integer ["_law_actual"] (defScope s_is_integer) := ⟨rfl, rfl, rfl, by decide +kernel, rfl, by decide +kernel, by decide +kernel⟩
abbrev s_width : Stmt := topS 11
abbrev N_width : List Str := ["_law_token_here"]
theorem sc_width : FnScope N_width ["_law_token_here"] (defScope s_width) := ⟨rfl, rfl, rfl, by decide +kernel, rfl, by decide +kernel, by decide +kernel⟩
abbrev s_cut : Stmt := topS 12
abbrev N_cut : List Str := ["_law_widths", "_law_limit", "_law_many", "_law_best", "_law_take", "_law_back", "_law_at", "_law_room", "_law_lowest", "_law_end", "_law_cost", "_law_counts", "_law_step"]
theorem sc_cut : FnScope N_cut ["_law_widths", "_law_limit"] (defScope s_cut) := ⟨rfl, rfl, rfl, by decide +kernel, rfl, by decide +kernel, by decide +kernel⟩
abbrev s_rows : Stmt := topS 13
abbrev N_rows : List Str := ["_law_tokens", "_law_limit", "_law_rows_here", "_law_at", "_law_count", "_law_token_here"]
theorem sc_rows : FnScope N_rows ["_law_tokens", "_law_limit"] (defScope s_rows) := ⟨rfl, rfl, rfl, by decide +kernel, rfl, by decide +kernel, by decide +kernel⟩
abbrev s_token : Stmt := topS 14
abbrev N_token : List Str := ["_law_source_here", "_law_wide"]
theorem sc_token : FnScope N_token ["_law_source_here", "_law_wide"] (defScope s_token) := ⟨rfl, rfl, rfl, by decide +kernel, rfl, by decide +kernel, by decide +kernel⟩
abbrev s_some_tokens : Stmt := topS 15
abbrev N_some_tokens : List Str := ["_law_source_here", "_law_size", "_law_way", "_law_one", "_law_tokens", "_law_step", "_law_wide"]
theorem sc_some_tokens : FnScope N_some_tokens ["_law_source_here"] (defScope s_some_tokens) := ⟨rfl, rfl, rfl, by decide +kernel, rfl, by decide +kernel, by decide +kernel⟩
abbrev s_right : Stmt := topS 16
abbrev N_right : List Str := ["_law_tokens", "_law_most", "_law_least", "_law_told", "_law_wide", "_law_due", "_law_kept", "_law_shown", "_law_rows_here", "_law_actual", "_law_token_here"]
theorem sc_right : FnScope N_right ["_law_tokens", "_law_most"] (defScope s_right) := ⟨rfl, rfl, rfl, by decide +kernel, rfl, by decide +kernel, by decide +kernel⟩
abbrev s_law : Stmt := topS 17
abbrev N_law : List Str := ["_law_script", "_law_seen", "_law_k", "_law_source_here", "_law_tokens", "_law_least", "_law_most", "_law_way", "_law_one", "_law_listed", "_law_told", "_law_token_here"]
theorem sc_law : FnScope N_law ["_law_script"] (defScope s_law) := ⟨rfl, rfl, rfl, by decide +kernel, rfl, by decide +kernel, by decide +kernel⟩
structure Tab (K : PySem.W.Frag) (mg : Str → Option Value) where
  f_token_width : Addr
  d_token_width : FuncData
  F_token_width : Fun K "token_width" "token_width" s_token_width f_token_width d_token_width
  b_token_width : Binds K d_token_width ["token"] []
  g_token_width : mg "token_width" = some (.ref f_token_width)
  f_set_lines : Addr
  d_set_lines : FuncData
  F_set_lines : Fun K "set_lines" "set_lines" s_set_lines f_set_lines d_set_lines
  b_set_lines : Binds K d_set_lines ["tokens", "width"] []
  g_set_lines : mg "set_lines" = some (.ref f_set_lines)
  f_row_ends : Addr
  d_row_ends : FuncData
  F_row_ends : Fun K "row_ends" "row_ends" s_row_ends f_row_ends d_row_ends
  b_row_ends : Binds K d_row_ends ["widths", "width"] []
  g_row_ends : mg "row_ends" = some (.ref f_row_ends)
  f_fill_ends : Addr
  d_fill_ends : FuncData
  F_fill_ends : Fun K "fill_ends" "fill_ends" s_fill_ends f_fill_ends d_fill_ends
  b_fill_ends : Binds K d_fill_ends ["widths", "width", "costs", "ends", "span"] []
  g_fill_ends : mg "fill_ends" = some (.ref f_fill_ends)
  f_width_changes : Addr
  d_width_changes : FuncData
  F_width_changes : Fun K "width_changes" "width_changes" s_width_changes f_width_changes d_width_changes
  b_width_changes : Binds K d_width_changes ["tokens", "most"] []
  g_width_changes : mg "width_changes" = some (.ref f_width_changes)
  f_source : Addr
  d_source : FuncData
  F_source : Fun K "_law_source" "_law_source" s_source f_source d_source
  b_source : Binds K d_source ["_law_script", "_law_k"] []
  g_source : mg "_law_source" = some (.ref f_source)
  f_pick : Addr
  d_pick : FuncData
  F_pick : Fun K "_law_pick" "_law_pick" s_pick f_pick d_pick
  b_pick : Binds K d_pick ["_law_source_here", "_law_many"] []
  g_pick : mg "_law_pick" = some (.ref f_pick)
  f_is_integer : Addr
  d_is_integer : FuncData
  F_is_integer : Fun K "_law_is_integer" "_law_is_integer" s_is_integer f_is_integer d_is_integer
  b_is_integer : Binds K d_is_integer ["_law_actual"] []
  g_is_integer : mg "_law_is_integer" = some (.ref f_is_integer)
  f_width : Addr
  d_width : FuncData
  F_width : Fun K "_law_width" "_law_width" s_width f_width d_width
  b_width : Binds K d_width ["_law_token_here"] []
  g_width : mg "_law_width" = some (.ref f_width)
  f_cut : Addr
  d_cut : FuncData
  F_cut : Fun K "_law_cut" "_law_cut" s_cut f_cut d_cut
  b_cut : Binds K d_cut ["_law_widths", "_law_limit"] []
  g_cut : mg "_law_cut" = some (.ref f_cut)
  f_rows : Addr
  d_rows : FuncData
  F_rows : Fun K "_law_rows" "_law_rows" s_rows f_rows d_rows
  b_rows : Binds K d_rows ["_law_tokens", "_law_limit"] []
  g_rows : mg "_law_rows" = some (.ref f_rows)
  f_token : Addr
  d_token : FuncData
  F_token : Fun K "_law_token" "_law_token" s_token f_token d_token
  b_token : Binds K d_token ["_law_source_here", "_law_wide"] []
  g_token : mg "_law_token" = some (.ref f_token)
  f_some_tokens : Addr
  d_some_tokens : FuncData
  F_some_tokens : Fun K "_law_some_tokens" "_law_some_tokens" s_some_tokens f_some_tokens d_some_tokens
  b_some_tokens : Binds K d_some_tokens ["_law_source_here"] []
  g_some_tokens : mg "_law_some_tokens" = some (.ref f_some_tokens)
  f_right : Addr
  d_right : FuncData
  F_right : Fun K "_law_right" "_law_right" s_right f_right d_right
  b_right : Binds K d_right ["_law_tokens", "_law_most"] []
  g_right : mg "_law_right" = some (.ref f_right)
  f_law : Addr
  d_law : FuncData
  F_law : Fun K "law" "law" s_law f_law d_law
  b_law : Binds K d_law ["_law_script"] []
  g_law : mg "law" = some (.ref f_law)
  t_LEAST_WIDTH : Tok
  c_LEAST_WIDTH : mg "LEAST_WIDTH" = some (.int 20 t_LEAST_WIDTH)
  m_abs : mg "abs" = none
  m_bool : mg "bool" = none
  m_int : mg "int" = none
  m_isinstance : mg "isinstance" = none
  m_len : mg "len" = none
  m_list : mg "list" = none
  m_max : mg "max" = none
  m_range : mg "range" = none
  m_reversed : mg "reversed" = none
  m_sum : mg "sum" = none
  m_tuple : mg "tuple" = none
/-! ### heaps and sources -/
theorem un2 {k : Nat} {A : Around} (r : Room k A) : A.units + 65 < cLine := by have := r.un; omega
theorem same_upd {H : Hp} {p : Addr} {o : HO} (h : H p = none) : Same H (upd H p o) := fun b x e => by
  rw [upd_ne (ne_of_none e h)]
  exact e
/-- all but a stand as they stood -/
def But (a : Addr) (H H' : Hp) : Prop := ∀ b o, b ≠ a → H b = some o → H' b = some o
theorem But.refl (a : Addr) (H : Hp) : But a H H := fun _ _ _ e => e
theorem But.trans {a : Addr} {H H1 H2 : Hp} (x : But a H H1) (y : But a H1 H2) : But a H H2 := fun b o n e => y b o n (x b o n e)
theorem But.of {a : Addr} {H H1 : Hp} (x : Same H H1) : But a H H1 := fun b o _ e => x b o e
theorem But.upd {a : Addr} {H : Hp} (o : HO) : But a H (upd H a o) := fun b u n e => by
  rw [upd_ne n]
  exact e
/-- what changes is not there at first -/
theorem But.same {a : Addr} {H0 H H' : Hp} (n : H0 a = none) (s : Same H0 H) (x : But a H H') : Same H0 H' := fun b o e => x b o (ne_of_none e n) (s b o e)
/-- a source of numbers: three ints -/
def Src (H : Hp) (a : Addr) : Prop := ∃ g x c : Int, H a = some (.lst [.int g, .int x, .int c])
theorem cut_map (ns : List Int) (lo hi : Option Int) : ∃ ms : List Int, cutV (ns.map V.int) lo hi = ms.map V.int := by
  unfold cutV
  exact ⟨_, by rw [← List.map_drop, ← List.map_take]⟩
theorem at_of' {α : Type} {xs : List α} {z : Int} {j : Nat} {v : α} (e : z = (j : Int)) (h : xs[j]? = some v) : atI xs z = some v := by
  subst e
  exact atI_nat h
theorem str_len_snoc (z : Str) (c : Nat) : (z ++ (⟨#[c]⟩ : Str)).length = z.length + 1 := by
  show (z.cps ++ #[c]).size = z.cps.size + 1
  rw [Array.size_append]
  rfl
theorem But.none {a D : Addr} {H H3 : Hp} (x : But a H H3) (n : H3 D = .none) (h : D ≠ a) : H D = .none := by
  cases e : H D with
  | none => rfl
  | some o =>
    rw [x D o h e] at n
    cases n
theorem But.put {a D : Addr} {H H' : Hp} (x : But a H H') (n : H D = .none) (o : HO) : But a H (L2.upd H' D o) := fun b u nb e => by
  rw [upd_ne (ne_of_none e n)]
  exact x b u nb e
theorem Src.put {a D : Addr} {H : Hp} (x : Src H a) (n : a ≠ D) (o : HO) : Src (upd H D o) a := by
  obtain ⟨g, y, c, e⟩ := x
  exact ⟨g, y, c, by rw [upd_ne n]; exact e⟩
theorem Src.ne {a D : Addr} {H : Hp} (x : Src H a) (n : H D = .none) : a ≠ D := by
  obtain ⟨g, y, c, e⟩ := x
  exact ne_of_none e n
theorem get_map {xs : List Str} {i : Nat} {x : V} (h : (xs.map V.str)[i]? = some x) : ∃ z, x = .str z ∧ xs[i]? = some z := by
  rw [List.getElem?_map] at h
  cases e : xs[i]? with
  | none => rw [e] at h; cases h
  | some z => rw [e] at h; exact ⟨z, (Option.some.inj h).symm, rfl⟩
theorem get_mapR {xs : List Addr} {i : Nat} {x : V} (h : (xs.map V.ref)[i]? = some x) : ∃ z, x = .ref z ∧ z ∈ xs := by
  rw [List.getElem?_map] at h
  cases e : xs[i]? with
  | none => rw [e] at h; cases h
  | some z => rw [e] at h; exact ⟨z, (Option.some.inj h).symm, List.mem_of_getElem? e⟩
section
variable {X : Cx} {tg e : Expr} {w1 w2 : TI}
theorem pi_or (a : PI X tg e w1) (b : PI X tg e w2) : PI X tg e (fun σ H R => w1 σ H R ∨ w2 σ H R) :=
  ⟨fun pins s σ H R I h => h.elim (fun h => a.run pins s σ H R I h) (fun h => b.run pins s σ H R I h)⟩
theorem op_rep_str : OpR X (binaryOp .Mult) (fun x y H Q => ∃ z n, x = .str z ∧ y = .int n ∧ PySem.MulOk z n ∧ Q (.str (Txt.mul z n)) H) := by
  intro pins s σ H x y v u Q I rx ry h
  obtain ⟨z, n, rfl, rfl, hm, q⟩ := h
  obtain ⟨t, rfl⟩ := rx
  obtain ⟨t', rfl⟩ := ry
  exact PySem.SB.mul hm (fun t' tk => ⟨.str _, H, I.tok _, ⟨_, rfl⟩, q⟩)
end
theorem eq_strs {K : PySem.W.Frag} {H : Hp} : ∀ zs : List Str, Paired (EqV K H 1) (zs.map V.str) (zs.map V.str)
  | [] => .nil
  | z :: r => .cons (.inl ⟨rfl, rfl⟩) (eq_strs r)
theorem same_seqT {K : PySem.W.Frag} {H H' : Hp} {a : Addr} {xs : List V} (e : Same H H') (h : SqT K H a xs) : SqT K H' a xs :=
  h.elim (fun r => .inl (r.elim (fun e1 => .inl (e _ _ e1)) (fun ⟨o, e1⟩ => .inr ⟨o, e _ _ e1⟩))) .inr
theorem same_sq {K : PySem.W.Frag} {H H' : Hp} {a : Addr} {xs : List V} (e : Same H H') (h : SqL K H a xs ∨ SqT K H a xs) : SqL K H' a xs ∨ SqT K H' a xs :=
  h.elim (fun h => .inl (e.seq h)) (fun h => .inr (same_seqT e h))
theorem same_put {H H' : Hp} {b : Addr} (x : Same H H') (n : H b = .none) (o : HO) : Same H (upd H' b o) := fun c u e => by
  rw [upd_ne (ne_of_none e n)]
  exact x c u e
/-! ### the mathematics -/
def widL (l : List Nat) : Int := (l.length : Int) + cnt 109 l + cnt 119 l
def wid (z : Str) : Int := widL z.cps.toList
theorem wid_of (z : Str) : (z.length : Int) + Txt.count z "m" + Txt.count z "w" = wid z := by
  rw [show ("m" : Str) = ⟨#[109]⟩ from rfl, show ("w" : Str) = ⟨#[119]⟩ from rfl, count_cnt, count_cnt]
  rfl
theorem widL_snoc (l : List Nat) (c : Nat) : widL (l ++ [c]) = widL l + 1 + (if c = 109 ∨ c = 119 then 1 else 0) := by
  unfold widL
  rw [cnt_append, cnt_append, List.length_append, cnt_cons, cnt_cons, cnt_nil, cnt_nil]
  simp only [List.length_cons, List.length_nil]
  by_cases h1 : c = 109
  · subst h1; simp; omega
  · by_cases h2 : c = 119
    · subst h2; simp; omega
    · simp [h1, h2]; omega
def sumW : List Str → Int
  | [] => 0
  | z :: r => wid z + sumW r
theorem sumW_snoc (zs : List Str) (z : Str) : sumW (zs ++ [z]) = sumW zs + wid z := by
  induction zs with
  | nil => show wid z + 0 = 0 + wid z; omega
  | cons y r ih => show wid y + sumW (r ++ [z]) = wid y + sumW r + wid z; rw [ih]; omega
theorem widL_app (a b : List Nat) : widL (a ++ b) = widL a + widL b := by
  unfold widL
  rw [cnt_append, cnt_append, List.length_append]
  omega
theorem wid_app (a b : Str) : wid (a ++ b) = wid a + wid b := by
  unfold wid
  rw [show (a ++ b).cps.toList = a.cps.toList ++ b.cps.toList from cps_toList_append a b, widL_app]
theorem join_cc (sep x y : Str) (r : List Str) : Txt.join sep (x :: y :: r) = x ++ sep ++ Txt.join sep (y :: r) := by
  unfold Txt.join
  rw [StrLaws.glued_eq_join, StrLaws.glued_eq_join]
  rfl
theorem wid_join : ∀ zs : List Str, zs ≠ [] → wid (Txt.join " " zs) = sumW zs + (zs.length : Int) - 1
  | [], h => absurd rfl h
  | [x], _ => by
    show wid x = wid x + 0 + 1 - 1
    omega
  | x :: y :: r, _ => by
    have ih := wid_join (y :: r) (List.cons_ne_nil _ _)
    have e : Txt.join " " (x :: y :: r) = x ++ " " ++ Txt.join " " (y :: r) := join_cc " " x y r
    rw [e, wid_app, wid_app, ih]
    have e1 : wid " " = 1 := by decide +kernel
    rw [e1]
    show wid x + 1 + (sumW (y :: r) + ((y :: r).length : Int) - 1) = wid x + sumW (y :: r) + ((r.length + 1 + 1 : Nat) : Int) - 1
    simp only [List.length_cons]
    omega
theorem join_len : ∀ zs : List Str, (∀ z ∈ zs, z.length ≤ 20) → (Txt.join " " zs).length ≤ 21 * zs.length
  | [], _ => by decide +kernel
  | [x], h => by
    have := h x (List.mem_singleton.mpr rfl)
    show x.length ≤ 21 * 1
    omega
  | x :: y :: r, h => by
    have ih := join_len (y :: r) (fun z hz => h z (List.mem_cons_of_mem _ hz))
    have hx := h x (List.mem_cons_self ..)
    have e : Txt.join " " (x :: y :: r) = x ++ " " ++ Txt.join " " (y :: r) := join_cc " " x y r
    have l : ∀ a b : Str, (a ++ b).length = a.length + b.length := fun a b => by
      show (a.cps ++ b.cps).size = _
      rw [Array.size_append]; rfl
    rw [e, l, l]
    have e1 : (" " : Str).length = 1 := by decide +kernel
    rw [e1]
    simp only [List.length_cons] at ih ⊢
    omega
theorem sum_le (zs : List Str) (h : ∀ z ∈ zs, z.length ≤ 20) : (zs.map (·.length)).sum ≤ 20 * zs.length := by
  induction zs with
  | nil => exact Nat.le_refl _
  | cons z r ih =>
    have h1 := h z (List.mem_cons_self ..)
    have h2 := ih fun y hy => h y (List.mem_cons_of_mem _ hy)
    simp only [List.map_cons, List.sum_cons, List.length_cons]
    omega
theorem cnt_ge (c : Nat) : ∀ l : List Nat, 0 ≤ cnt c l ∧ cnt c l ≤ l.length
  | [] => ⟨Int.le_refl _, Int.le_refl _⟩
  | n :: r => by
    have ih := cnt_ge c r
    rw [cnt_cons, List.length_cons]
    split <;> omega
theorem wid_ge (z : Str) : (z.length : Int) ≤ wid z ∧ wid z ≤ 3 * z.length := by
  have h1 := cnt_ge 109 z.cps.toList
  have h2 := cnt_ge 119 z.cps.toList
  have e : wid z = (z.cps.toList.length : Int) + cnt 109 z.cps.toList + cnt 119 z.cps.toList := rfl
  have l : z.cps.toList.length = z.length := rfl
  omega
theorem sq2 (i : Int) : i ^ (2 : Int).toNat = i * i := by
  show i ^ 2 = i * i
  rw [Int.pow_succ, Int.pow_succ, Int.pow_zero, Int.one_mul]
theorem sIx_m1 (n : Nat) : HT.sIx n n (some (-1)) = n - 1 := by
  show ((-1 : Int) + (n : Int)).toNat = n - 1
  omega
theorem cut_last (xs : List V) : cutV xs none (some (-1)) = xs.dropLast := by
  unfold cutV
  rw [sIx_m1, HT.sIx_none, List.drop_zero, Nat.sub_zero, List.dropLast_eq_take]
theorem cut_one (ys : List V) (y : V) : cutV (ys ++ [y]) (some (-1)) none = [y] := by
  unfold cutV
  rw [show HT.sIx (ys ++ [y]).length 0 (some (-1)) = ys.length by
    show ((-1 : Int) + ((ys ++ [y]).length : Int)).toNat = ys.length
    rw [List.length_append, List.length_singleton]
    omega, HT.sIx_none, List.drop_left' rfl, List.length_append, List.length_singleton]
  rw [show ys.length + 1 - ys.length = 1 by omega]
  rfl
theorem mul_ok {z : Str} {n : Int} (hz : z.length ≤ 100) (h0 : -1000 ≤ n) (hn : n ≤ 1000) : PySem.MulOk z n := by
  have e : (2 : Int) ^ 63 = 9223372036854775808 := by decide
  refine ⟨?_, fun h1 _ h => ?_, fun h1 _ => ?_⟩
  · rw [decide_eq_false (by omega), decide_eq_false (by omega)]
    rfl
  · have : (100 : Int) ≤ (2 ^ 63 - 1) / n := Int.le_ediv_of_mul_le (by omega) (by omega)
    omega
  · have h2 : z.length * n.toNat ≤ 100 * 1000 := Nat.mul_le_mul hz (by omega)
    have e2 : sizeLine = 16777216 := by decide
    exact decide_eq_false (by omega)
theorem cut_take (xs : List V) (k : Nat) : cutV xs none (some (k : Int)) = xs.take k := by
  unfold cutV
  rw [HT.sIx_nat, HT.sIx_none, List.drop_zero, Nat.sub_zero, ← List.take_eq_take_min]
theorem len_app (x y : Str) : (x ++ y).length = x.length + y.length := by
  show (x.cps ++ y.cps).size = _
  rw [Array.size_append]; rfl
/-! ### cutting at the least cost: what the table holds -/
def better (b : Option (Int × Nat)) (c : Int) (k : Nat) : Option (Int × Nat) :=
  match b with
  | none => some (c, k)
  | some (d, j) => if c ≤ d then some (c, k) else some (d, j)
/-- u: what is used so far, k: tokens so far; the rest, the table behind its first one -/
def scan (W : Int) : Int → Nat → List Int → List (Int × Nat) → Option (Int × Nat) → Option (Int × Nat)
  | _, _, [], _, b => b
  | u, k, x :: r, t, b =>
    if W < u + 1 + x then b
    else scan W (u + 1 + x) (k + 1) r t.tail (better b (if r = [] then 0 else (W - (u + 1 + x)) * (W - (u + 1 + x)) + (t.headD (0, 0)).1) (k + 1))
theorem scan_cons (W u : Int) (k : Nat) (x : Int) (r : List Int) (t : List (Int × Nat)) (b : Option (Int × Nat)) : scan W u k (x :: r) t b =
    if W < u + 1 + x then b
    else scan W (u + 1 + x) (k + 1) r t.tail (better b (if r = [] then 0 else (W - (u + 1 + x)) * (W - (u + 1 + x)) + (t.headD (0, 0)).1) (k + 1)) := rfl
def dp (W : Int) : List Int → List (Int × Nat)
  | [] => []
  | x :: r => ((scan W (-1) 0 (x :: r) (dp W r) none).getD (0, 1)) :: dp W r
theorem dp_length (W : Int) : ∀ ws : List Int, (dp W ws).length = ws.length
  | [] => rfl
  | x :: r => by
    show (dp W r).length + 1 = r.length + 1
    rw [dp_length W r]
theorem dp_drop (W : Int) : ∀ (ws : List Int) (i : Nat), (dp W ws).drop i = dp W (ws.drop i)
  | ws, 0 => rfl
  | [], i + 1 => rfl
  | x :: r, i + 1 => dp_drop W r i
theorem better_some (b : Option (Int × Nat)) (c : Int) (k : Nat) : ∃ p, better b c k = some p := by
  unfold better
  split
  · exact ⟨_, rfl⟩
  · split <;> exact ⟨_, rfl⟩
theorem scan_some (W : Int) : ∀ (u : Int) (k : Nat) (l : List Int) (t : List (Int × Nat)) (p : Int × Nat), ∃ q, scan W u k l t (some p) = some q
  | _, _, [], _, p => ⟨p, rfl⟩
  | u, k, x :: r, t, p => by
    unfold scan
    split
    · exact ⟨p, rfl⟩
    · obtain ⟨q, e⟩ := better_some (some p) (if r = [] then 0 else (W - (u + 1 + x)) * (W - (u + 1 + x)) + (t.headD (0, 0)).1) (k + 1)
      rw [e]
      exact scan_some W _ _ r _ q
theorem scan_first (W : Int) (x : Int) (r : List Int) (t : List (Int × Nat)) (h : x ≤ W) : ∃ q, scan W (-1) 0 (x :: r) t none = some q := by
  unfold scan
  rw [if_neg (by omega)]
  exact scan_some W _ _ r _ _
theorem scan_take (W : Int) : ∀ (l : List Int) (u : Int) (k : Nat) (t : List (Int × Nat)) (b : Option (Int × Nat)) (c : Int) (m : Nat), scan W u k l t b = some (c, m) → (∃ d, b = some (d, m)) ∨ (k < m ∧ m ≤ k + l.length)
  | [], u, k, t, b, c, m, h => .inl ⟨c, h⟩
  | x :: r, u, k, t, b, c, m, h => by
    unfold scan at h
    generalize (if r = [] then (0 : Int) else (W - (u + 1 + x)) * (W - (u + 1 + x)) + (t.headD (0, 0)).1) = cc at h
    split at h
    · exact .inl ⟨c, h⟩
    · rcases scan_take W r _ _ _ _ c m h with ⟨d, e⟩ | ⟨h1, h2⟩
      · unfold better at e
        split at e
        · injection e with e
          injection e with _ e
          rw [List.length_cons]
          exact .inr ⟨by omega, by omega⟩
        · split at e
          · injection e with e
            injection e with _ e
            rw [List.length_cons]
            exact .inr ⟨by omega, by omega⟩
          · injection e with e
            exact .inl ⟨_, by rw [e]⟩
      · rw [List.length_cons]
        exact .inr ⟨by omega, by omega⟩
/-- takes are within their bounds -/
theorem dp_take (W : Int) (ws : List Int) (h : ∀ x ∈ ws, x ≤ W) (i : Nat) (p : Int × Nat) (e : (dp W ws)[i]? = some p) : 1 ≤ p.2 ∧ i + p.2 ≤ ws.length := by
  have hi : i < ws.length := by
    have := (List.getElem?_eq_some_iff.mp e).1
    rwa [dp_length] at this
  have e2 : ((dp W ws).drop i)[0]? = some p := by rw [List.getElem?_drop]; simpa using e
  rw [dp_drop] at e2
  cases hd : ws.drop i with
  | nil =>
    have := congrArg List.length hd
    rw [List.length_drop, List.length_nil] at this
    omega
  | cons x r =>
    have hl : ws.length - i = r.length + 1 := by
      have := congrArg List.length hd
      rwa [List.length_drop, List.length_cons] at this
    have hx : x ≤ W := h x (List.mem_of_mem_drop (by rw [hd]; exact List.mem_cons_self ..))
    rw [hd] at e2
    have e3 : (scan W (-1) 0 (x :: r) (dp W r) none).getD (0, 1) = p := Option.some.inj e2
    obtain ⟨⟨c, m⟩, eq⟩ := scan_first W x r (dp W r) hx
    rw [eq] at e3
    have e4 : (c, m) = p := e3
    subst e4
    rcases scan_take W (x :: r) _ _ _ _ c m eq with ⟨d, z⟩ | ⟨h1, h2⟩
    · cases z
    · rw [List.length_cons] at h2
      exact ⟨by omega, by omega⟩
theorem dp_at (W : Int) (ws : List Int) (i : Nat) (hi : i < ws.length) (hx : ws[i] ≤ W) : ∃ p, (dp W ws)[i]? = some p ∧ scan W (-1) 0 (ws.drop i) ((dp W ws).drop (i + 1)) none = some p := by
  have hd : ws.drop i = ws[i] :: ws.drop (i + 1) := List.drop_eq_getElem_cons hi
  obtain ⟨q, eq⟩ := scan_first W ws[i] (ws.drop (i + 1)) ((dp W ws).drop (i + 1)) hx
  rw [hd]
  refine ⟨q, ?_, eq⟩
  have e2 : ((dp W ws).drop i)[0]? = (dp W ws)[i]? := by rw [List.getElem?_drop]; rfl
  rw [← e2, dp_drop, hd]
  show some ((scan W (-1) 0 (ws[i] :: ws.drop (i + 1)) (dp W (ws.drop (i + 1))) none).getD (0, 1)) = some q
  rw [← dp_drop, eq]
  rfl
/-! ### the rows -/
def rows : List Str → List Nat → Nat → List Str
  | z :: zs, k :: ks, 0 => Txt.join " " ((z :: zs).take k) :: rows zs ks (k - 1)
  | _ :: zs, _ :: ks, s + 1 => rows zs ks s
  | _, _, _ => []
def cnts : List Nat → Nat → List Nat
  | k :: ks, 0 => k :: cnts ks (k - 1)
  | _ :: ks, s + 1 => cnts ks s
  | [], _ => []
theorem rows_skip : ∀ (zs : List Str) (ks : List Nat) (s : Nat), rows zs ks s = rows (zs.drop s) (ks.drop s) 0
  | zs, ks, 0 => rfl
  | [], ks, s + 1 => by
    rw [List.drop_nil]
    cases ks <;> cases (List.drop (s + 1) _) <;> rfl
  | z :: zs, [], s + 1 => by
    rw [List.drop_nil]
    show [] = rows (zs.drop s) [] 0
    cases zs.drop s <;> rfl
  | z :: zs, k :: ks, s + 1 => rows_skip zs ks s
theorem cnts_skip : ∀ (ks : List Nat) (s : Nat), cnts ks s = cnts (ks.drop s) 0
  | ks, 0 => rfl
  | [], s + 1 => rfl
  | k :: ks, s + 1 => cnts_skip ks s
theorem rows_step (zs : List Str) (ks : List Nat) (i k : Nat) (hz : i < zs.length) (hk : ks[i]? = some k) (h1 : 1 ≤ k) :
    rows (zs.drop i) (ks.drop i) 0 = Txt.join " " ((zs.drop i).take k) :: rows (zs.drop (i + k)) (ks.drop (i + k)) 0 := by
  have hi : i < ks.length := (List.getElem?_eq_some_iff.mp hk).1
  have ek : ks[i] = k := (List.getElem?_eq_some_iff.mp hk).2
  rw [List.drop_eq_getElem_cons hz, List.drop_eq_getElem_cons hi, ek]
  show Txt.join " " ((zs[i] :: zs.drop (i + 1)).take k) :: rows (zs.drop (i + 1)) (ks.drop (i + 1)) (k - 1) = _
  rw [rows_skip, List.drop_drop, List.drop_drop]
  rw [show i + 1 + (k - 1) = i + k by omega]
theorem cnts_step (ks : List Nat) (i k : Nat) (hk : ks[i]? = some k) (h1 : 1 ≤ k) : cnts (ks.drop i) 0 = k :: cnts (ks.drop (i + k)) 0 := by
  have hi : i < ks.length := (List.getElem?_eq_some_iff.mp hk).1
  have ek : ks[i] = k := (List.getElem?_eq_some_iff.mp hk).2
  rw [List.drop_eq_getElem_cons hi, ek]
  show k :: cnts (ks.drop (i + 1)) (k - 1) = _
  rw [cnts_skip, List.drop_drop]
  rw [show i + 1 + (k - 1) = i + k by omega]
theorem rows_end (ks : List Nat) : rows [] ks 0 = [] := by cases ks <;> rfl
def wids (zs : List Str) : List Int := zs.map wid
def takes (W : Int) (zs : List Str) : List Nat := (dp W (wids zs)).map (·.2)
/-- the rows in which tokens are set -/
def setL (W : Int) (zs : List Str) : List Str := rows zs (takes W zs) 0
theorem takes_len (W : Int) (zs : List Str) : (takes W zs).length = zs.length := by
  unfold takes wids
  rw [List.length_map, dp_length, List.length_map]
theorem takes_at (W : Int) (zs : List Str) (h : ∀ z ∈ zs, wid z ≤ W) (i : Nat) (hi : i < zs.length) : ∃ q : Int × Nat, (dp W (wids zs))[i]? = some q ∧ (takes W zs)[i]? = some q.2 ∧ 1 ≤ q.2 ∧ i + q.2 ≤ zs.length := by
  have hl : i < (dp W (wids zs)).length := by
    rw [dp_length]; unfold wids; rw [List.length_map]; exact hi
  have hw : ∀ x ∈ wids zs, x ≤ W := fun x hx => by
    obtain ⟨z, hz, rfl⟩ := List.mem_map.mp hx
    exact h z hz
  have hb := dp_take W (wids zs) hw i _ (List.getElem?_eq_getElem hl)
  refine ⟨(dp W (wids zs))[i], List.getElem?_eq_getElem hl, ?_, hb.1, ?_⟩
  · unfold takes
    rw [List.getElem?_map, List.getElem?_eq_getElem hl]
    rfl
  · have := hb.2
    unfold wids at this
    rwa [List.length_map] at this
theorem scan_next (W u : Int) (f j : Nat) (ws : List Int) (b : Option (Int × Nat)) (x : Int) (hx : ws[f + j]? = some x) (hn : ¬ W < u + 1 + x) :
    scan W u j (ws.drop (f + j)) ((dp W ws).drop (f + j + 1)) b = scan W (u + 1 + x) (j + 1) (ws.drop (f + (j + 1))) ((dp W ws).drop (f + (j + 1) + 1)) (better b (if f + j + 1 = ws.length then 0 else (W - (u + 1 + x)) * (W - (u + 1 + x)) + (((dp W ws)[f + j + 1]?).getD (0, 0)).1) (j + 1)) := by
  have hi : f + j < ws.length := (List.getElem?_eq_some_iff.mp hx).1
  have ex : ws[f + j] = x := (List.getElem?_eq_some_iff.mp hx).2
  rw [List.drop_eq_getElem_cons hi, ex, scan_cons]
  rw [if_neg hn, List.tail_drop, List.headD_eq_head?_getD, List.head?_drop]
  have e : (ws.drop (f + j + 1) = []) = (f + j + 1 = ws.length) := by
    apply propext
    rw [List.drop_eq_nil_iff]
    exact ⟨fun h => by omega, fun h => by omega⟩
  simp only [e]
  rfl
theorem scan_stop (W u : Int) (f j : Nat) (ws : List Int) (b : Option (Int × Nat)) (x : Int) (hx : ws[f + j]? = some x) (hn : W < u + 1 + x) :
    scan W u j (ws.drop (f + j)) ((dp W ws).drop (f + j + 1)) b = b := by
  have hi : f + j < ws.length := (List.getElem?_eq_some_iff.mp hx).1
  have ex : ws[f + j] = x := (List.getElem?_eq_some_iff.mp hx).2
  rw [List.drop_eq_getElem_cons hi, ex]
  unfold scan
  rw [if_pos hn]
theorem scan_out (W u : Int) (f j : Nat) (ws : List Int) (t : List (Int × Nat)) (b : Option (Int × Nat)) (h : f + j = ws.length) : scan W u j (ws.drop (f + j)) t b = b := by
  rw [h, List.drop_length]
  unfold scan
  rfl
def optV : Option (Int × Nat) → V
  | none => .non
  | some p => .int p.1
theorem flat_rep (n : Nat) (v : V) : (List.replicate n [v]).flatten = List.replicate n v := by
  induction n with
  | zero => rfl
  | succ n ih => rw [List.replicate_succ, List.flatten_cons, ih]; rfl
theorem rep_int (n : Nat) (v : Int) : List.replicate n (V.int v) = (List.replicate n v).map V.int := by rw [List.map_replicate]
theorem get_ints {xs : List Int} {i : Nat} {x : Int} (h : xs[i]? = some x) : (xs.map V.int)[i]? = some (.int x) := by
  rw [List.getElem?_map, h]
  rfl
theorem set_ints (xs : List Int) (i : Nat) (x : Int) : (xs.map V.int).set i (.int x) = (xs.set i x).map V.int := by rw [List.map_set]
theorem ixN_nat {n j : Nat} (h : j < n) : ixN n (j : Int) = some j := by
  unfold ixN
  rw [if_pos (by omega), if_pos (by omega)]
  rfl
theorem cut_mid (xs : List V) (i j : Nat) (h : i ≤ j) (hj : j ≤ xs.length) : cutV xs (some (i : Int)) (some (j : Int)) = (xs.drop i).take (j - i) := by
  unfold cutV
  rw [HT.sIx_nat, HT.sIx_nat, Nat.min_eq_left hj, Nat.min_eq_left (show i ≤ xs.length by omega)]
theorem pow_fit {u W : Int} (h0 : 0 ≤ W - u) (h1 : W - u ≤ 1000) : (W - u).natAbs < 2 ^ 64 := by
  have e : (2 : Nat) ^ 64 = 18446744073709551616 := by decide
  omega
def Fits (W : Int) (ws : List Int) : Prop := ∀ x ∈ ws, 0 ≤ x ∧ x ≤ W
theorem wids_snoc {zs : List Str} {i : Nat} {z : Str} (h : zs[i]? = some z) : wids (zs.take (i + 1)) = wids (zs.take i) ++ [wid z] := by
  unfold wids
  rw [List.take_add_one, h, List.map_append]
  rfl
theorem wids_all (zs : List Str) : wids (zs.take (zs.map V.str).length) = wids zs := by
  rw [List.length_map, List.take_length]
theorem fits_of {W : Int} {zs : List Str} (h : ∀ z ∈ zs, wid z ≤ W) : Fits W (wids zs) := fun x hx => by
  obtain ⟨z, hz, rfl⟩ := List.mem_map.mp hx
  have := wid_ge z
  exact ⟨by omega, h z hz⟩
theorem cut_strs (zs : List Str) (i k : Nat) (h : i + k ≤ zs.length) : cutV (zs.map V.str) (some (i : Int)) (some ((i : Int) + (k : Int))) = ((zs.drop i).take k).map V.str := by
  rw [show (i : Int) + (k : Int) = ((i + k : Nat) : Int) by omega, cut_mid _ i (i + k) (by omega) (by rw [List.length_map]; exact h), ← List.map_drop, ← List.map_take]
  rw [show i + k - i = k by omega]
theorem join_fit (zs : List Str) (h : ∀ z ∈ zs, z.length ≤ 1000) (hl : zs.length ≤ 1000) : (zs.map (·.length)).sum + zs.length * (" " : Str).length ≤ 16777216 := by
  have e1 : (" " : Str).length = 1 := by decide +kernel
  have : (zs.map (·.length)).sum ≤ 1000 * zs.length := by
    clear hl
    induction zs with
    | nil => exact Nat.le_refl _
    | cons z r ih =>
      have h1 := h z (List.mem_cons_self ..)
      have h2 := ih fun y hy => h y (List.mem_cons_of_mem _ hy)
      simp only [List.map_cons, List.sum_cons, List.length_cons]
      omega
  rw [e1]
  omega
theorem sum_nat_int (ks : List Nat) : (ks.map fun k : Nat => (k : Int)).sum = ((ks.sum : Nat) : Int) := by
  induction ks with
  | nil => rfl
  | cons k r ih =>
    rw [List.map_cons, List.sum_cons, List.sum_cons, ih]
    omega
theorem ints_nats (ks : List Nat) : (ks.map fun k => V.int (k : Nat)) = (ks.map fun k : Nat => (k : Int)).map V.int := by
  rw [List.map_map]
  rfl
/-! ### == of rows of texts and of numbers -/
theorem dp_strs {K : PySem.W.Frag} {H : Hp} : ∀ zs : List Str, DpAll K H (zs.map V.str) (zs.map PyData.str)
  | [] => .nil
  | z :: r => .cons (.str z) (dp_strs r)
theorem dp_ints {K : PySem.W.Frag} {H : Hp} : ∀ zs : List Int, DpAll K H (zs.map V.int) (zs.map PyData.int)
  | [] => .nil
  | z :: r => .cons (.int z) (dp_ints r)
theorem can_strs : ∀ zs : List Str, (∀ z ∈ zs, PyData.strOk z = true) → PyData.canLayAll0 (zs.map PyData.str) = true
  | [], _ => rfl
  | z :: r, h => by
    show (PyData.strOk z && PyData.canLayAll0 (r.map PyData.str)) = true
    rw [can_strs r fun y hy => h y (List.mem_cons_of_mem _ hy), Bool.and_true]
    exact h z (List.mem_cons_self ..)
theorem can_ints : ∀ zs : List Int, PyData.canLayAll0 (zs.map PyData.int) = true
  | [] => rfl
  | z :: r => by
    show (true && PyData.canLayAll0 (r.map PyData.int)) = true
    rw [can_ints r]
    rfl
theorem depth_strs : ∀ zs : List Str, PyData.depthAll (zs.map PyData.str) = 0
  | [] => rfl
  | z :: r => by
    show max 0 (PyData.depthAll (r.map PyData.str)) = 0
    rw [depth_strs r]
    rfl
theorem depth_ints : ∀ zs : List Int, PyData.depthAll (zs.map PyData.int) = 0
  | [] => rfl
  | z :: r => by
    show max 0 (PyData.depthAll (r.map PyData.int)) = 0
    rw [depth_ints r]
    rfl
theorem shaped_l (zs : List Str) (h : ∀ z ∈ zs, PyData.strOk z = true) : SeqAt.shaped (.list (zs.map PyData.str)) = true := by
  unfold SeqAt.shaped
  rw [Bool.and_eq_true]
  refine ⟨can_strs zs h, decide_eq_true ?_⟩
  show PyData.depthAll (zs.map PyData.str) + 1 ≤ 64
  rw [depth_strs]
  decide
theorem shaped_t (zs : List Str) (h : ∀ z ∈ zs, PyData.strOk z = true) : SeqAt.shaped (.tuple (zs.map PyData.str)) = true := by
  unfold SeqAt.shaped
  rw [Bool.and_eq_true]
  refine ⟨can_strs zs h, decide_eq_true ?_⟩
  show PyData.depthAll (zs.map PyData.str) + 1 ≤ 64
  rw [depth_strs]
  decide
theorem shaped_il (zs : List Int) : SeqAt.shaped (.list (zs.map PyData.int)) = true := by
  unfold SeqAt.shaped
  rw [Bool.and_eq_true]
  refine ⟨can_ints zs, decide_eq_true ?_⟩
  show PyData.depthAll (zs.map PyData.int) + 1 ≤ 64
  rw [depth_ints]
  decide
theorem shaped_it (zs : List Int) : SeqAt.shaped (.tuple (zs.map PyData.int)) = true := by
  unfold SeqAt.shaped
  rw [Bool.and_eq_true]
  refine ⟨can_ints zs, decide_eq_true ?_⟩
  show PyData.depthAll (zs.map PyData.int) + 1 ≤ 64
  rw [depth_ints]
  decide
theorem eqv_strs : ∀ xs ys : List Str, PyData.eqvAll (xs.map PyData.str) (ys.map PyData.str) = decide (xs = ys)
  | [], [] => rfl
  | [], y :: s => rfl
  | x :: r, [] => rfl
  | x :: r, y :: s => by
    show ((x == y) && PyData.eqvAll (r.map PyData.str) (s.map PyData.str)) = decide (x :: r = y :: s)
    rw [eqv_strs r s]
    by_cases h : x = y
    · subst h
      simp
    · simp [h]
theorem eqv_ints : ∀ xs ys : List Int, PyData.eqvAll (xs.map PyData.int) (ys.map PyData.int) = decide (xs = ys)
  | [], [] => rfl
  | [], y :: s => rfl
  | x :: r, [] => rfl
  | x :: r, y :: s => by
    show ((x == y) && PyData.eqvAll (r.map PyData.int) (s.map PyData.int)) = decide (x :: r = y :: s)
    rw [eqv_ints r s]
    by_cases h : x = y
    · subst h
      simp
    · simp [h]
theorem ok_app (a b : Str) (ha : PyData.strOk a = true) (hb : PyData.strOk b = true) : PyData.strOk (a ++ b) = true := by
  show (a.cps ++ b.cps).all (· < 0x110000) = true
  rw [Array.all_append]
  exact Bool.and_eq_true_iff.mpr ⟨ha, hb⟩
theorem ok_join : ∀ zs : List Str, (∀ z ∈ zs, PyData.strOk z = true) → PyData.strOk (Txt.join " " zs) = true
  | [], _ => by decide +kernel
  | [x], h => h x (List.mem_singleton.mpr rfl)
  | x :: y :: r, h => by
    rw [join_cc]
    exact ok_app _ _ (ok_app _ _ (h x (List.mem_cons_self ..)) (by decide +kernel)) (ok_join (y :: r) fun z hz => h z (List.mem_cons_of_mem _ hz))
theorem rows_ok : ∀ (zs : List Str) (ks : List Nat) (s : Nat), (∀ z ∈ zs, PyData.strOk z = true) → ∀ r ∈ rows zs ks s, PyData.strOk r = true
  | z :: zs, k :: ks, 0, h, r, hr => by
    have hr' : r ∈ Txt.join " " ((z :: zs).take k) :: rows zs ks (k - 1) := hr
    rcases List.mem_cons.mp hr' with e | e
    · rw [e]
      exact ok_join _ fun y hy => h y (List.mem_of_mem_take hy)
    · exact rows_ok zs ks (k - 1) (fun y hy => h y (List.mem_cons_of_mem _ hy)) r e
  | z :: zs, k :: ks, s + 1, h, r, hr => rows_ok zs ks s (fun y hy => h y (List.mem_cons_of_mem _ hy)) r hr
  | [], ks, s, h, r, hr => by
    cases ks <;> cases s <;> cases hr
  | z :: zs, [], s, h, r, hr => by
    cases s <;> cases hr
theorem setL_ok {W : Int} {zs : List Str} (h : ∀ z ∈ zs, PyData.strOk z = true) : ∀ r ∈ setL W zs, PyData.strOk r = true := rows_ok zs _ 0 h
theorem ok_mul1 {c : Nat} {n : Int} {N : Nat} (hc : c < 0x110000) (hn : n ≤ (N : Int)) : (Txt.mul ⟨#[c]⟩ n).length ≤ N ∧ PyData.strOk (Txt.mul ⟨#[c]⟩ n) = true := by
  refine ⟨len_mul_one rfl hn, ?_⟩
  have e := mul_one_list c n
  show (Txt.mul ⟨#[c]⟩ n).cps.all (· < 0x110000) = true
  rw [← Array.all_toList, e, List.all_eq_true]
  intro x hx
  rw [(List.mem_replicate.mp hx).2]
  exact decide_eq_true hc
theorem cnt2 : ∀ l : List Nat, cnt 109 l + cnt 119 l ≤ l.length
  | [] => Int.le_refl _
  | n :: r => by
    have ih := cnt2 r
    rw [cnt_cons, cnt_cons, List.length_cons]
    by_cases h : n = 109
    · subst h; simp; omega
    · by_cases h2 : n = 119
      · subst h2; simp; omega
      · simp [h, h2]; omega
theorem wid_le2 (z : Str) : wid z ≤ 2 * z.length := by
  have h := cnt2 z.cps.toList
  have e : wid z = (z.cps.toList.length : Int) + cnt 109 z.cps.toList + cnt 119 z.cps.toList := rfl
  have l : z.cps.toList.length = z.length := rfl
  omega
theorem sign_ok (t : Str) (h : t.cps.toList.all (· < 0x110000) = true) {c : Nat} (hc : c ∈ t.cps.toList) : c < 0x110000 := of_decide_eq_true (List.all_eq_true.mp h c hc)
theorem cnts_ne {ks : List Nat} : cnts ks 0 = [] → ks = [] := by
  cases ks with
  | nil => exact fun _ => rfl
  | cons k r => intro h; cases h
section
variable {P : Program} {w : World} {K : PySem.W.Frag} {mg : Str → Option Value} {base : Heap}
/-! ### the promises -/
/-- a row of tokens -/
def Toks (zs : List Str) : Prop := zs ≠ [] ∧ zs.length ≤ 14 ∧ ∀ z ∈ zs, z.length ≤ 21 ∧ PyData.strOk z = true
def IsLeast (m : Int) (zs : List Str) : Prop := m ∈ (20 :: wids zs) ∧ ∀ y ∈ (20 :: wids zs), y ≤ m
def toldN (zs : List Str) (m : Int) : Nat → List Int
  | 0 => [m]
  | n + 1 => toldN zs m n ++ (if setL (m + n + 1) zs = setL (m + n) zs then [] else [m + n + 1])
def sp_token_width (K : PySem.W.Frag) : Sp := fun vs H Q _ => ∃ z : Str, vs = [.str z] ∧ z.length ≤ sizeLine ∧ Q (.int (wid z)) H
def sp_width (K : PySem.W.Frag) : Sp := fun vs H Q _ => ∃ z : Str, vs = [.str z] ∧ z.length ≤ sizeLine ∧ Q (.int (wid z)) H
def sp_fill_ends (K : PySem.W.Frag) : Sp := fun vs H Q _ => ∃ (H0 : Hp) (a pc pe ps : Addr) (ws cs es : List Int) (W : Int), vs = [.ref a, .int W, .ref pc, .ref pe, .ref ps] ∧ Same H0 H ∧ SqL K H0 a (ws.map V.int) ∧ ws.length ≤ 100 ∧ W ≤ 100 ∧ Fits W ws ∧
  H0 pc = none ∧ H0 pe = none ∧ pc ≠ pe ∧ H pc = some (.lst (cs.map V.int)) ∧ H pe = some (.lst (es.map V.int)) ∧ cs.length = ws.length ∧ es.length = ws.length ∧ H ps = some (.tup [.int 0, .int ws.length]) ∧
  ∀ (es : List Int) H', Same H0 H' → H' pe = some (.lst (es.map V.int)) → es.length = ws.length → (∀ (i : Nat) (q : Int × Nat), (dp W ws)[i]? = some q → es[i]? = some ((i : Int) + (q.2 : Int))) → Q .non H'
def sp_row_ends (K : PySem.W.Frag) : Sp := fun vs H Q _ => ∃ (a : Addr) (ws : List Int) (W : Int), vs = [.ref a, .int W] ∧ SqL K H a (ws.map V.int) ∧ ws.length ≤ 100 ∧ W ≤ 100 ∧ Fits W ws ∧
  ∀ p (es : List Int) H', Same H H' → H p = none → H' p = some (.lst (es.map V.int)) → es.length = ws.length → (∀ (i : Nat) (q : Int × Nat), (dp W ws)[i]? = some q → es[i]? = some ((i : Int) + (q.2 : Int))) → Q (.ref p) H'
def sp_set_lines (K : PySem.W.Frag) : Sp := fun vs H Q _ => ∃ (a : Addr) (zs : List Str) (W : Int), vs = [.ref a, .int W] ∧ (SqL K H a (zs.map V.str) ∨ SqT K H a (zs.map V.str)) ∧ Toks zs ∧ W ≤ 60 ∧ (∀ z ∈ zs, wid z ≤ W) ∧
  ∀ p H', Same H H' → H p = none → H' p = some (.tup ((setL W zs).map V.str)) → Q (.ref p) H'
def sp_width_changes (K : PySem.W.Frag) : Sp := fun vs H Q _ => ∃ (a : Addr) (zs : List Str) (most m : Int), vs = [.ref a, .int most] ∧ (SqL K H a (zs.map V.str) ∨ SqT K H a (zs.map V.str)) ∧ Toks zs ∧ IsLeast m zs ∧ m ≤ most ∧ most ≤ 60 ∧
  ∀ p H', Same H H' → H p = none → H' p = some (.tup ((toldN zs m (most - m).toNat).map V.int)) → Q (.ref p) H'
def sp_source (K : PySem.W.Frag) : Sp := fun vs H Q _ => ∃ (a : Addr) (ns : List Int) (k : Nat), vs = [.ref a, .int k] ∧ SqL K H a (ns.map V.int) ∧ ∀ p H', Same H H' → H p = none → Src H' p → Q (.ref p) H'
def sp_pick (K : PySem.W.Frag) : Sp := fun vs H Q _ => ∃ (a : Addr) (m : Int), vs = [.ref a, .int m] ∧ Src H a ∧ 1 ≤ m ∧ m ≤ 1000000 ∧ ∀ r H', Src H' a → But a H H' → 0 ≤ r → r < m → Q (.int r) H'
def sp_is_integer (K : PySem.W.Frag) : Sp := fun vs H Q _ => ∃ i : Int, vs = [.int i] ∧ Q (.bl true) H
def sp_cut (K : PySem.W.Frag) : Sp := fun vs H Q _ => ∃ (a : Addr) (ws : List Int) (W : Int), vs = [.ref a, .int W] ∧ SqL K H a (ws.map V.int) ∧ ws.length ≤ 100 ∧ W ≤ 100 ∧ Fits W ws ∧
  ∀ p (ks : List Nat) H', Same H H' → H p = none → ks = (dp W ws).map (·.2) → H' p = some (.lst ((cnts ks 0).map fun k => V.int (k : Nat))) → Q (.ref p) H'
def sp_rows (K : PySem.W.Frag) : Sp := fun vs H Q _ => ∃ (a : Addr) (zs : List Str) (W : Int), vs = [.ref a, .int W] ∧ SqL K H a (zs.map V.str) ∧ Toks zs ∧ W ≤ 60 ∧ (∀ z ∈ zs, wid z ≤ W) ∧
  ∀ p H', Same H H' → H p = none → H' p = some (.lst ((setL W zs).map V.str)) → Q (.ref p) H'
def sp_token (K : PySem.W.Frag) : Sp := fun vs H Q _ => ∃ (a : Addr) (w : Int), vs = [.ref a, .int w] ∧ Src H a ∧ 1 ≤ w ∧ w ≤ 40 ∧ ∀ (z : Str) H', Src H' a → But a H H' → z.length ≤ 21 → PyData.strOk z = true → Q (.str z) H'
def sp_some_tokens (K : PySem.W.Frag) : Sp := fun vs H Q _ => ∃ a : Addr, vs = [.ref a] ∧ Src H a ∧ ∀ (zs : List Str) p H', H p = none → Src H' a → But a H H' → H' p = some (.lst (zs.map V.str)) → Toks zs → Q (.ref p) H'
def sp_right (K : PySem.W.Frag) : Sp := fun vs H Q _ => ∃ (a : Addr) (zs : List Str) (most m : Int), vs = [.ref a, .int most] ∧ SqL K H a (zs.map V.str) ∧ Toks zs ∧ IsLeast m zs ∧ m ≤ most ∧ most ≤ 60 ∧ ∀ H', Same H H' → Q (.bl true) H'
def sp_law (K : PySem.W.Frag) : Sp := fun vs H Q _ => ∃ (a : Addr) (ns : List Int), vs = [.ref a] ∧ SqL K H a (ns.map V.int) ∧ ns.length ≤ 63 ∧ ∀ H', Q (.bl true) H'
theorem told_mem (zs : List Str) (m : Int) (j : Nat) : ∀ N : Nat, j + 1 ≤ N → setL (m + j + 1) zs ≠ setL (m + j) zs → m + j + 1 ∈ toldN zs m N
  | 0, h, _ => by omega
  | N + 1, h, hne => by
    show _ ∈ toldN zs m N ++ _
    by_cases e : j = N
    · subst e
      rw [if_neg hne]
      exact List.mem_append_right _ (List.mem_singleton.mpr rfl)
    · exact List.mem_append_left _ (told_mem zs m j N (by omega) hne)
theorem told_first (zs : List Str) (m : Int) : ∀ N : Nat, m ∈ toldN zs m N
  | 0 => List.mem_singleton.mpr rfl
  | N + 1 => List.mem_append_left _ (told_first zs m N)
theorem told_len (zs : List Str) (m : Int) : ∀ N : Nat, (toldN zs m N).length ≤ N + 1
  | 0 => Nat.le_refl _
  | N + 1 => by
    have ih := told_len zs m N
    show (toldN zs m N ++ _).length ≤ _
    rw [List.length_append]
    split
    · rw [List.length_nil]; omega
    · rw [List.length_singleton]; omega
theorem in_ints (w : Int) (xs : List Int) : inV (.int w) (xs.map V.int) = decide (w ∈ xs) := by
  unfold inV
  induction xs with
  | nil => rfl
  | cons x r ih =>
    rw [List.map_cons, List.any_cons, ih]
    show ((x == w) || decide (w ∈ r)) = decide (w ∈ x :: r)
    by_cases h : x = w
    · subst h; simp
    · have h2 : ¬ w = x := fun e => h e.symm
      simp [h, h2]
theorem flat_ints (xs : List Int) : (xs.map V.int).all flatV = true := by
  induction xs with
  | nil => rfl
  | cons x r ih => exact ih
theorem max_ex : ∀ xs : List Int, ∀ b : Int, ∃ m, m ∈ b :: xs ∧ ∀ y ∈ b :: xs, y ≤ m
  | [], b => ⟨b, List.mem_singleton.mpr rfl, fun y hy => by rw [List.mem_singleton.mp hy]; exact Int.le_refl _⟩
  | x :: r, b => by
    obtain ⟨m, h1, h2⟩ := max_ex r b
    by_cases h : x ≤ m
    · refine ⟨m, ?_, fun y hy => ?_⟩
      · rcases List.mem_cons.mp h1 with e | e
        · rw [e]; exact List.mem_cons_self ..
        · exact List.mem_cons_of_mem _ (List.mem_cons_of_mem _ e)
      · rcases List.mem_cons.mp hy with e | e
        · rw [e]; exact h2 _ (List.mem_cons_self ..)
        · rcases List.mem_cons.mp e with e | e
          · rw [e]; exact h
          · exact h2 _ (List.mem_cons_of_mem _ e)
    · refine ⟨x, List.mem_cons_of_mem _ (List.mem_cons_self ..), fun y hy => ?_⟩
      rcases List.mem_cons.mp hy with e | e
      · rw [e]; exact Int.le_trans (h2 _ (List.mem_cons_self ..)) (by omega)
      · rcases List.mem_cons.mp e with e | e
        · rw [e]; exact Int.le_refl _
        · exact Int.le_trans (h2 _ (List.mem_cons_of_mem _ e)) (by omega)
theorem least_ex (zs : List Str) (h : ∀ z ∈ zs, z.length ≤ 21 ∧ PyData.strOk z = true) : ∃ m, IsLeast m zs ∧ 20 ≤ m ∧ m ≤ 42 := by
  obtain ⟨m, h1, h2⟩ := max_ex (wids zs) 20
  refine ⟨m, ⟨h1, h2⟩, h2 _ (List.mem_cons_self ..), ?_⟩
  rcases List.mem_cons.mp h1 with e | e
  · omega
  · obtain ⟨z, hz, e⟩ := List.mem_map.mp e
    have := wid_le2 z
    have := (h z hz).1
    omega
theorem ok_token_width (T : Tab K mg) : FnOk P w K mg base CX0 1 T.f_token_width T.d_token_width ["token"] (sp_token_width K) := by
  refine T.F_token_width.ok sc_token_width (fun vs H Q E h => ?_) (fun cdv A outer s H vs Q E hr h => ?_)
  · obtain ⟨z, rfl, _⟩ := h
    rfl
  · obtain ⟨z, rfl, hz, q⟩ := h
    refine ⟨_, (pss_one (ps_ret (pe_op op_add (pe_op op_add (pe_callB call_len_str (by rfl) T.m_len PySem.boot_len (pa_cons (pv 0) pa_nil)) (pe_m1 PySem.F.slot_str_count PySem.F.type_str_count mt_count (pv 0) pe_str)) (pe_m1 PySem.F.slot_str_count PySem.F.type_str_count mt_count (pv 0) pe_str)))), ?_⟩
    refine ⟨_, rfl, _, rfl, hz, _, rfl, ⟨_, rfl⟩, _, _, rfl, rfl, _, _, rfl, rfl, _, rfl, ⟨_, rfl⟩, _, _, rfl, rfl, _, _, rfl, rfl, ?_⟩
    rw [← wid_of] at q
    exact q
theorem ok_fill_ends (T : Tab K mg) : FnOk P w K mg base CX0 1 T.f_fill_ends T.d_fill_ends ["widths", "width", "costs", "ends", "span"] (sp_fill_ends K) := by
  refine T.F_fill_ends.ok sc_fill_ends (fun vs H Q E h => ?_) (fun cdv A outer s H vs Q E hr h => ?_)
  · obtain ⟨H0, a, pc, pe, ps, ws, cs, es, W, rfl, _⟩ := h
    rfl
  · obtain ⟨H0, a, pc, pe, ps, ws, cs, es, W, rfl, s0, hS, hn, hW, hF, fc, fe, npe, eC, eE, lc, le, eP, q⟩ := h
    refine ⟨_, (pss_cons (ps_set (i := 5) sc_fill_ends.nd rfl (.inl rfl) (pe_callB call_len_seq (by rfl) T.m_len PySem.boot_len (pa_cons (pv 0) pa_nil)))
      (pss_one (ps_for PassesOwn.never rfl (pi_revR (by rfl) T.m_reversed (prg_2 (by rfl) T.m_range (pe_ix ix_tup (pv 4) pe_int (fun _ _ => rfl)) (pe_ix ix_tup (pv 4) pe_int (fun _ _ => rfl)))) (pg_name (i := 6) sc_fill_ends.nd rfl (.inl rfl))
      (pss_cons (ps_set (i := 7) sc_fill_ends.nd rfl (.inl rfl) pe_non)
        (pss_cons (ps_set (i := 8) sc_fill_ends.nd rfl (.inl rfl) (pe_un un_neg pe_int))
        (C8.pss_cut (ps_for PassesOwn.never rfl (pi_range2 (by rfl) T.m_range (pa_cons (pv 6) (pa_cons (pv 5) pa_nil))) (pg_name (i := 9) sc_fill_ends.nd rfl (.inl rfl))
        (pss_cons (ps_set (i := 8) sc_fill_ends.nd rfl (.inl rfl) (pe_op op_add (pe_op op_add (pv 8) pe_int) (pe_ix ix_list (pv 0) (pv 9) (fun _ _ => rfl))))
          (pss_cons (ps_if (pt_cmpR op_gt (pv 8) (pv 1) (nomark _))
          (pss_one ps_break)
          pss_nil)
          (C8.pss_cut (ps_set (i := 10) sc_fill_ends.nd rfl (.inl rfl) (pe_ifExp (pt_cmpR op_eq (pv 9) (pe_op op_sub (pv 5) pe_int) (nomark _)) pe_int (pe_op op_add (pe_op op_pow (pe_op op_sub (pv 1) (pv 8)) pe_int) (pe_ix ix_list (pv 2) (pe_op op_add (pv 9) pe_int) (fun _ _ => rfl)))))
          (pss_one (ps_if (PW.pt (pw_or (pt_cmpR op_isN (pv 7) pe_non (nomark _)) (pw_or1 (pt_cmpR op_le (pv 10) (pv 7) (nomark _)))))
          (pss_cons (ps_set (i := 7) sc_fill_ends.nd rfl (.inl rfl) (pv 10))
            (pss_one (ps_asg (pe_op op_add (pv 9) pe_int) (pg_sub (pv 3) (pv 6) set_list))))
          pss_nil))))))
        (pss_one (ps_asg (pv 7) (pg_sub (pv 2) (pv 6) set_list))))))))), ?_⟩
    have ln : (ws.map V.int).length = ws.length := List.length_map ..
    refine ⟨_, rfl, _, _, rfl, .inl (s0.seq hS), ?_⟩
    rw [ln]
    have b63 : (2 : Int) ^ 63 = 9223372036854775808 := by decide
    have b62 : (2 : Int) ^ 62 = 4611686018427387904 := by decide
    refine ⟨_, rfl, ps, _, 0, _, rfl, rfl, .inl (.inl eP), rfl, _, rfl, ps, _, 1, _, rfl, rfl, .inl (.inl eP), rfl, ?_⟩
    refine ⟨_, _, rfl, rfl, by omega, by omega, by omega, by omega, for_rangeC (fun i σ' H' => ∃ (cs es : List Int) (y5 y6 y7 y8 y9 : Option V), σ' = [some (.ref a), some (.int W), some (.ref pc), some (.ref pe), some (.ref ps), some (.int ws.length), y5, y6, y7, y8, y9] ∧ cs.length = ws.length ∧ es.length = ws.length ∧ (∀ (j : Nat) (p : Int × Nat), ws.length ≤ i + j → (dp W ws)[j]? = some p → cs[j]? = some p.1 ∧ es[j]? = some ((j : Int) + (p.2 : Int))) ∧ Same H0 H' ∧ H' pc = some (.lst (cs.map V.int)) ∧ H' pe = some (.lst (es.map V.int)))
      ⟨cs, es, none, none, none, none, none, rfl, lc, le, (fun j p h e => ?_), s0, eC, eE⟩ ?_ ?_⟩
    · have h1 := (List.getElem?_eq_some_iff.mp e).1
      rw [dp_length] at h1
      omega
    · rintro i σ' H' hi ⟨cs, es, y5, y6, y7, y8, y9, rfl, lc, le, tab, sm, eC, eE⟩
      obtain ⟨f, hf, ef⟩ : ∃ f : Nat, f = ws.length - 1 - i ∧ (0 : Int) + ((((ws.length : Int) - 0).toNat : Nat) : Int) - 1 + (i : Nat) * (-1) = (f : Int) := ⟨_, rfl, by omega⟩
      rw [ef]
      have hfl : f < ws.length := by omega
      refine ⟨_, rfl, ?_⟩
      refine ⟨fun σ' H' => ∃ (cs es : List Int) (p : Int × Nat) (y7 y8 y9 : Option V), σ' = [some (.ref a), some (.int W), some (.ref pc), some (.ref pe), some (.ref ps), some (.int ws.length), some (.int f), some (.int p.1), y7, y8, y9] ∧ (dp W ws)[f]? = some p ∧ cs.length = ws.length ∧ es.length = ws.length ∧ es[f]? = some ((f : Int) + (p.2 : Int)) ∧ (∀ (j : Nat) (p : Int × Nat), f < j → (dp W ws)[j]? = some p → cs[j]? = some p.1 ∧ es[j]? = some ((j : Int) + (p.2 : Int))) ∧ Same H0 H' ∧ H' pc = some (.lst (cs.map V.int)) ∧ H' pe = some (.lst (es.map V.int)), ?_, ?_⟩
      · obtain ⟨pf, ep, eS⟩ := dp_at W ws f hfl (hF _ (List.getElem_mem hfl)).2
        refine ⟨_, rfl, _, rfl, _, _, rfl, ⟨by omega, by omega, by omega, by omega⟩, for_range (lo := (f : Int)) (n := ((ws.length : Int) - (f : Int)).toNat) (fun j σ' H' => ∃ (u : Int) (b : Option (Int × Nat)) (cs es : List Int) (y8 y9 : Option V), σ' = [some (.ref a), some (.int W), some (.ref pc), some (.ref pe), some (.ref ps), some (.int ws.length), some (.int f), some (optV b), some (.int u), y8, y9] ∧ -1 ≤ u ∧ u ≤ W ∧ cs.length = ws.length ∧ es.length = ws.length ∧ (∀ p, b = some p → es[f]? = some ((f : Int) + (p.2 : Int))) ∧ scan W u j (ws.drop (f + j)) ((dp W ws).drop (f + j + 1)) b = some pf ∧ (∀ (j : Nat) (p : Int × Nat), f < j → (dp W ws)[j]? = some p → cs[j]? = some p.1 ∧ es[j]? = some ((j : Int) + (p.2 : Int))) ∧ Same H0 H' ∧ H' pc = some (.lst (cs.map V.int)) ∧ H' pe = some (.lst (es.map V.int)))
          ⟨-1, none, cs, es, _, _, rfl, by omega, ?_, lc, le, (fun p h => nomatch h), eS, (fun j p h e => tab j p (by omega) e), sm, eC, eE⟩ ?_ ?_⟩
        · have := (hF _ (List.getElem_mem hfl)).1
          have := (hF _ (List.getElem_mem hfl)).2
          omega
        · rintro j σ' H' hj ⟨u, b, cs, es, y8, y9, rfl, u1, u2, lc, le, be, eS, tab, sm, eC, eE⟩
          have hj2 : f + j < ws.length := by omega
          have hx : ws[f + j]? = some ws[f + j] := List.getElem?_eq_getElem hj2
          have hxF := hF _ (List.getElem_mem hj2)
          generalize ws[f + j] = x at hx hxF
          have eat : (f : Int) + (j : Nat) = ((f + j : Nat) : Int) := by omega
          rw [eat]
          refine ⟨_, rfl, _, _, rfl, rfl, _, rfl, _, rfl, _, _, _, _, rfl, rfl, sm.seq hS, atI_nat (get_ints hx), _, _, rfl, rfl, ?_⟩
          refine ⟨_, rfl, _, rfl, _, _, rfl, rfl, _, rfl, ite2 (fun e => ?_) (fun e => ?_)⟩
          · have hlt : W < u + 1 + x := of_decide_eq_true e
            rw [scan_stop W u f j ws b x hx hlt] at eS
            subst eS
            exact ⟨cs, es, pf, _, _, _, rfl, ep, lc, le, be pf rfl, tab, sm, eC, eE⟩
          · have hge : ¬ W < u + 1 + x := fun h => e (decide_eq_true h)
            rw [scan_next W u f j ws b x hx hge] at eS
            refine ⟨fun σ' H'' => ∃ c : Int, σ' = [some (.ref a), some (.int W), some (.ref pc), some (.ref pe), some (.ref ps), some (.int ws.length), some (.int f), some (optV b), some (.int (u + 1 + x)), some (.int ((f + j : Nat) : Int)), some (.int c)] ∧ c = (if f + j + 1 = ws.length then 0 else (W - (u + 1 + x)) * (W - (u + 1 + x)) + (((dp W ws)[f + j + 1]?).getD (0, 0)).1) ∧ H' = H'', ?_, ?_⟩
            · refine ⟨_, rfl, _, rfl, _, _, rfl, rfl, rfl, _, rfl, ite2 (fun e => ?_) (fun e => ?_)⟩
              · have h1 : ((f + j : Nat) : Int) = (ws.length : Int) - 1 := V.int.inj (of_decide_eq_true e)
                exact ⟨0, rfl, (by rw [if_pos (by omega)]), rfl⟩
              · have h1 : f + j + 1 ≠ ws.length := fun h => e (decide_eq_true (congrArg V.int (by omega)))
                have hd : f + j + 1 < (dp W ws).length := by rw [dp_length]; omega
                have t1 := (tab (f + j + 1) _ (by omega) (List.getElem?_eq_getElem hd)).1
                refine ⟨_, rfl, _, rfl, _, _, rfl, rfl, _, _, rfl, rfl, ⟨by decide, by decide, pow_fit (by omega) (by omega)⟩, _, rfl, _, rfl, _, _, rfl, rfl, _, _, _, _, rfl, rfl, .inl (.inl eC), atI_nat (j := f + j + 1) (get_ints t1), _, _, rfl, rfl, ?_⟩
                refine ⟨_, rfl, ?_, rfl⟩
                rw [if_neg h1, List.getElem?_eq_getElem hd, sq2]
                rfl
            · rintro σ' H'' ⟨c, rfl, ec, rfl⟩
              rw [← ec] at eS
              rcases b with _ | ⟨d, k⟩
              · have hb : scan W (u + 1 + x) (j + 1) (ws.drop (f + (j + 1))) ((dp W ws).drop (f + (j + 1) + 1)) (some (c, j + 1)) = some pf := eS
                refine ⟨_, rfl, rfl, _, rfl, ite2 (fun _ => ?_) (fun h => absurd (decide_eq_true rfl) h)⟩
                refine ⟨_, rfl, _, rfl, _, _, rfl, rfl, _, rfl, _, rfl, _, _, _, f, rfl, rfl, eE, (by rw [List.length_map, le]; exact ixN_nat hfl), ?_⟩
                rw [set_ints]
                refine ⟨u + 1 + x, some (c, j + 1), cs, _, _, _, rfl, by omega, by omega, lc, by rw [List.length_set]; exact le, ?_, ?_, ?_, same_put sm fe _, by rw [upd_ne npe]; exact eC, upd_same⟩
                · intro p hp
                  injection hp with hp
                  subst hp
                  rw [List.getElem?_set_self (by omega)]
                  exact congrArg some (show ((f + j : Nat) : Int) + 1 = (f : Int) + ((j + 1 : Nat) : Int) by omega)
                · exact hb
                · intro j' p' hj' e'
                  rw [List.getElem?_set_ne (by omega)]
                  exact tab j' p' hj' e'
              · refine ⟨_, rfl, rfl, _, rfl, ite2 (fun e => absurd (of_decide_eq_true e) (by intro z; cases z)) (fun _ => ?_)⟩
                refine ⟨_, rfl, _, rfl, _, _, rfl, rfl, _, rfl, ite2 (fun e => ?_) (fun e => ?_)⟩
                · have hcd : c ≤ d := of_decide_eq_true e
                  have hb : scan W (u + 1 + x) (j + 1) (ws.drop (f + (j + 1))) ((dp W ws).drop (f + (j + 1) + 1)) (some (c, j + 1)) = some pf := by
                    rw [show better (some (d, k)) c (j + 1) = some (c, j + 1) from if_pos hcd] at eS
                    exact eS
                  refine ⟨_, rfl, _, rfl, _, _, rfl, rfl, _, rfl, _, rfl, _, _, _, f, rfl, rfl, eE, (by rw [List.length_map, le]; exact ixN_nat hfl), ?_⟩
                  rw [set_ints]
                  refine ⟨u + 1 + x, some (c, j + 1), cs, _, _, _, rfl, by omega, by omega, lc, by rw [List.length_set]; exact le, ?_, ?_, ?_, same_put sm fe _, by rw [upd_ne npe]; exact eC, upd_same⟩
                  · intro p hp
                    injection hp with hp
                    subst hp
                    rw [List.getElem?_set_self (by omega)]
                    exact congrArg some (show ((f + j : Nat) : Int) + 1 = (f : Int) + ((j + 1 : Nat) : Int) by omega)
                  · exact hb
                  · intro j' p' hj' e'
                    rw [List.getElem?_set_ne (by omega)]
                    exact tab j' p' hj' e'
                · have hcd : ¬ c ≤ d := fun h => e (decide_eq_true h)
                  rw [show better (some (d, k)) c (j + 1) = some (d, k) from if_neg hcd] at eS
                  exact ⟨u + 1 + x, some (d, k), cs, es, _, _, rfl, by omega, by omega, lc, le, be, eS, tab, sm, eC, eE⟩
        · rintro σ' H' ⟨u, b, cs, es, y8, y9, rfl, u1, u2, lc, le, be, eS, tab, sm, eC, eE⟩
          rw [scan_out W u f _ ws _ b (by omega)] at eS
          subst eS
          exact ⟨cs, es, pf, _, _, _, rfl, ep, lc, le, be pf rfl, tab, sm, eC, eE⟩
      · rintro σ' H' ⟨cs, es, p, y7, y8, y9, rfl, ep, lc, le, be, tab, sm, eC, eE⟩
        refine ⟨_, rfl, _, rfl, _, rfl, _, _, _, f, rfl, rfl, eC, ?_, ?_⟩
        · rw [List.length_map, lc]; exact ixN_nat hfl
        rw [set_ints]
        refine ⟨_, es, _, _, _, _, _, rfl, ?_, le, ?_, same_put sm fc _, upd_same, ?_⟩
        · rw [List.length_set]; exact lc
        · intro j p' hj e'
          by_cases h : j = f
          · subst h
            rw [ep] at e'
            injection e' with e'
            subst e'
            refine ⟨?_, be⟩
            rw [List.getElem?_set_self (by omega)]
          · have := tab j p' (by omega) e'
            rw [List.getElem?_set_ne (fun z => h z.symm)]
            exact this
        · rw [upd_ne npe.symm]; exact eE
    · rintro σ' H' ⟨cs, es, y5, y6, y7, y8, y9, rfl, lc, le, tab, sm, eC, eE⟩
      exact q es H' sm eE le (fun i p e => (tab i p (by omega) e).2)
theorem ok_source (T : Tab K mg) : FnOk P w K mg base CX0 1 T.f_source T.d_source ["_law_script", "_law_k"] (sp_source K) := by
  refine T.F_source.ok sc_source (fun vs H Q E h => ?_) (fun cdv A outer s H vs Q E hr h => ?_)
  · obtain ⟨a, ns, k, rfl, _⟩ := h
    rfl
  · obtain ⟨a, ns, k, rfl, hS, q⟩ := h
    refine ⟨_, (C8.pss_cut (ps_set (i := 2) sc_source.nd rfl (.inl rfl) (pe_ifExp (pt_cmpR op_lt (pv 1) (pe_callB call_len_seq (by rfl) T.m_len PySem.boot_len (pa_cons (pv 0) pa_nil)) (nomark _)) (pe_ix ix_list (pv 0) (pv 1) (fun _ _ => rfl)) (pe_op op_add (pe_op op_mod (pe_callTy call_int1 (by rfl) T.m_int (by decide +kernel) (pa_cons (pe_op op_add (pe_callB (cr_sum rfl) (by rfl) T.m_sum (by decide +kernel) (pa_cons (pe_slice sl_list (pv 0) po_none (po_some pe_int)) pa_nil)) (pe_op op_mul pe_int (pe_callB (cr_sum rfl) (by rfl) T.m_sum (by decide +kernel) (pa_cons (pe_slice sl_list (pv 0) (po_some pe_int) (po_some pe_int)) pa_nil)))) pa_nil)) pe_int) (pe_op op_mul pe_int (pv 1)))))
      (pss_cons (ps_set (i := 3) sc_source.nd rfl (.inl rfl) (pe_callB call_abs (by rfl) T.m_abs (by decide +kernel) (pa_cons (pv 2) pa_nil)))
      (C8.pss_cut (ps_set (i := 4) sc_source.nd rfl (.inl rfl) (pe_ifExp (pt_cmpR op_ge (pv 3) pe_int (nomark _)) (pv 3) pe_int))
      (pss_one (ps_ret (pe_lst (pa_cons (pv 4) (pa_cons (pe_op op_mod (pe_callTy call_int1 (by rfl) T.m_int (by decide +kernel) (pa_cons (pe_op op_add (pe_op op_add (pe_op op_add (pe_op op_mul (pv 3) pe_int) (pe_callTy call_int1 (by rfl) T.m_int (by decide +kernel) (pa_cons (pe_cmpR op_lt (pv 2) pe_int (nomark _)) pa_nil))) (pe_op op_mul pe_int (pv 1))) pe_int) pa_nil)) pe_int) (pa_cons pe_int pa_nil))))))))), ?_⟩
    refine ⟨fun σ' H' => ∃ c : Int, σ' = [some (.ref a), some (.int k), some (.int c), none, none] ∧ Same H H', ?_, ?_⟩
    · refine ⟨_, rfl, _, rfl, _, _, rfl, .inl hS, _, _, rfl, rfl, _, rfl, ite2 (fun e => ?_) (fun e => ?_)⟩
      · have e1 : (k : Int) < ((ns.map V.int).length : Int) := of_decide_eq_true e
        rw [List.length_map] at e1
        have hk : k < ns.length := by omega
        have g : (ns.map V.int)[k]? = some (.int ns[k]) := by
          rw [List.getElem?_map, List.getElem?_eq_getElem hk]
          rfl
        exact ⟨_, rfl, _, rfl, _, _, _, _, rfl, rfl, hS, atI_nat g, _, rfl, Same.refl H⟩
      · refine ⟨_, rfl, 1, rfl, _, _, rfl, hS, fun p1 n1 => ?_⟩
        obtain ⟨m1, c1⟩ := cut_map ns none (some 1)
        rw [c1]
        have s1 : Same H (upd H p1 (.lst (m1.map V.int))) := same_upd n1
        refine ⟨_, m1, rfl, .inl (.inl upd_same), _, rfl, 1, rfl, 2, rfl, _, _, rfl, s1.seq hS, fun p2 n2 => ?_⟩
        obtain ⟨m2, c2⟩ := cut_map ns (some 1) (some 2)
        rw [c2]
        refine ⟨_, m2, rfl, .inl (.inl upd_same), _, _, rfl, rfl, .inl ⟨by decide, by decide⟩, _, _, rfl, rfl, .inl ⟨_, rfl, _, _, rfl, rfl, (by show (0 : Int) < 1000003; decide), _, rfl, _, _, rfl, rfl, .inl ⟨by decide, by decide⟩, _, _, rfl, rfl, _, rfl, s1.trans (same_upd n2)⟩⟩
    · rintro σ' H1 ⟨c, rfl, s1⟩
      refine ⟨_, rfl, _, rfl, ?_⟩
      refine ⟨fun σ' H' => ∃ n g : Int, σ' = [some (.ref a), some (.int k), some (.int c), some (.int n), some (.int g)] ∧ H' = H1, ?_, ?_⟩
      · refine ⟨_, rfl, _, _, rfl, rfl, _, rfl, ite2 (fun e => ?_) (fun e => ?_)⟩
        · exact ⟨_, rfl, _, _, rfl, rfl⟩
        · exact ⟨_, _, rfl, rfl⟩
      · rintro σ' H' ⟨n, g, rfl, rfl⟩
        refine ⟨_, rfl, _, rfl, _, _, rfl, rfl, .inr ⟨by decide, by decide⟩, _, rfl, _, _, rfl, rfl, .inr ⟨_, rfl, _, _, rfl, rfl, _, rfl, _, _, rfl, rfl, .inl ⟨by decide, by decide⟩, _, _, rfl, rfl, _, _, rfl, rfl, .inl ⟨_, rfl, _, _, rfl, rfl, (by show (0 : Int) < 2147483647; decide), ?_⟩⟩⟩
        refine ⟨(by show 3 ≤ sizeLine; decide), fun p np => ?_⟩
        exact q p _ (s1.trans (same_upd np)) (s1.free np) ⟨_, _, _, upd_same⟩
theorem ok_pick (T : Tab K mg) : FnOk P w K mg base CX0 1 T.f_pick T.d_pick ["_law_source_here", "_law_many"] (sp_pick K) := by
  refine T.F_pick.ok sc_pick (fun vs H Q E h => ?_) (fun cdv A outer s H vs Q E hr h => ?_)
  · obtain ⟨a, m, rfl, _⟩ := h
    rfl
  · obtain ⟨a, m, rfl, ⟨g, x, c, hs⟩, h1, h2, q⟩ := h
    refine ⟨_, (pss_cons (ps_if (pt_cmpR op_lt (pv 1) pe_int (nomark _))
      (pss_one (ps_ret pe_int))
      pss_nil)
      (pss_cons (ps_if (pt_cmpR op_gt (pe_ix ix_list (pv 0) pe_int (fun _ _ => rfl)) pe_int (nomark _))
      (pss_cons (ps_set (i := 2) sc_pick.nd rfl (.inl rfl) (pe_op op_mod (pe_callTy call_int1 (by rfl) T.m_int (by decide +kernel) (pa_cons (pe_ix ix_list (pv 0) pe_int (fun _ _ => rfl)) pa_nil)) (pv 1)))
        (pss_cons (ps_asg (pe_op op_fdiv (pe_ix ix_list (pv 0) pe_int (fun _ _ => rfl)) (pv 1)) (pg_sub (pv 0) pe_int set_list))
        (pss_one (ps_ret (pv 2)))))
      pss_nil)
      (pss_cons (ps_asg (pe_op op_add (pe_ix ix_list (pv 0) pe_int (fun _ _ => rfl)) pe_int) (pg_sub (pv 0) pe_int set_list))
      (pss_cons (ps_asg (pe_op op_mod (pe_callTy call_int1 (by rfl) T.m_int (by decide +kernel) (pa_cons (pe_op op_add (pe_op op_add (pe_op op_mul (pe_ix ix_list (pv 0) pe_int (fun _ _ => rfl)) pe_int) (pe_op op_mul (pe_ix ix_list (pv 0) pe_int (fun _ _ => rfl)) pe_int)) pe_int) pa_nil)) pe_int) (pg_sub (pv 0) pe_int set_list))
      (pss_one (ps_ret (pe_op op_mod (pe_callTy call_int1 (by rfl) T.m_int (by decide +kernel) (pa_cons (pe_op op_fdiv (pe_op op_mod (pe_callTy call_int1 (by rfl) T.m_int (by decide +kernel) (pa_cons (pe_op op_add (pe_op op_add (pe_op op_mul (pe_ix ix_list (pv 0) pe_int (fun _ _ => rfl)) pe_int) (pe_op op_mul (pe_ix ix_list (pv 0) pe_int (fun _ _ => rfl)) pe_int)) pe_int) pa_nil)) pe_int) pe_int) pa_nil)) (pv 1)))))))), ?_⟩
    refine ⟨_, rfl, _, _, rfl, rfl, _, rfl, ite2 (fun e => ?_) (fun e => ?_)⟩
    · exact q 0 H ⟨g, x, c, hs⟩ (But.refl a H) (by decide) (by omega)
    · have hm : ¬ m < 2 := fun z => e (decide_eq_true z)
      refine ⟨_, rfl, _, _, _, _, rfl, rfl, .inl (.inl hs), rfl, _, _, rfl, rfl, _, rfl, ite2 (fun e => ?_) (fun e => ?_)⟩
      · refine ⟨_, rfl, _, _, _, _, rfl, rfl, .inl (.inl hs), rfl, .inl ⟨_, rfl, _, rfl, _, _, rfl, rfl, (by omega), ?_⟩⟩
        refine ⟨_, rfl, _, _, _, _, rfl, rfl, .inl (.inl hs), rfl, _, rfl, _, _, rfl, rfl, ⟨by omega, by omega⟩, ?_⟩
        refine ⟨_, rfl, _, _, _, _, rfl, rfl, hs, rfl, ?_⟩
        refine ⟨_, rfl, ?_⟩
        exact q _ _ ⟨_, _, _, upd_same⟩ (But.upd _) (Int.emod_nonneg _ (by omega)) (Int.emod_lt_of_pos _ (by omega))
      · refine ⟨_, rfl, _, _, _, _, rfl, rfl, .inl (.inl hs), rfl, _, _, rfl, rfl, _, rfl, _, _, _, _, rfl, rfl, hs, rfl, ?_⟩
        refine ⟨_, rfl, _, _, _, _, rfl, rfl, .inl (.inl upd_same), rfl, _, _, rfl, rfl, .inr ⟨by decide, by decide⟩, _, rfl, _, _, _, _, rfl, rfl, .inl (.inl upd_same), rfl, _, _, rfl, rfl, .inr ⟨by decide, by decide⟩, _, _, rfl, rfl, _, _, rfl, rfl, .inl ⟨_, rfl, _, _, rfl, rfl, (by show (0 : Int) < 2147483647; decide), ?_⟩⟩
        refine ⟨_, rfl, _, _, _, _, rfl, rfl, upd_same, rfl, ?_⟩
        refine ⟨_, rfl, _, _, _, _, rfl, rfl, .inl (.inl upd_same), rfl, _, _, rfl, rfl, .inr ⟨by decide, by decide⟩, _, rfl, _, _, _, _, rfl, rfl, .inl (.inl upd_same), rfl, _, _, rfl, rfl, .inr ⟨by decide, by decide⟩, _, _, rfl, rfl, _, _, rfl, rfl, .inl ⟨_, rfl, _, _, rfl, rfl, (by show (0 : Int) < 2147483629; decide), _, _, rfl, rfl, ⟨by decide, by decide⟩, .inl ⟨_, rfl, _, rfl, _, _, rfl, rfl, (by omega), ?_⟩⟩⟩
        exact q _ _ ⟨_, _, _, upd_same⟩ (((But.upd _).trans (But.upd _))) (Int.emod_nonneg _ (by omega)) (Int.emod_lt_of_pos _ (by omega))
theorem ok_is_integer (T : Tab K mg) : FnOk P w K mg base CX0 1 T.f_is_integer T.d_is_integer ["_law_actual"] (sp_is_integer K) := by
  refine T.F_is_integer.ok sc_is_integer (fun vs H Q E h => ?_) (fun cdv A outer s H vs Q E hr h => ?_)
  · obtain ⟨i, rfl, _⟩ := h
    rfl
  · obtain ⟨i, rfl, q⟩ := h
    refine ⟨_, (pss_one (ps_ret (pe_and (pe_callB call_isi (by rfl) T.m_isinstance (by decide +kernel) (pa_cons (pv 0) (pa_cons (pe_bltn (v := .ty "int") (u := .type "int") (by rfl) T.m_int (by decide +kernel) rfl) pa_nil))) (pe_one (pe_not (pe_callB call_isi (by rfl) T.m_isinstance (by decide +kernel) (pa_cons (pv 0) (pa_cons (pe_bltn (v := .ty "bool") (u := .type "bool") (by rfl) T.m_bool (by decide +kernel) rfl) pa_nil)))))))), ?_⟩
    refine ⟨_, rfl, _, _, _, _, _, rfl, .ty "int", .base (.int i), kit_ty (by decide +kernel), true, rfl, iteT ?_⟩
    exact ⟨_, rfl, _, _, _, _, _, rfl, .ty "bool", .base (.int i), kit_ty (r := false) (by decide +kernel), false, rfl, q⟩
theorem ok_width (T : Tab K mg) : FnOk P w K mg base CX0 1 T.f_width T.d_width ["_law_token_here"] (sp_width K) := by
  refine T.F_width.ok sc_width (fun vs H Q E h => ?_) (fun cdv A outer s H vs Q E hr h => ?_)
  · obtain ⟨z, rfl, _⟩ := h
    rfl
  · obtain ⟨z, rfl, hz, q⟩ := h
    refine ⟨_, (pss_one (ps_ret (pe_op op_add (pe_op op_add (pe_callB call_len_str (by rfl) T.m_len PySem.boot_len (pa_cons (pv 0) pa_nil)) (pe_m1 PySem.F.slot_str_count PySem.F.type_str_count mt_count (pv 0) pe_str)) (pe_m1 PySem.F.slot_str_count PySem.F.type_str_count mt_count (pv 0) pe_str)))), ?_⟩
    refine ⟨_, rfl, _, rfl, hz, _, rfl, ⟨_, rfl⟩, _, _, rfl, rfl, _, _, rfl, rfl, _, rfl, ⟨_, rfl⟩, _, _, rfl, rfl, _, _, rfl, rfl, ?_⟩
    rw [← wid_of] at q
    exact q
theorem ok_cut (T : Tab K mg) : FnOk P w K mg base CX0 1 T.f_cut T.d_cut ["_law_widths", "_law_limit"] (sp_cut K) := by
  refine T.F_cut.ok sc_cut (fun vs H Q E h => ?_) (fun cdv A outer s H vs Q E hr h => ?_)
  · obtain ⟨a, ws, W, rfl, _⟩ := h
    rfl
  · obtain ⟨a, ws, W, rfl, hS, hn, hW, hF, q⟩ := h
    refine ⟨_, (pss_cons (ps_set (i := 2) sc_cut.nd rfl (.inl rfl) (pe_callB call_len_seq (by rfl) T.m_len PySem.boot_len (pa_cons (pv 0) pa_nil)))
      (pss_cons (ps_set (i := 3) sc_cut.nd rfl (.inl rfl) (pe_op op_rep (pe_lst (pa_cons pe_int pa_nil)) (pe_op op_add (pv 2) pe_int)))
      (pss_cons (ps_set (i := 4) sc_cut.nd rfl (.inl rfl) (pe_op op_rep (pe_lst (pa_cons pe_int pa_nil)) (pe_op op_add (pv 2) pe_int)))
      (pss_cons (ps_for PassesOwn.never rfl (pi_range1 (by rfl) T.m_range (pa_cons (pv 2) pa_nil)) (pg_name (i := 5) sc_cut.nd rfl (.inl rfl))
      (pss_cons (ps_set (i := 6) sc_cut.nd rfl (.inl rfl) (pe_op op_sub (pe_op op_sub (pv 2) pe_int) (pv 5)))
        (pss_cons (ps_set (i := 7) sc_cut.nd rfl (.inl rfl) (pe_op op_add (pv 1) pe_int))
        (pss_cons (ps_set (i := 8) sc_cut.nd rfl (.inl rfl) pe_non)
        (C8.pss_cut (ps_for PassesOwn.never rfl (pi_range2 (by rfl) T.m_range (pa_cons (pv 6) (pa_cons (pv 2) pa_nil))) (pg_name (i := 9) sc_cut.nd rfl (.inl rfl))
        (pss_cons (ps_set (i := 7) sc_cut.nd rfl (.inl rfl) (pe_op op_sub (pe_op op_sub (pv 7) (pe_ix ix_list (pv 0) (pv 9) (fun _ _ => rfl))) pe_int))
          (pss_cons (ps_if (pt_cmpR op_lt (pv 7) pe_int (nomark _))
          (pss_one ps_break)
          pss_nil)
          (C8.pss_cut (ps_set (i := 10) sc_cut.nd rfl (.inl rfl) (pe_ifExp (pt_cmpR op_eq (pv 9) (pe_op op_sub (pv 2) pe_int) (nomark _)) pe_int (pe_op op_add (pe_op op_mul (pv 7) (pv 7)) (pe_ix ix_list (pv 3) (pe_op op_add (pv 9) pe_int) (fun _ _ => rfl)))))
          (pss_one (ps_if (PW.pt (pw_or (pt_cmpR op_isN (pv 8) pe_non (nomark _)) (pw_or1 (pt_cmpR op_le (pv 10) (pv 8) (nomark _)))))
          (pss_cons (ps_set (i := 8) sc_cut.nd rfl (.inl rfl) (pv 10))
            (pss_one (ps_asg (pe_op op_sub (pe_op op_add (pv 9) pe_int) (pv 6)) (pg_sub (pv 4) (pv 6) set_list))))
          pss_nil))))))
        (pss_one (ps_asg (pv 8) (pg_sub (pv 3) (pv 6) set_list))))))))
      (pss_cons (ps_set (i := 11) sc_cut.nd rfl (.inl rfl) (pe_lst pa_nil))
      (pss_cons (ps_for PassesOwn.never rfl (pi_range1 (by rfl) T.m_range (pa_cons (pv 2) pa_nil)) (pg_name (i := 12) sc_cut.nd rfl (.inl rfl))
      (pss_one (ps_if (pt_cmpR op_lt (pe_callB (cr_sum rfl) (by rfl) T.m_sum (by decide +kernel) (pa_cons (pv 11) pa_nil)) (pv 2) (nomark _))
        (pss_one (ps_expr (pe_bm PySem.F.plainAttrs_list PySem.F.slot_list_append PySem.F.type_list_append mt_append (pv 11) (pa_cons (pe_ix ix_list (pv 4) (pe_callB (cr_sum rfl) (by rfl) T.m_sum (by decide +kernel) (pa_cons (pv 11) pa_nil)) (fun _ _ => rfl)) pa_nil))))
        pss_nil)))
      (pss_one (ps_ret (pv 11))))))))), ?_⟩
    have ln : (ws.map V.int).length = ws.length := List.length_map ..
    refine ⟨_, rfl, _, _, rfl, .inl hS, ?_⟩
    rw [ln]
    have b63 : (2 : Int) ^ 63 = 9223372036854775808 := by decide
    have b62 : (2 : Int) ^ 62 = 4611686018427387904 := by decide
    have e64 : (2 : Int) ^ 64 = 18446744073709551616 := by decide
    have en : ((ws.length : Int) + 1).toNat = ws.length + 1 := by omega
    refine ⟨(by show 1 ≤ sizeLine; decide), fun p1 n1 => ?_⟩
    refine ⟨_, rfl, _, _, rfl, rfl, p1, _, _, rfl, rfl, upd_same, by omega, by omega, ?_, fun pc nc => ?_⟩
    · rw [en]; exact Nat.le_of_lt (small1000 (by show 1 * (ws.length + 1) ≤ 1000; omega))
    refine ⟨(by show 1 ≤ sizeLine; decide), fun p3 n3 => ?_⟩
    refine ⟨_, rfl, _, _, rfl, rfl, p3, _, _, rfl, rfl, upd_same, by omega, by omega, ?_, fun pe ne => ?_⟩
    · rw [en]; exact Nat.le_of_lt (small1000 (by show 1 * (ws.length + 1) ≤ 1000; omega))
    rw [en, flat_rep, rep_int]
    rw [en, flat_rep, rep_int] at ne n3
    have s1 := same_upd (o := .lst [V.int 0]) n1
    have s2 := s1.trans (same_upd (o := .lst ((List.replicate (ws.length + 1) (0 : Int)).map V.int)) nc)
    have s3 := s2.trans (same_upd (o := .lst [V.int 0]) n3)
    have s4 := s3.trans (same_upd (o := .lst ((List.replicate (ws.length + 1) (0 : Int)).map V.int)) ne)
    have ec1 := same_upd (o := .lst [V.int 0]) n3 pc _ upd_same
    have ec0 := same_upd (o := .lst ((List.replicate (ws.length + 1) (0 : Int)).map V.int)) ne _ _ ec1
    have npe : pc ≠ pe := ne_of_none ec1 ne
    have fc : H pc = none := s1.free nc
    have fe : H pe = none := s3.free ne
    refine ⟨_, rfl, _, rfl, by omega, by omega, for_range (lo := 0) (fun i σ' H' => ∃ (cs es : List Int) (y5 y6 y7 y8 y9 y10 : Option V), σ' = [some (.ref a), some (.int W), some (.int ws.length), some (.ref pc), some (.ref pe), y5, y6, y7, y8, y9, y10, none, none] ∧ cs.length = ws.length + 1 ∧ es.length = ws.length + 1 ∧ (∀ (j : Nat) (p : Int × Nat), ws.length ≤ i + j → (dp W ws)[j]? = some p → cs[j]? = some p.1 ∧ es[j]? = some (p.2 : Int)) ∧ Same H H' ∧ H' pc = some (.lst (cs.map V.int)) ∧ H' pe = some (.lst (es.map V.int)))
      ⟨List.replicate (ws.length + 1) 0, List.replicate (ws.length + 1) 0, none, none, none, none, none, none, rfl, List.length_replicate, List.length_replicate, (fun j p h e => ?_), s4, ec0, upd_same⟩ ?_ ?_⟩
    · have h1 := (List.getElem?_eq_some_iff.mp e).1
      rw [dp_length] at h1
      omega
    · rintro i σ' H' hi ⟨cs, es, y5, y6, y7, y8, y9, y10, rfl, lc, le, tab, sm, eC, eE⟩
      obtain ⟨f, hf, ef⟩ : ∃ f : Nat, f = ws.length - 1 - i ∧ (ws.length : Int) - 1 - (0 + (i : Nat)) = (f : Int) := ⟨_, rfl, by omega⟩
      have hfl : f < ws.length := by omega
      refine ⟨_, rfl, _, _, rfl, rfl, _, rfl, _, _, rfl, rfl, ?_⟩
      dsimp only
      rw [ef]
      refine ⟨_, rfl, _, _, rfl, rfl, ?_⟩
      refine ⟨fun σ' H' => ∃ (cs es : List Int) (p : Int × Nat) (y5 y7 y9 y10 : Option V), σ' = [some (.ref a), some (.int W), some (.int ws.length), some (.ref pc), some (.ref pe), y5, some (.int f), y7, some (.int p.1), y9, y10, none, none] ∧ (dp W ws)[f]? = some p ∧ cs.length = ws.length + 1 ∧ es.length = ws.length + 1 ∧ es[f]? = some (p.2 : Int) ∧ (∀ (j : Nat) (p : Int × Nat), f < j → (dp W ws)[j]? = some p → cs[j]? = some p.1 ∧ es[j]? = some (p.2 : Int)) ∧ Same H H' ∧ H' pc = some (.lst (cs.map V.int)) ∧ H' pe = some (.lst (es.map V.int)), ?_, ?_⟩
      · obtain ⟨pf, ep, eS⟩ := dp_at W ws f hfl (hF _ (List.getElem_mem hfl)).2
        have hw0 := hF _ (List.getElem_mem hfl)
        refine ⟨_, rfl, _, rfl, _, _, rfl, ⟨by omega, by omega, by omega, by omega⟩, for_range (lo := (f : Int)) (n := ((ws.length : Int) - (f : Int)).toNat) (fun j σ' H' => ∃ (u rm : Int) (b : Option (Int × Nat)) (cs es : List Int) (y5 y9 y10 : Option V), σ' = [some (.ref a), some (.int W), some (.int ws.length), some (.ref pc), some (.ref pe), y5, some (.int f), some (.int rm), some (optV b), y9, y10, none, none] ∧ rm = W - u ∧ -1 ≤ u ∧ u ≤ W ∧ cs.length = ws.length + 1 ∧ es.length = ws.length + 1 ∧ (∀ p, b = some p → es[f]? = some (p.2 : Int)) ∧ scan W u j (ws.drop (f + j)) ((dp W ws).drop (f + j + 1)) b = some pf ∧ (∀ (j : Nat) (p : Int × Nat), f < j → (dp W ws)[j]? = some p → cs[j]? = some p.1 ∧ es[j]? = some (p.2 : Int)) ∧ Same H H' ∧ H' pc = some (.lst (cs.map V.int)) ∧ H' pe = some (.lst (es.map V.int)))
          ⟨-1, W + 1, none, cs, es, _, _, _, rfl, by omega, by omega, by omega, lc, le, (fun p h => nomatch h), eS, (fun j p h e => tab j p (by omega) e), sm, eC, eE⟩ ?_ ?_⟩
        · rintro j σ' H' hj ⟨u, rm, b, cs, es, y5, y9, y10, rfl, rfl, u1, u2, lc, le, be, eS, tab, sm, eC, eE⟩
          have hj2 : f + j < ws.length := by omega
          have hx : ws[f + j]? = some ws[f + j] := List.getElem?_eq_getElem hj2
          have hxF := hF _ (List.getElem_mem hj2)
          generalize ws[f + j] = x at hx hxF
          have eat : (f : Int) + (j : Nat) = ((f + j : Nat) : Int) := by omega
          rw [eat]
          refine ⟨_, rfl, _, rfl, _, rfl, _, _, _, _, rfl, rfl, sm.seq hS, atI_nat (get_ints hx), _, _, rfl, rfl, _, _, rfl, rfl, ?_⟩
          dsimp only
          rw [show W - u - x - 1 = W - (u + 1 + x) by omega]
          refine ⟨_, rfl, _, _, rfl, rfl, _, rfl, ite2 (fun e => ?_) (fun e => ?_)⟩
          · have h0 : W - (u + 1 + x) < 0 := of_decide_eq_true e
            have hlt : W < u + 1 + x := by omega
            rw [scan_stop W u f j ws b x hx hlt] at eS
            subst eS
            exact ⟨cs, es, pf, _, _, _, _, rfl, ep, lc, le, be pf rfl, tab, sm, eC, eE⟩
          · have hge : ¬ W < u + 1 + x := fun h => e (decide_eq_true (by omega))
            rw [scan_next W u f j ws b x hx hge] at eS
            refine ⟨fun σ' H'' => ∃ c : Int, σ' = [some (.ref a), some (.int W), some (.int ws.length), some (.ref pc), some (.ref pe), y5, some (.int f), some (.int (W - (u + 1 + x))), some (optV b), some (.int ((f + j : Nat) : Int)), some (.int c), none, none] ∧ c = (if f + j + 1 = ws.length then 0 else (W - (u + 1 + x)) * (W - (u + 1 + x)) + (((dp W ws)[f + j + 1]?).getD (0, 0)).1) ∧ H' = H'', ?_, ?_⟩
            · refine ⟨_, rfl, _, rfl, _, _, rfl, rfl, rfl, _, rfl, ite2 (fun e => ?_) (fun e => ?_)⟩
              · have h1 : ((f + j : Nat) : Int) = (ws.length : Int) - 1 := V.int.inj (of_decide_eq_true e)
                exact ⟨0, rfl, (by rw [if_pos (by omega)]), rfl⟩
              · have h1 : f + j + 1 ≠ ws.length := fun h => e (decide_eq_true (congrArg V.int (by omega)))
                have hd : f + j + 1 < (dp W ws).length := by rw [dp_length]; omega
                have t1 := (tab (f + j + 1) _ (by omega) (List.getElem?_eq_getElem hd)).1
                refine ⟨_, rfl, _, rfl, _, _, rfl, rfl, .inl ⟨by omega, by omega⟩, _, rfl, _, rfl, _, _, rfl, rfl, _, _, _, _, rfl, rfl, .inl (.inl eC), atI_nat (j := f + j + 1) (get_ints t1), _, _, rfl, rfl, ?_⟩
                refine ⟨_, rfl, ?_, rfl⟩
                rw [if_neg h1, List.getElem?_eq_getElem hd]
                rfl
            · rintro σ' H'' ⟨c, rfl, ec, rfl⟩
              rw [← ec] at eS
              rcases b with _ | ⟨d, k⟩
              · have hb : scan W (u + 1 + x) (j + 1) (ws.drop (f + (j + 1))) ((dp W ws).drop (f + (j + 1) + 1)) (some (c, j + 1)) = some pf := eS
                refine ⟨_, rfl, rfl, _, rfl, ite2 (fun _ => ?_) (fun h => absurd (decide_eq_true rfl) h)⟩
                refine ⟨_, rfl, _, rfl, _, _, rfl, rfl, _, rfl, _, _, rfl, rfl, _, rfl, _, rfl, _, _, _, f, rfl, rfl, eE, (by rw [List.length_map, le]; exact ixN_nat (by omega)), ?_⟩
                rw [set_ints]
                refine ⟨u + 1 + x, _, some (c, j + 1), cs, _, _, _, _, rfl, rfl, by omega, by omega, lc, by rw [List.length_set]; exact le, ?_, ?_, ?_, same_put sm fe _, by rw [upd_ne npe]; exact eC, upd_same⟩
                · intro p hp
                  injection hp with hp
                  subst hp
                  rw [List.getElem?_set_self (by omega)]
                  exact congrArg some (show ((f + j : Nat) : Int) + 1 - (f : Int) = ((j + 1 : Nat) : Int) by omega)
                · exact hb
                · intro j' p' hj' e'
                  rw [List.getElem?_set_ne (by omega)]
                  exact tab j' p' hj' e'
              · refine ⟨_, rfl, rfl, _, rfl, ite2 (fun e => absurd (of_decide_eq_true e) (by intro z; cases z)) (fun _ => ?_)⟩
                refine ⟨_, rfl, _, rfl, _, _, rfl, rfl, _, rfl, ite2 (fun e => ?_) (fun e => ?_)⟩
                · have hcd : c ≤ d := of_decide_eq_true e
                  have hb : scan W (u + 1 + x) (j + 1) (ws.drop (f + (j + 1))) ((dp W ws).drop (f + (j + 1) + 1)) (some (c, j + 1)) = some pf := by
                    rw [show better (some (d, k)) c (j + 1) = some (c, j + 1) from if_pos hcd] at eS
                    exact eS
                  refine ⟨_, rfl, _, rfl, _, _, rfl, rfl, _, rfl, _, _, rfl, rfl, _, rfl, _, rfl, _, _, _, f, rfl, rfl, eE, (by rw [List.length_map, le]; exact ixN_nat (by omega)), ?_⟩
                  rw [set_ints]
                  refine ⟨u + 1 + x, _, some (c, j + 1), cs, _, _, _, _, rfl, rfl, by omega, by omega, lc, by rw [List.length_set]; exact le, ?_, ?_, ?_, same_put sm fe _, by rw [upd_ne npe]; exact eC, upd_same⟩
                  · intro p hp
                    injection hp with hp
                    subst hp
                    rw [List.getElem?_set_self (by omega)]
                    exact congrArg some (show ((f + j : Nat) : Int) + 1 - (f : Int) = ((j + 1 : Nat) : Int) by omega)
                  · exact hb
                  · intro j' p' hj' e'
                    rw [List.getElem?_set_ne (by omega)]
                    exact tab j' p' hj' e'
                · have hcd : ¬ c ≤ d := fun h => e (decide_eq_true h)
                  rw [show better (some (d, k)) c (j + 1) = some (d, k) from if_neg hcd] at eS
                  exact ⟨u + 1 + x, _, some (d, k), cs, es, _, _, _, rfl, rfl, by omega, by omega, lc, le, be, eS, tab, sm, eC, eE⟩
        · rintro σ' H' ⟨u, rm, b, cs, es, y5, y9, y10, rfl, rfl, u1, u2, lc, le, be, eS, tab, sm, eC, eE⟩
          rw [scan_out W u f _ ws _ b (by omega)] at eS
          subst eS
          exact ⟨cs, es, pf, _, _, _, _, rfl, ep, lc, le, be pf rfl, tab, sm, eC, eE⟩
      · rintro σ' H' ⟨cs, es, p, y5, y7, y9, y10, rfl, ep, lc, le, be, tab, sm, eC, eE⟩
        refine ⟨_, rfl, _, rfl, _, rfl, _, _, _, f, rfl, rfl, eC, ?_, ?_⟩
        · rw [List.length_map, lc]; exact ixN_nat (by omega)
        rw [set_ints]
        refine ⟨_, es, _, _, _, _, _, _, rfl, ?_, le, ?_, same_put sm fc _, upd_same, ?_⟩
        · rw [List.length_set]; exact lc
        · intro j p' hj e'
          by_cases h : j = f
          · subst h
            rw [ep] at e'
            injection e' with e'
            subst e'
            refine ⟨?_, be⟩
            rw [List.getElem?_set_self (by omega)]
          · have := tab j p' (by omega) e'
            rw [List.getElem?_set_ne (fun z => h z.symm)]
            exact this
        · rw [upd_ne npe.symm]; exact eE
    · rintro σ' H' ⟨cs, es, y5, y6, y7, y8, y9, y10, rfl, lc, le, tab, sm, eC, eE⟩
      have tab' : ∀ (j : Nat) (p : Int × Nat), (dp W ws)[j]? = some p → es[j]? = some (p.2 : Int) := fun j p e => (tab j p (by omega) e).2
      have hw : ∀ x ∈ ws, x ≤ W := fun x hx => (hF x hx).2
      refine ⟨Nat.zero_le _, fun R nR => ?_⟩
      have fR : H R = none := sm.free nR
      have nRe : pe ≠ R := ne_of_none eE nR
      have lk : ((dp W ws).map (·.2)).length = ws.length := by rw [List.length_map, dp_length]
      refine ⟨_, rfl, _, rfl, by omega, by omega, for_range (lo := 0) (fun i σ' H' => ∃ (ks : List Nat) (y12 : Option V), σ' = [some (.ref a), some (.int W), some (.int ws.length), some (.ref pc), some (.ref pe), y5, y6, y7, y8, y9, y10, some (.ref R), y12] ∧ ks ++ cnts (((dp W ws).map (·.2)).drop ks.sum) 0 = cnts ((dp W ws).map (·.2)) 0 ∧ ks.sum ≤ ws.length ∧ (ks.sum = ws.length ∨ i ≤ ks.sum) ∧ ks.length ≤ i ∧ Same H H' ∧ H' pe = some (.lst (es.map V.int)) ∧ H' R = some (.lst (ks.map fun k => V.int (k : Nat))))
        ⟨[], none, rfl, rfl, Nat.zero_le _, .inr (Nat.le_refl _), Nat.le_refl _, sm.trans (same_upd nR), by rw [upd_ne nRe]; exact eE, upd_same⟩ ?_ ?_⟩
      · rintro i σ' H2 hi ⟨ks, y12, rfl, eK, k1, k2, k3, sm2, eE2, eR⟩
        have eR' := eR
        rw [ints_nats] at eR'
        refine ⟨_, rfl, _, _, rfl, .inl (.inl eR'), _, rfl, _, _, rfl, rfl, _, rfl, ite2 (fun e => ?_) (fun e => ?_)⟩
        · have h0 : (ks.map fun k : Nat => (k : Int)).sum < (ws.length : Int) := of_decide_eq_true e
          rw [sum_nat_int] at h0
          have h1 : ks.sum < ws.length := by omega
          have hd : ks.sum < (dp W ws).length := by rw [dp_length]; exact h1
          have ed := List.getElem?_eq_getElem hd
          obtain ⟨b1, b2⟩ := dp_take W ws hw _ _ ed
          have t1 := tab' _ _ ed
          have ek : ((dp W ws).map (·.2))[ks.sum]? = some ((dp W ws)[ks.sum]).2 := by rw [List.getElem?_map, ed]; rfl
          generalize ((dp W ws)[ks.sum]).2 = k at b1 b2 t1 ek
          have hat : atI (es.map V.int) ((ks.map fun k : Nat => (k : Int)).sum) = some (.int (k : Int)) := by rw [sum_nat_int]; exact atI_nat (get_ints t1)
          refine ⟨_, rfl, .inl ⟨rfl, _, .inl (.inl eR)⟩, _, rfl, _, rfl, _, _, rfl, .inl (.inl eR'), _, _, _, _, rfl, rfl, .inl (.inl eE2), hat, _, _, _, rfl, rfl, eR, ?_, ks ++ [k], _, rfl, ?_, ?_, ?_, ?_, same_put sm2 fR _, ?_, ?_⟩
          · rw [List.length_map]; exact small1000 (by omega)
          · rw [← eK, cnts_step _ ks.sum k ek b1, List.append_assoc, List.sum_append, List.sum_singleton]
            rfl
          · rw [List.sum_append, List.sum_singleton]; exact b2
          · rw [List.sum_append, List.sum_singleton]; omega
          · rw [List.length_append, List.length_singleton]; omega
          · rw [upd_ne nRe]; exact eE2
          · rw [upd_same, List.map_append]; rfl
        · have h0 : ¬ (ks.map fun k : Nat => (k : Int)).sum < (ws.length : Int) := fun h => e (decide_eq_true h)
          rw [sum_nat_int] at h0
          exact ⟨ks, _, rfl, eK, k1, .inl (by omega), by omega, sm2, eE2, eR⟩
      · rintro σ' H2 ⟨ks, y12, rfl, eK, k1, k2, k3, sm2, eE2, eR⟩
        have hs : ks.sum = ws.length := by
          rcases k2 with h | h
          · exact h
          · have : ws.length ≤ ks.sum := by
              have : ((ws.length : Int)).toNat ≤ ks.sum := h
              omega
            omega
        rw [hs, List.drop_of_length_le (by omega)] at eK
        have e2 : ks = cnts ((dp W ws).map (·.2)) 0 := by
          rw [← eK]
          show ks = ks ++ []
          rw [List.append_nil]
        subst e2
        exact ⟨_, rfl, q R _ H2 sm2 fR rfl eR⟩
theorem ok_row_ends (T : Tab K mg) : FnOk P w K mg base CX0 2 T.f_row_ends T.d_row_ends ["widths", "width"] (sp_row_ends K) := by
  refine T.F_row_ends.ok sc_row_ends (fun vs H Q E h => ?_) (fun cdv A outer s H vs Q E hr h => ?_)
  · obtain ⟨a, ws, W, rfl, _⟩ := h
    rfl
  · obtain ⟨a, ws, W, rfl, hS, hn, hW, hF, q⟩ := h
    refine ⟨_, (pss_cons (ps_set (i := 2) sc_row_ends.nd rfl (.inl rfl) (pe_op op_rep (pe_lst (pa_cons pe_int pa_nil)) (pe_callB call_len_seq (by rfl) T.m_len PySem.boot_len (pa_cons (pv 0) pa_nil))))
      (pss_cons (ps_set (i := 3) sc_row_ends.nd rfl (.inl rfl) (pe_op op_rep (pe_lst (pa_cons (pe_callB call_len_seq (by rfl) T.m_len PySem.boot_len (pa_cons (pv 0) pa_nil)) pa_nil)) (pe_callB call_len_seq (by rfl) T.m_len PySem.boot_len (pa_cons (pv 0) pa_nil))))
      (pss_cons (ps_expr (pe_call (ok_fill_ends T) (hr.mono (by decide)) (by rfl) T.g_fill_ends T.F_fill_ends.kp T.b_fill_ends .nil pass0 (pa_cons (pv 0) (pa_cons (pv 1) (pa_cons (pv 2) (pa_cons (pv 3) (pa_cons (pe_tup (pa_cons pe_int (pa_cons (pe_callB call_len_seq (by rfl) T.m_len PySem.boot_len (pa_cons (pv 0) pa_nil)) pa_nil))) pa_nil)))))))
      (pss_one (ps_ret (pv 3)))))), ?_⟩
    have ln : (ws.map V.int).length = ws.length := List.length_map ..
    refine ⟨(by show 1 ≤ sizeLine; decide), fun p1 n1 => ?_⟩
    have s1 := same_upd (o := .lst [V.int 0]) n1
    refine ⟨_, rfl, _, _, rfl, .inl (s1.seq hS), ?_⟩
    rw [ln]
    have b63 : (2 : Int) ^ 63 = 9223372036854775808 := by decide
    refine ⟨p1, _, _, rfl, rfl, upd_same, by omega, by omega, ?_, fun pc nc => ?_⟩
    · rw [Int.toNat_natCast]; exact Nat.le_of_lt (small1000 (by show 1 * ws.length ≤ 1000; omega))
    rw [Int.toNat_natCast, flat_rep, rep_int]
    have s2 := s1.trans (same_upd (o := .lst ((List.replicate ws.length (0 : Int)).map V.int)) nc)
    have ec : upd (upd H p1 (.lst [V.int 0])) pc (.lst ((List.replicate ws.length (0 : Int)).map V.int)) pc = some (.lst ((List.replicate ws.length (0 : Int)).map V.int)) := upd_same
    have fc : H pc = none := s1.free nc
    generalize upd (upd H p1 (.lst [V.int 0])) pc (.lst ((List.replicate ws.length (0 : Int)).map V.int)) = H2 at s2 ec
    refine ⟨_, rfl, _, _, rfl, .inl (s2.seq hS), ?_⟩
    rw [ln]
    refine ⟨(by show 1 ≤ sizeLine; decide), fun p3 n3 => ?_⟩
    have s3 := same_upd (o := .lst [V.int ws.length]) n3
    refine ⟨_, rfl, _, _, rfl, .inl ((s2.trans s3).seq hS), ?_⟩
    rw [ln]
    refine ⟨p3, _, _, rfl, rfl, upd_same, by omega, by omega, ?_, fun pe ne => ?_⟩
    · rw [Int.toNat_natCast]; exact Nat.le_of_lt (small1000 (by show 1 * ws.length ≤ 1000; omega))
    rw [Int.toNat_natCast, flat_rep, rep_int]
    have s4 := s3.trans (same_upd (o := .lst ((List.replicate ws.length (ws.length : Int)).map V.int)) ne)
    have fe : H pe = none := (s2.trans s3).free ne
    have npe : pc ≠ pe := ne_of_none (s3 _ _ ec) ne
    have ee : upd (upd H2 p3 (.lst [V.int ws.length])) pe (.lst ((List.replicate ws.length (ws.length : Int)).map V.int)) pe = some (.lst ((List.replicate ws.length (ws.length : Int)).map V.int)) := upd_same
    generalize upd (upd H2 p3 (.lst [V.int ws.length])) pe (.lst ((List.replicate ws.length (ws.length : Int)).map V.int)) = H4 at s4 ee
    have s04 := s2.trans s4
    refine ⟨_, rfl, _, rfl, _, rfl, _, rfl, _, rfl, _, _, rfl, .inl (s04.seq hS), ?_⟩
    rw [ln]
    refine ⟨(by show 2 ≤ sizeLine; decide), fun ps np => ?_⟩
    have s5 := same_upd (o := .tup [.int 0, .int ws.length]) np
    refine ⟨H, a, pc, pe, ps, ws, _, _, W, rfl, s04.trans s5, hS, hn, hW, hF, fc, fe, npe, (s4.trans s5) _ _ ec, s5 _ _ ee, List.length_replicate, List.length_replicate, upd_same, fun es H' s he le tab => ?_⟩
    exact ⟨_, rfl, q pe es H' s fe he le tab⟩
theorem ok_rows (T : Tab K mg) : FnOk P w K mg base CX0 2 T.f_rows T.d_rows ["_law_tokens", "_law_limit"] (sp_rows K) := by
  refine T.F_rows.ok sc_rows (fun vs H Q E h => ?_) (fun cdv A outer s H vs Q E hr h => ?_)
  · obtain ⟨a, zs, W, rfl, _⟩ := h
    rfl
  · obtain ⟨a, zs, W, rfl, hS, hT, hW, hF, q⟩ := h
    obtain ⟨t1, t2, t3⟩ := id hT
    refine ⟨_, (pss_cons (ps_set (i := 2) sc_rows.nd rfl (.inl rfl) (pe_lst pa_nil))
      (pss_cons (ps_set (i := 3) sc_rows.nd rfl (.inl rfl) pe_int)
      (pss_cons (ps_for PassesOwn.never rfl (pi_list (pe_call (ok_cut T) (hr.mono (by decide)) (by rfl) T.g_cut T.F_cut.kp T.b_cut .nil pass0 (pa_cons (pe_lc (own := [("_law_token_here", 5)]) (g := gName 5) (by rfl) sc_rows.nd (pi_list (pv 0)) (blkOk_by (own := [("_law_token_here", 5)]) (N := N_rows) (sc := defScope s_rows) (by decide +kernel)) (fun _ _ _ _ _ => pg_name (i := 5) sc_rows.nd rfl (.inl rfl)) (fun _ _ _ _ _ => pts_nil) (fun _ _ _ _ _ => (pe_call (ok_width T) (hr.mono (by decide)) (by rfl) T.g_width T.F_width.kp T.b_width .nil pass0 (pa_cons (pv 5) pa_nil)))) (pa_cons (pv 1) pa_nil)))) (pg_name (i := 4) sc_rows.nd rfl (.inl rfl))
      (pss_cons (ps_expr (pe_bm PySem.F.plainAttrs_list PySem.F.slot_list_append PySem.F.type_list_append mt_append (pv 2) (pa_cons (pe_join pe_str (pe_slice sl_list (pv 0) (po_some (pv 3)) (po_some (pe_op op_add (pv 3) (pv 4))))) pa_nil)))
        (pss_one (ps_set (i := 3) sc_rows.nd rfl (.inl rfl) (pe_op op_add (pv 3) (pv 4))))))
      (pss_one (ps_ret (pv 2)))))), ?_⟩
    have lw : (wids zs).length = zs.length := List.length_map ..
    have hS0 := hS
    refine ⟨Nat.zero_le _, fun R fR => ?_⟩
    have s1 := same_upd (o := .lst []) fR
    have e1 : (upd H R (.lst [])) R = some (.lst []) := upd_same
    generalize upd H R (.lst []) = H1 at s1 e1
    replace hS := s1.seq hS
    refine ⟨_, rfl, a, rfl, ⟨_, hS⟩, fun D nD0 => ?_⟩
    refine lc_list (xs := zs.map V.str) (fun i H' => Same H1 H' ∧ H' D = some (.lst ((wids (zs.take i)).map V.int))) ⟨same_upd nD0, upd_same⟩ (fun i H' _ hh => Same.seq hh.1 hS) ?_ ?_
    · rintro i x H' hx ⟨sm, eD⟩
      obtain ⟨z, rfl, hz⟩ := get_map hx
      have hz1 := (t3 z (List.mem_of_getElem? hz)).1
      have hi : i < zs.length := (List.getElem?_eq_some_iff.mp hz).1
      refine ⟨rfl, ?_⟩
      refine ⟨_, rfl, z, rfl, Nat.le_of_lt (small1000 (by omega)), _, eD, ?_, same_put sm nD0 _, ?_⟩
      · rw [List.length_map]; unfold wids; rw [List.length_map, List.length_take]; exact small1000 (by omega)
      · rw [upd_same, wids_snoc hz, List.map_append]; rfl
    rintro H' ⟨sm, eD⟩
    rw [wids_all] at eD
    refine ⟨_, rfl, D, wids zs, W, rfl, .inl (.inl eD), by omega, by omega, fits_of hF, fun p ks H2 s2 np ek ep => ?_⟩
    have ekt : ks = takes W zs := ek
    subst ekt
    refine ⟨p, rfl, ⟨_, .inl (.inl ep)⟩, for_list (xs := (cnts (takes W zs) 0).map fun k => V.int (k : Nat)) (fun i σ' H' => ∃ (at' : Nat) (rs : List Str) (y4 : Option V), σ' = [some (.ref a), some (.int W), some (.ref R), some (.int at'), y4, none] ∧ at' ≤ zs.length ∧ rs ++ rows (zs.drop at') ((takes W zs).drop at') 0 = setL W zs ∧ (cnts (takes W zs) 0).drop i = cnts ((takes W zs).drop at') 0 ∧ rs.length ≤ at' ∧ Same H H' ∧ H' R = some (.lst (rs.map V.str)) ∧ H' p = some (.lst ((cnts (takes W zs) 0).map fun k => V.int (k : Nat))))
      ⟨0, [], none, rfl, Nat.zero_le _, rfl, rfl, Nat.le_refl _, (s1.trans sm).trans s2, s2 _ _ (sm _ _ e1), ep⟩ (fun i σ' H' _ hh => ?_) ?_ ?_⟩
    · obtain ⟨_, _, _, _, _, _, _, _, _, _, e⟩ := hh
      exact .inl (.inl e)
    · rintro i x σ' H' hx ⟨at', rs, y4, rfl, ha, er, ecn, lr, sm2, eR, eP⟩
      obtain ⟨k, rfl, hk⟩ : ∃ k : Nat, x = .int (k : Int) ∧ (cnts (takes W zs) 0)[i]? = some k := by
        rw [List.getElem?_map] at hx
        cases e : (cnts (takes W zs) 0)[i]? with
        | none => rw [e] at hx; cases hx
        | some k => rw [e] at hx; exact ⟨k, (Option.some.inj hx).symm, rfl⟩
      have hil := (List.getElem?_eq_some_iff.mp hk).1
      have hik := (List.getElem?_eq_some_iff.mp hk).2
      have hat : at' < zs.length := by
        rcases Nat.lt_or_ge at' zs.length with h | h
        · exact h
        · rw [List.drop_of_length_le (show (takes W zs).length ≤ at' by rw [takes_len]; exact h), List.drop_eq_getElem_cons hil] at ecn
          cases ecn
      obtain ⟨q0, ed, et, k1, k2⟩ := takes_at W zs hF at' hat
      generalize q0.2 = k' at et k1 k2
      have hst := cnts_step (takes W zs) at' k' et k1
      rw [hst, List.drop_eq_getElem_cons hil, hik] at ecn
      injection ecn with i1 i2
      subst i1
      have hsub : ∀ z ∈ (zs.drop at').take k, z.length ≤ 1000 := fun z hz => Nat.le_trans (t3 z (List.mem_of_mem_drop (List.mem_of_mem_take hz))).1 (by decide)
      have hfit2 := join_fit ((zs.drop at').take k) hsub (by rw [List.length_take, List.length_drop]; omega)
      refine ⟨_, rfl, .inl ⟨rfl, _, .inl (.inl eR)⟩, ⟨_, rfl⟩, _, rfl, _, rfl, _, rfl, _, rfl, _, rfl, _, _, rfl, rfl, _, rfl, _, _, rfl, sm2.seq hS0, fun p2 np2 => ?_⟩
      rw [cut_strs zs at' k k2]
      have s3 := same_upd (o := .lst (((zs.drop at').take k).map V.str)) np2
      refine ⟨_, p2, _, rfl, rfl, .inl (.inl (.inl upd_same)), hfit2, _, _, _, rfl, rfl, s3 _ _ eR, ?_, ?_⟩
      · rw [List.length_map]; exact small1000 (by omega)
      refine ⟨_, rfl, _, rfl, _, _, rfl, rfl, at' + k, rs ++ [Txt.join " " ((zs.drop at').take k)], _, rfl, k2, ?_, i2, ?_, same_put (sm2.trans s3) fR _, ?_, ?_⟩
      · rw [← er, rows_step zs (takes W zs) at' k hat et k1, List.append_assoc]
        rfl
      · rw [List.length_append, List.length_singleton]
        omega
      · rw [upd_same, List.map_append]; rfl
      · by_cases h : p = R
        · subst h
          rw [sm _ _ e1] at np
          cases np
        · rw [upd_ne h]; exact s3 _ _ eP
    · rintro σ' H' ⟨at', rs, y4, rfl, ha, er, ecn, lr, sm2, eR, eP⟩
      rw [List.length_map, List.drop_length] at ecn
      have h0 := cnts_ne ecn.symm
      have hl := congrArg List.length h0
      rw [List.length_drop, takes_len, List.length_nil] at hl
      have : at' = zs.length := by omega
      subst this
      rw [List.drop_length, rows_end, List.append_nil] at er
      subst er
      exact ⟨_, rfl, q R H' sm2 fR eR⟩
theorem ok_token (T : Tab K mg) : FnOk P w K mg base CX0 2 T.f_token T.d_token ["_law_source_here", "_law_wide"] (sp_token K) := by
  refine T.F_token.ok sc_token (fun vs H Q E h => ?_) (fun cdv A outer s H vs Q E hr h => ?_)
  · obtain ⟨a, w, rfl, _⟩ := h
    rfl
  · obtain ⟨a, w, rfl, hs, w1, w2, q⟩ := h
    refine ⟨_, (pss_cons (ps_if (PW.pt (pw_or (pt_cmpR op_gt (pv 1) pe_int (nomark _)) (pw_or1 (pt_cmpR op_eq (pe_call (ok_pick T) (hr.mono (by decide)) (by rfl) T.g_pick T.F_pick.kp T.b_pick .nil pass0 (pa_cons (pv 0) (pa_cons pe_int pa_nil))) pe_int (nomark _)))))
      (pss_one (ps_ret (pe_op op_add_str (pe_op op_rep_str (pe_ix ix_str pe_str (pe_call (ok_pick T) (hr.mono (by decide)) (by rfl) T.g_pick T.F_pick.kp T.b_pick .nil pass0 (pa_cons (pv 0) (pa_cons pe_int pa_nil))) (fun _ _ => rfl)) (pe_op op_fdiv (pv 1) pe_int)) (pe_op op_rep_str pe_str (pe_op op_sub (pv 1) (pe_op op_mul (pe_op op_fdiv (pv 1) pe_int) pe_int))))))
      pss_nil)
      (pss_one (ps_ret (pe_op op_rep_str (pe_ix ix_str pe_str (pe_call (ok_pick T) (hr.mono (by decide)) (by rfl) T.g_pick T.F_pick.kp T.b_pick .nil pass0 (pa_cons (pv 0) (pa_cons pe_int pa_nil))) (fun _ _ => rfl)) (pv 1))))), ?_⟩
    have hsp : ("n" : Str) = ⟨#[110]⟩ := rfl
    refine ⟨_, rfl, _, _, rfl, rfl, _, rfl, ite2 (fun e => ?_) (fun e => ?_)⟩
    · have el : ("mw" : Str).length = 2 := by decide +kernel
      refine ⟨_, rfl, _, _, rfl, hs, by decide, by decide, fun r H1 s1 b1 p1 p2 => ?_⟩
      have hj : r.toNat < ("mw" : Str).cps.toList.length := by
        have : ("mw" : Str).length = ("mw" : Str).cps.toList.length := rfl
        omega
      have hc := sign_ok "mw" (by decide +kernel) (List.getElem_mem hj)
      refine ⟨_, _, _, rfl, rfl, (by rw [el]; exact Nat.le_of_lt (small1000 (by decide))), at_of' (by omega) (List.getElem?_eq_getElem hj), ?_⟩
      generalize ("mw" : Str).cps.toList[r.toNat] = c at hc
      have h1 := ok_mul1 (n := w / 2) (N := 20) hc (by omega)
      have h2 := ok_mul1 (c := 110) (n := w - w / 2 * 2) (N := 1) (by decide) (by omega)
      refine ⟨_, rfl, _, _, rfl, rfl, ⟨by decide, by decide⟩, _, _, rfl, rfl, mul_ok (by show 1 ≤ 100; decide) (by omega) (by omega), ?_⟩
      refine ⟨_, rfl, _, rfl, _, _, rfl, rfl, ⟨by decide, by decide⟩, _, _, rfl, rfl, .inr ⟨by decide, by decide⟩, _, _, rfl, rfl, "n", _, rfl, rfl, mul_ok (by decide +kernel) (by omega) (by omega), _, _, rfl, rfl, ?_, ?_⟩
      · exact Nat.le_of_lt (small1000 (by rw [hsp]; omega))
      · exact q _ H1 s1 (But.trans (But.refl a H) b1) (by rw [len_app, hsp]; omega) (ok_app _ _ h1.2 (by rw [hsp]; exact h2.2))
    · have hw : ¬ 20 < w := fun h => e (decide_eq_true h)
      refine ⟨_, rfl, _, _, rfl, hs, by decide, by decide, fun r0 H0 s0 b0 p1 p2 => ?_⟩
      refine ⟨rfl, _, rfl, ite2 (fun e => ?_) (fun e => ?_)⟩
      · have el : ("mw" : Str).length = 2 := by decide +kernel
        refine ⟨_, rfl, _, _, rfl, s0, by decide, by decide, fun r H1 s1 b1 p1 p2 => ?_⟩
        have hj : r.toNat < ("mw" : Str).cps.toList.length := by
          have : ("mw" : Str).length = ("mw" : Str).cps.toList.length := rfl
          omega
        have hc := sign_ok "mw" (by decide +kernel) (List.getElem_mem hj)
        refine ⟨_, _, _, rfl, rfl, (by rw [el]; exact Nat.le_of_lt (small1000 (by decide))), at_of' (by omega) (List.getElem?_eq_getElem hj), ?_⟩
        generalize ("mw" : Str).cps.toList[r.toNat] = c at hc
        have h1 := ok_mul1 (n := w / 2) (N := 20) hc (by omega)
        have h2 := ok_mul1 (c := 110) (n := w - w / 2 * 2) (N := 1) (by decide) (by omega)
        refine ⟨_, rfl, _, _, rfl, rfl, ⟨by decide, by decide⟩, _, _, rfl, rfl, mul_ok (by show 1 ≤ 100; decide) (by omega) (by omega), ?_⟩
        refine ⟨_, rfl, _, rfl, _, _, rfl, rfl, ⟨by decide, by decide⟩, _, _, rfl, rfl, .inr ⟨by decide, by decide⟩, _, _, rfl, rfl, "n", _, rfl, rfl, mul_ok (by decide +kernel) (by omega) (by omega), _, _, rfl, rfl, ?_, ?_⟩
        · exact Nat.le_of_lt (small1000 (by rw [hsp]; omega))
        · exact q _ H1 s1 (But.trans b0 b1) (by rw [len_app, hsp]; omega) (ok_app _ _ h1.2 (by rw [hsp]; exact h2.2))
      · have el : ("abnx.1" : Str).length = 6 := by decide +kernel
        refine ⟨_, rfl, _, _, rfl, s0, by decide, by decide, fun r H1 s1 b1 p1 p2 => ?_⟩
        have hj : r.toNat < ("abnx.1" : Str).cps.toList.length := by
          have : ("abnx.1" : Str).length = ("abnx.1" : Str).cps.toList.length := rfl
          omega
        have hc := sign_ok "abnx.1" (by decide +kernel) (List.getElem_mem hj)
        refine ⟨_, _, _, rfl, rfl, (by rw [el]; exact Nat.le_of_lt (small1000 (by decide))), at_of' (by omega) (List.getElem?_eq_getElem hj), ?_⟩
        generalize ("abnx.1" : Str).cps.toList[r.toNat] = c at hc
        have h1 := ok_mul1 (n := w) (N := 20) hc (by omega)
        exact ⟨_, rfl, _, _, rfl, rfl, mul_ok (by show 1 ≤ 100; decide) (by omega) (by omega), q _ H1 s1 (b0.trans b1) (by omega) h1.2⟩
theorem ok_set_lines (T : Tab K mg) : FnOk P w K mg base CX0 3 T.f_set_lines T.d_set_lines ["tokens", "width"] (sp_set_lines K) := by
  refine T.F_set_lines.ok sc_set_lines (fun vs H Q E h => ?_) (fun cdv A outer s H vs Q E hr h => ?_)
  · obtain ⟨a, zs, W, rfl, _⟩ := h
    rfl
  · obtain ⟨a, zs, W, rfl, hS, hT, hW, hF, q⟩ := h
    obtain ⟨t1, t2, t3⟩ := id hT
    refine ⟨_, (C8.pss_cut (ps_set (i := 2) sc_set_lines.nd rfl (.inl rfl) (pe_call (ok_row_ends T) (hr.mono (by decide)) (by rfl) T.g_row_ends T.F_row_ends.kp T.b_row_ends .nil pass0 (pa_cons (pe_lc (own := [("token", 5)]) (g := gName 5) (by rfl) sc_set_lines.nd (pi_or (pi_list (pv 0)) (pi_tup (pv 0))) (blkOk_by (own := [("token", 5)]) (N := N_set_lines) (sc := defScope s_set_lines) (by decide +kernel)) (fun _ _ _ _ _ => pg_name (i := 5) sc_set_lines.nd rfl (.inl rfl)) (fun _ _ _ _ _ => pts_nil) (fun _ _ _ _ _ => (pe_call (ok_token_width T) (hr.mono (by decide)) (by rfl) T.g_token_width T.F_token_width.kp T.b_token_width .nil pass0 (pa_cons (pv 5) pa_nil)))) (pa_cons (pv 1) pa_nil))))
      (pss_cons (ps_set (i := 3) sc_set_lines.nd rfl (.inl rfl) (pe_lst pa_nil))
      (pss_cons (ps_set (i := 4) sc_set_lines.nd rfl (.inl rfl) pe_int)
      (pss_cons (ps_while PassesOwn.never (pt_cmpR op_lt (pv 4) (pe_callB call_len_seq (by rfl) T.m_len PySem.boot_len (pa_cons (pv 0) pa_nil)) (nomark _))
      (C8.pss_cut (ps_expr (pe_bm PySem.F.plainAttrs_list PySem.F.slot_list_append PySem.F.type_list_append mt_append (pv 3) (pa_cons (pe_join pe_str (pe_callTy call_list_of (by rfl) T.m_list (by decide +kernel) (pa_cons (pe_slice (SlR.or sl_list sl_tupA) (pv 0) (po_some (pv 4)) (po_some (pe_ix ix_list (pv 2) (pv 4) (fun _ _ => rfl)))) pa_nil))) pa_nil)))
        (pss_one (ps_set (i := 4) sc_set_lines.nd rfl (.inl rfl) (pe_ix ix_list (pv 2) (pv 4) (fun _ _ => rfl))))))
      (pss_one (ps_ret (pe_callTy call_tuple_of (by rfl) T.m_tuple (by decide +kernel) (pa_cons (pv 3) pa_nil)))))))), ?_⟩
    have hfit : Fits W (wids zs) := fits_of hF
    have lw : (wids zs).length = zs.length := List.length_map ..
    have hS0 := hS
    have lz : (zs.map V.str).length = zs.length := List.length_map ..
    refine ⟨fun σ' H' => ∃ (pe : Addr) (es : List Int), σ' = [some (.ref a), some (.int W), some (.ref pe), none, none, none] ∧ Same H H' ∧ H' pe = some (.lst (es.map V.int)) ∧ H pe = none ∧ es.length = zs.length ∧ (∀ (i : Nat) (q : Int × Nat), (dp W (wids zs))[i]? = some q → es[i]? = some ((i : Int) + (q.2 : Int))), ?_, ?_⟩
    · rcases hS with hS | hS
      · refine .inl ⟨_, rfl, a, rfl, ⟨_, hS⟩, fun D nD0 => ?_⟩
        refine lc_list (xs := zs.map V.str) (fun i H' => Same H H' ∧ H' D = some (.lst ((wids (zs.take i)).map V.int))) ⟨same_upd nD0, upd_same⟩ (fun i H' _ hh => Same.seq hh.1 hS) ?_ ?_
        · rintro i x H' hx ⟨sm, eD⟩
          obtain ⟨z, rfl, hz⟩ := get_map hx
          have hz1 := (t3 z (List.mem_of_getElem? hz)).1
          have hi : i < zs.length := (List.getElem?_eq_some_iff.mp hz).1
          refine ⟨rfl, ?_⟩
          refine ⟨_, rfl, z, rfl, Nat.le_of_lt (small1000 (by omega)), _, eD, ?_, same_put sm nD0 _, ?_⟩
          · rw [List.length_map]; unfold wids; rw [List.length_map, List.length_take]; exact small1000 (by omega)
          · rw [upd_same, wids_snoc hz, List.map_append]; rfl
        rintro H' ⟨sm, eD⟩
        rw [wids_all] at eD
        exact ⟨_, rfl, D, wids zs, W, rfl, .inl (.inl eD), by omega, by omega, hfit, fun p es H2 s2 np ep le tab => ⟨p, es, rfl, sm.trans s2, ep, sm.free np, by omega, tab⟩⟩
      · refine .inr ⟨_, rfl, a, rfl, ⟨_, hS⟩, fun D nD0 => ?_⟩
        refine lc_tup (xs := zs.map V.str) (fun i H' => Same H H' ∧ H' D = some (.lst ((wids (zs.take i)).map V.int))) ⟨same_upd nD0, upd_same⟩ (fun i H' _ hh => same_seqT hh.1 hS) ?_ ?_
        · rintro i x H' hx ⟨sm, eD⟩
          obtain ⟨z, rfl, hz⟩ := get_map hx
          have hz1 := (t3 z (List.mem_of_getElem? hz)).1
          have hi : i < zs.length := (List.getElem?_eq_some_iff.mp hz).1
          refine ⟨rfl, ?_⟩
          refine ⟨_, rfl, z, rfl, Nat.le_of_lt (small1000 (by omega)), _, eD, ?_, same_put sm nD0 _, ?_⟩
          · rw [List.length_map]; unfold wids; rw [List.length_map, List.length_take]; exact small1000 (by omega)
          · rw [upd_same, wids_snoc hz, List.map_append]; rfl
        rintro H' ⟨sm, eD⟩
        rw [wids_all] at eD
        exact ⟨_, rfl, D, wids zs, W, rfl, .inl (.inl eD), by omega, by omega, hfit, fun p es H2 s2 np ep le tab => ⟨p, es, rfl, sm.trans s2, ep, sm.free np, by omega, tab⟩⟩
    rintro σ' H1 ⟨pe, es, rfl, s1, eE, fe, le, tab⟩
    refine ⟨Nat.zero_le _, fun R nR => ?_⟩
    have fR : H R = none := s1.free nR
    have nRE : R ≠ pe := fun e => by rw [e, eE] at nR; cases nR
    refine while_by (fun σ' H' => ∃ (i : Nat) (rs : List Str), σ' = [some (.ref a), some (.int W), some (.ref pe), some (.ref R), some (.int i), none] ∧ i ≤ zs.length ∧ rs ++ rows (zs.drop i) ((takes W zs).drop i) 0 = setL W zs ∧ rs.length ≤ i ∧ Same H H' ∧ H' R = some (.lst (rs.map V.str)) ∧ H' pe = some (.lst (es.map V.int))) (fun σ' _ => match σ' with | [_, _, _, _, some (.int i), _] => (zs.length - i.toNat) | _ => 0)
      ⟨0, [], rfl, Nat.zero_le _, rfl, Nat.le_refl _, s1.trans (same_upd nR), upd_same, by rw [upd_ne nRE.symm]; exact eE⟩ ?_ ?_
    · rintro σ' H' ⟨i, rs, rfl, hi, er, lr, sm, eR, eE⟩
      refine ⟨_, rfl, _, rfl, _, _, rfl, same_sq sm hS0, _, _, rfl, rfl, _, rfl, ite2 (fun e => ?_) (fun e => ?_)⟩
      · have h0 : (i : Int) < ((zs.map V.str).length : Int) := of_decide_eq_true e
        have hi2 : i < zs.length := by omega
        obtain ⟨q0, ed, ek, k1, k2⟩ := takes_at W zs hF i hi2
        have ee := tab i q0 ed
        generalize q0.2 = k at ek k1 k2 ee
        have hat : atI (es.map V.int) (i : Int) = some (.int ((i : Int) + (k : Int))) := atI_nat (get_ints ee)
        have hsub : ∀ z ∈ (zs.drop i).take k, z.length ≤ 1000 := fun z hz => Nat.le_trans (t3 z (List.mem_of_mem_drop (List.mem_of_mem_take hz))).1 (by decide)
        have hfit2 := join_fit ((zs.drop i).take k) hsub (by rw [List.length_take, List.length_drop]; omega)
        refine ⟨fun σ' H'' => σ' = [some (.ref a), some (.int W), some (.ref pe), some (.ref R), some (.int i), none] ∧ Same H H'' ∧ H'' R = some (.lst ((rs ++ [Txt.join " " ((zs.drop i).take k)]).map V.str)) ∧ H'' pe = some (.lst (es.map V.int)), ?_, ?_⟩
        · have fin : ∀ (l : Addr) (H2 : Hp), Same H' H2 → H2 R = some (.lst (rs.map V.str)) ∧ H2 pe = some (.lst (es.map V.int)) ∧ Same H H2 := fun l H2 s2 => ⟨s2 _ _ eR, s2 _ _ eE, sm.trans s2⟩
          rcases same_sq sm hS0 with hL | hL
          · refine ⟨_, rfl, .inl ⟨rfl, _, .inl (.inl eR)⟩, ⟨_, rfl⟩, _, rfl, _, rfl, _, rfl, _, rfl, _, rfl, _, _, _, _, rfl, rfl, .inl (.inl eE), hat, _, rfl, .inl ⟨_, _, rfl, hL, fun p np => ?_⟩⟩
            rw [cut_strs zs i k k2]
            refine ⟨_, _, rfl, .inl (.inl (.inl upd_same)), fun l nl => ?_⟩
            obtain ⟨f1, f2, f3⟩ := fin l _ ((same_upd np).trans (same_upd (o := .lst (((zs.drop i).take k).map V.str)) nl))
            refine ⟨_, l, _, rfl, rfl, .inl (.inl (.inl upd_same)), hfit2, _, _, _, rfl, rfl, f1, ?_, rfl, same_put f3 fR _, ?_, ?_⟩
            · rw [List.length_map]; exact small1000 (by omega)
            · rw [upd_same, List.map_append]; rfl
            · rw [upd_ne nRE.symm]; exact f2
          · refine ⟨_, rfl, .inl ⟨rfl, _, .inl (.inl eR)⟩, ⟨_, rfl⟩, _, rfl, _, rfl, _, rfl, _, rfl, _, rfl, _, _, _, _, rfl, rfl, .inl (.inl eE), hat, _, rfl, .inr ⟨_, _, rfl, hL, fun hw => ?_, fun hw p np => ?_⟩⟩
            · have hall : (zs.drop i).take k = zs := by
                rw [HT.sIx_nat, show (i : Int) + (k : Int) = ((i + k : Nat) : Int) by omega, HT.sIx_nat, lz] at hw
                have h0 : i = 0 := by omega
                have h1 : k = zs.length := by omega
                subst h0
                rw [h1, List.drop_zero, List.take_length]
              rw [hall] at hfit2 ⊢
              refine ⟨_, _, rfl, .inr hL, fun l nl => ?_⟩
              obtain ⟨f1, f2, f3⟩ := fin l _ (same_upd (o := .lst (zs.map V.str)) nl)
              refine ⟨_, l, _, rfl, rfl, .inl (.inl (.inl upd_same)), hfit2, _, _, _, rfl, rfl, f1, ?_, rfl, same_put f3 fR _, ?_, ?_⟩
              · rw [List.length_map]; exact small1000 (by omega)
              · rw [upd_same, List.map_append]; rfl
              · rw [upd_ne nRE.symm]; exact f2
            · rw [cut_strs zs i k k2]
              refine ⟨_, _, rfl, .inr (.inl (.inl upd_same)), fun l nl => ?_⟩
              obtain ⟨f1, f2, f3⟩ := fin l _ ((same_upd np).trans (same_upd (o := .lst (((zs.drop i).take k).map V.str)) nl))
              refine ⟨_, l, _, rfl, rfl, .inl (.inl (.inl upd_same)), hfit2, _, _, _, rfl, rfl, f1, ?_, rfl, same_put f3 fR _, ?_, ?_⟩
              · rw [List.length_map]; exact small1000 (by omega)
              · rw [upd_same, List.map_append]; rfl
              · rw [upd_ne nRE.symm]; exact f2
        · rintro σ' H'' ⟨rfl, sm2, eR2, eE2⟩
          refine ⟨_, rfl, _, rfl, _, _, _, _, rfl, rfl, .inl (.inl eE2), hat, ⟨i + k, _, rfl, k2, ?_, ?_, sm2, eR2, eE2⟩, ?_⟩
          · rw [← er, rows_step zs (takes W zs) i k hi2 ek k1, List.append_assoc]
            rfl
          · rw [List.length_append, List.length_singleton]
            omega
          · show zs.length - ((i : Int) + (k : Int)).toNat < zs.length - (i : Int).toNat
            omega
      · have h0 : ¬ (i : Int) < ((zs.map V.str).length : Int) := fun h => e (decide_eq_true h)
        have hi2 : i = zs.length := by omega
        subst hi2
        rw [List.drop_length, rows_end, List.append_nil] at er
        subst er
        exact ⟨_, rfl, _, _, rfl, .inl ⟨.inl (.inl eR), fun p np => q p _ (sm.trans (same_upd np)) (sm.free np) upd_same⟩⟩
    · rintro σ' H' Q Q' hq ⟨v, hv, w, hw, p, xs, e, hs, i, j, e1, e2, k, e3, hk⟩
      exact ⟨v, hv, w, hw, p, xs, e, hs, i, j, e1, e2, k, e3, hq _ _ hk⟩
theorem ok_some_tokens (T : Tab K mg) : FnOk P w K mg base CX0 3 T.f_some_tokens T.d_some_tokens ["_law_source_here"] (sp_some_tokens K) := by
  refine T.F_some_tokens.ok sc_some_tokens (fun vs H Q E h => ?_) (fun cdv A outer s H vs Q E hr h => ?_)
  · obtain ⟨a, rfl, _⟩ := h
    rfl
  · obtain ⟨a, rfl, hs, q⟩ := h
    refine ⟨_, (pss_cons (ps_set (i := 1) sc_some_tokens.nd rfl (.inl rfl) (pe_op op_add pe_int (pe_call (ok_pick T) (hr.mono (by decide)) (by rfl) T.g_pick T.F_pick.kp T.b_pick .nil pass0 (pa_cons (pv 0) (pa_cons pe_int pa_nil)))))
      (pss_cons (ps_set (i := 2) sc_some_tokens.nd rfl (.inl rfl) (pe_call (ok_pick T) (hr.mono (by decide)) (by rfl) T.g_pick T.F_pick.kp T.b_pick .nil pass0 (pa_cons (pv 0) (pa_cons pe_int pa_nil))))
      (pss_cons (ps_set (i := 3) sc_some_tokens.nd rfl (.inl rfl) (pe_op op_add pe_int (pe_call (ok_pick T) (hr.mono (by decide)) (by rfl) T.g_pick T.F_pick.kp T.b_pick .nil pass0 (pa_cons (pv 0) (pa_cons pe_int pa_nil)))))
      (pss_cons (ps_set (i := 4) sc_some_tokens.nd rfl (.inl rfl) (pe_lst pa_nil))
      (pss_cons (ps_for PassesOwn.never rfl (pi_range1 (by rfl) T.m_range (pa_cons (pv 1) pa_nil)) (pg_name (i := 5) sc_some_tokens.nd rfl (.inl rfl))
      (pss_cons (ps_set (i := 6) sc_some_tokens.nd rfl (.inl rfl) (pv 3))
        (C8.pss_cut (ps_if (pt_cmpR op_gt (pv 2) pe_int (nomark _))
        (pss_one (ps_set (i := 6) sc_some_tokens.nd rfl (.inl rfl) (pe_op op_add pe_int (pe_call (ok_pick T) (hr.mono (by decide)) (by rfl) T.g_pick T.F_pick.kp T.b_pick .nil pass0 (pa_cons (pv 0) (pa_cons pe_int pa_nil))))))
        pss_nil)
        (C8.pss_cut (ps_if (PW.pt (pw_and (pt_cmpR op_eq (pv 2) pe_int (nomark _)) (pw_and1 (pt_cmpR op_eq (pe_call (ok_pick T) (hr.mono (by decide)) (by rfl) T.g_pick T.F_pick.kp T.b_pick .nil pass0 (pa_cons (pv 0) (pa_cons pe_int pa_nil))) pe_int (nomark _)))))
        (pss_one (ps_set (i := 6) sc_some_tokens.nd rfl (.inl rfl) (pe_op op_add pe_int (pe_call (ok_pick T) (hr.mono (by decide)) (by rfl) T.g_pick T.F_pick.kp T.b_pick .nil pass0 (pa_cons (pv 0) (pa_cons pe_int pa_nil))))))
        pss_nil)
        (pss_one (ps_expr (pe_bm PySem.F.plainAttrs_list PySem.F.slot_list_append PySem.F.type_list_append mt_append (pv 4) (pa_cons (pe_call (ok_token T) (hr.mono (by decide)) (by rfl) T.g_token T.F_token.kp T.b_token .nil pass0 (pa_cons (pv 0) (pa_cons (pv 6) pa_nil))) pa_nil))))))))
      (pss_one (ps_ret (pv 4)))))))), ?_⟩
    refine ⟨_, rfl, _, _, rfl, hs, by decide, by decide, fun n1 H1 s1 b1 p1 p2 => ?_⟩
    refine ⟨_, _, rfl, rfl, ?_⟩
    refine ⟨_, rfl, _, _, rfl, s1, by decide, by decide, fun way H2 s2 b2 p3 p4 => ?_⟩
    refine ⟨_, rfl, _, _, rfl, s2, by decide, by decide, fun one H3 s3 b3 p5 p6 => ?_⟩
    refine ⟨_, _, rfl, rfl, ?_⟩
    have b123 := (b1.trans b2).trans b3
    refine ⟨Nat.zero_le _, fun D nD => ?_⟩
    have nDa : a ≠ D := s3.ne nD
    have fD : H D = none := b123.none nD nDa.symm
    refine ⟨_, rfl, _, rfl, by omega, by omega, for_range (lo := 0) (n := (1 + n1).toNat) (fun i σ' H' => ∃ (zs : List Str) (y5 y6 : Option V), σ' = [some (.ref a), some (.int (1 + n1)), some (.int way), some (.int (1 + one)), some (.ref D), y5, y6] ∧ zs.length = i ∧ (∀ z ∈ zs, z.length ≤ 21 ∧ PyData.strOk z = true) ∧ Src H' a ∧ But a H H' ∧ H' D = some (.lst (zs.map V.str)))
      ⟨[], none, none, rfl, rfl, (fun _ h => nomatch h), s3.put nDa _, b123.put fD _, upd_same⟩ ?_ ?_⟩
    · rintro i σ' H4 hi ⟨zs, y5, y6, rfl, lz, hz, s4, b4, eD⟩
      refine ⟨_, rfl, ?_⟩
      refine ⟨fun σ' H' => ∃ w : Int, σ' = [some (.ref a), some (.int (1 + n1)), some (.int way), some (.int (1 + one)), some (.ref D), some (.int (0 + (i : Int))), some (.int w)] ∧ 1 ≤ w ∧ w ≤ 40 ∧ Src H' a ∧ But a H H' ∧ H' D = some (.lst (zs.map V.str)), ?_, ?_⟩
      · refine ⟨_, rfl, _, _, rfl, rfl, _, rfl, ite2 (fun e => ?_) (fun e => ?_)⟩
        · refine ⟨_, rfl, _, _, rfl, s4, by decide, by decide, fun r H5 s5 b5 p7 p8 => ?_⟩
          exact ⟨_, _, rfl, rfl, _, rfl, by omega, by omega, s5, b4.trans b5, b5 D _ nDa.symm eD⟩
        · exact ⟨_, rfl, by omega, by omega, s4, b4, eD⟩
      rintro σ' H5 ⟨w, rfl, w1, w2, s5, b5, eD5⟩
      refine ⟨fun σ' H' => ∃ w : Int, σ' = [some (.ref a), some (.int (1 + n1)), some (.int way), some (.int (1 + one)), some (.ref D), some (.int (0 + (i : Int))), some (.int w)] ∧ 1 ≤ w ∧ w ≤ 40 ∧ Src H' a ∧ But a H H' ∧ H' D = some (.lst (zs.map V.str)), ?_, ?_⟩
      · refine ⟨_, rfl, rfl, _, rfl, ite2 (fun e => ?_) (fun e => ?_)⟩
        · refine ⟨_, rfl, _, _, rfl, s5, by decide, by decide, fun r H6 s6 b6 p7 p8 => ?_⟩
          refine ⟨rfl, _, rfl, ite2 (fun e => ?_) (fun e => ?_)⟩
          · refine ⟨_, rfl, _, _, rfl, s6, by decide, by decide, fun r H7 s7 b7 p7 p8 => ?_⟩
            exact ⟨_, _, rfl, rfl, _, rfl, by omega, by omega, s7, (b5.trans b6).trans b7, b7 D _ nDa.symm (b6 D _ nDa.symm eD5)⟩
          · exact ⟨_, rfl, w1, w2, s6, b5.trans b6, b6 D _ nDa.symm eD5⟩
        · exact ⟨_, rfl, w1, w2, s5, b5, eD5⟩
      rintro σ' H6 ⟨w, rfl, w1, w2, s6, b6, eD6⟩
      refine ⟨_, rfl, .inl ⟨rfl, _, .inl (.inl eD6)⟩, _, rfl, _, rfl, a, w, rfl, s6, w1, w2, fun z H7 s7 b7 l7 o7 => ?_⟩
      have eD7 := b7 D _ nDa.symm eD6
      refine ⟨_, _, _, rfl, rfl, eD7, ?_, zs ++ [z], _, _, rfl, ?_, ?_, s7.put nDa _, (b6.trans b7).put fD _, ?_⟩
      · rw [List.length_map]; exact small1000 (by omega)
      · rw [List.length_append, lz]; rfl
      · intro y hy
        rcases List.mem_append.mp hy with h | h
        · exact hz y h
        · rw [List.mem_singleton.mp h]; exact ⟨l7, o7⟩
      · rw [upd_same, List.map_append]; rfl
    · rintro σ' H4 ⟨zs, y5, y6, rfl, lz, hz, s4, b4, eD⟩
      refine ⟨_, rfl, q zs D H4 fD s4 b4 eD ⟨fun e => ?_, by omega, hz⟩⟩
      rw [e] at lz
      have : (0 : Nat) = (1 + n1).toNat := lz
      omega
theorem ok_width_changes (T : Tab K mg) : FnOk P w K mg base CX0 4 T.f_width_changes T.d_width_changes ["tokens", "most"] (sp_width_changes K) := by
  refine T.F_width_changes.ok sc_width_changes (fun vs H Q E h => ?_) (fun cdv A outer s H vs Q E hr h => ?_)
  · obtain ⟨a, zs, most, m, rfl, _⟩ := h
    rfl
  · obtain ⟨a, zs, most, m, rfl, hS, hT, hL, hm, hM, q⟩ := h
    obtain ⟨t1, t2, t3⟩ := id hT
    refine ⟨_, (C8.pss_cut (ps_set (i := 2) sc_width_changes.nd rfl (.inl rfl) (pe_callB (cr_max rfl) (by rfl) T.m_max (by decide +kernel) (pa_cons (pe_op op_cat (pe_lst (pa_cons (pe_glob (v := .int 20) (by rfl) T.c_LEAST_WIDTH ⟨_, rfl⟩) pa_nil)) (pe_lc (own := [("token", 7)]) (g := gName 7) (by rfl) sc_width_changes.nd (pi_or (pi_list (pv 0)) (pi_tup (pv 0))) (blkOk_by (own := [("token", 7)]) (N := N_width_changes) (sc := defScope s_width_changes) (by decide +kernel)) (fun _ _ _ _ _ => pg_name (i := 7) sc_width_changes.nd rfl (.inl rfl)) (fun _ _ _ _ _ => pts_nil) (fun _ _ _ _ _ => (pe_call (ok_token_width T) (hr.mono (by decide)) (by rfl) T.g_token_width T.F_token_width.kp T.b_token_width .nil pass0 (pa_cons (pv 7) pa_nil))))) pa_nil)))
      (pss_cons (ps_set (i := 3) sc_width_changes.nd rfl (.inl rfl) (pe_lst (pa_cons (pv 2) pa_nil)))
      (pss_cons (ps_set (i := 4) sc_width_changes.nd rfl (.inl rfl) (pe_call (ok_set_lines T) (hr.mono (by decide)) (by rfl) T.g_set_lines T.F_set_lines.kp T.b_set_lines .nil pass0 (pa_cons (pv 0) (pa_cons (pv 2) pa_nil))))
      (pss_cons (ps_for PassesOwn.never rfl (pi_range2 (by rfl) T.m_range (pa_cons (pe_op op_add (pv 2) pe_int) (pa_cons (pe_op op_add (pv 1) pe_int) pa_nil))) (pg_name (i := 5) sc_width_changes.nd rfl (.inl rfl))
      (pss_cons (ps_set (i := 6) sc_width_changes.nd rfl (.inl rfl) (pe_call (ok_set_lines T) (hr.mono (by decide)) (by rfl) T.g_set_lines T.F_set_lines.kp T.b_set_lines .nil pass0 (pa_cons (pv 0) (pa_cons (pv 5) pa_nil))))
        (C8.pss_cut (ps_if (pt_cmpR (op_neD hr.units) (pv 6) (pv 4) (nomark _))
        (pss_one (ps_expr (pe_bm PySem.F.plainAttrs_list PySem.F.slot_list_append PySem.F.type_list_append mt_append (pv 3) (pa_cons (pv 5) pa_nil))))
        pss_nil)
        (pss_one (ps_set (i := 4) sc_width_changes.nd rfl (.inl rfl) (pv 6))))))
      (pss_one (ps_ret (pe_callTy call_tuple_of (by rfl) T.m_tuple (by decide +kernel) (pa_cons (pv 3) pa_nil)))))))), ?_⟩
    have hS0 := hS
    have okz : ∀ z ∈ zs, PyData.strOk z = true := fun z hz => (t3 z hz).2
    have lw : (wids zs).length = zs.length := List.length_map ..
    have h20 : 20 ≤ m := hL.2 20 (List.mem_cons_self ..)
    have hF : ∀ W : Int, m ≤ W → ∀ z ∈ zs, wid z ≤ W := fun W hW z hz => Int.le_trans (hL.2 _ (List.mem_cons_of_mem _ (List.mem_map.mpr ⟨z, hz, rfl⟩))) hW
    refine ⟨fun σ' H' => σ' = [some (.ref a), some (.int most), some (.int m), none, none, none, none, none] ∧ Same H H', ?_, ?_⟩
    · refine ⟨(by show 1 ≤ sizeLine; decide), fun p np => ?_⟩
      have s1 := same_upd (o := .lst [V.int 20]) np
      have e1 : (upd H p (.lst [V.int 20])) p = some (.lst [V.int 20]) := upd_same
      generalize upd H p (.lst [V.int 20]) = H1 at s1 e1
      have fin : ∀ (D : Addr) (H' : Hp), Same H1 H' → H' D = some (.lst ((wids zs).map V.int)) → ∀ r : Addr, H' r = none → SqL K (upd H' r (.lst ([V.int 20] ++ (wids zs).map V.int))) r ((20 :: wids zs).map V.int) ∧ Same H (upd H' r (.lst ([V.int 20] ++ (wids zs).map V.int))) := fun D H' sm eD r nr =>
        ⟨.inl (.inl upd_same), (s1.trans sm).trans (same_upd nr)⟩
      rcases same_sq s1 hS with hS | hS
      · refine .inl ⟨_, rfl, a, rfl, ⟨_, hS⟩, fun D nD0 => ?_⟩
        refine lc_list (xs := zs.map V.str) (fun i H' => Same H1 H' ∧ H' D = some (.lst ((wids (zs.take i)).map V.int))) ⟨same_upd nD0, upd_same⟩ (fun i H' _ hh => Same.seq hh.1 hS) ?_ ?_
        · rintro i x H' hx ⟨sm, eD⟩
          obtain ⟨z, rfl, hz⟩ := get_map hx
          have hz1 := (t3 z (List.mem_of_getElem? hz)).1
          have hi : i < zs.length := (List.getElem?_eq_some_iff.mp hz).1
          refine ⟨rfl, ?_⟩
          refine ⟨_, rfl, z, rfl, Nat.le_of_lt (small1000 (by omega)), _, eD, ?_, same_put sm nD0 _, ?_⟩
          · rw [List.length_map]; unfold wids; rw [List.length_map, List.length_take]; exact small1000 (by omega)
          · rw [upd_same, wids_snoc hz, List.map_append]; rfl
        rintro H' ⟨sm, eD⟩
        rw [wids_all] at eD
        refine ⟨p, D, _, _, rfl, rfl, sm _ _ e1, eD, ?_, fun r nr => ?_⟩
        · rw [List.length_map, lw]; exact Nat.le_of_lt (small1000 (by show 1 + zs.length ≤ 1000; omega))
        obtain ⟨f1, f2⟩ := fin D H' sm eD r nr
        refine ⟨r, 20 :: wids zs, rfl, f1, Nat.succ_pos _, fun m' h1 h2 => ⟨?_, f2⟩⟩
        rw [show m' = m from Int.le_antisymm (hL.2 _ h1) (h2 _ hL.1)]
        rfl
      · refine .inr ⟨_, rfl, a, rfl, ⟨_, hS⟩, fun D nD0 => ?_⟩
        refine lc_tup (xs := zs.map V.str) (fun i H' => Same H1 H' ∧ H' D = some (.lst ((wids (zs.take i)).map V.int))) ⟨same_upd nD0, upd_same⟩ (fun i H' _ hh => same_seqT hh.1 hS) ?_ ?_
        · rintro i x H' hx ⟨sm, eD⟩
          obtain ⟨z, rfl, hz⟩ := get_map hx
          have hz1 := (t3 z (List.mem_of_getElem? hz)).1
          have hi : i < zs.length := (List.getElem?_eq_some_iff.mp hz).1
          refine ⟨rfl, ?_⟩
          refine ⟨_, rfl, z, rfl, Nat.le_of_lt (small1000 (by omega)), _, eD, ?_, same_put sm nD0 _, ?_⟩
          · rw [List.length_map]; unfold wids; rw [List.length_map, List.length_take]; exact small1000 (by omega)
          · rw [upd_same, wids_snoc hz, List.map_append]; rfl
        rintro H' ⟨sm, eD⟩
        rw [wids_all] at eD
        refine ⟨p, D, _, _, rfl, rfl, sm _ _ e1, eD, ?_, fun r nr => ?_⟩
        · rw [List.length_map, lw]; exact Nat.le_of_lt (small1000 (by show 1 + zs.length ≤ 1000; omega))
        obtain ⟨f1, f2⟩ := fin D H' sm eD r nr
        refine ⟨r, 20 :: wids zs, rfl, f1, Nat.succ_pos _, fun m' h1 h2 => ⟨?_, f2⟩⟩
        rw [show m' = m from Int.le_antisymm (hL.2 _ h1) (h2 _ hL.1)]
        rfl
    rintro σ' H1 ⟨rfl, s1⟩
    refine ⟨_, rfl, (by show 1 ≤ sizeLine; decide), fun C nC => ?_⟩
    have fC : H C = none := s1.free nC
    have s2 := s1.trans (same_upd (o := .lst [V.int m]) nC)
    refine ⟨_, rfl, _, rfl, a, zs, m, rfl, same_sq s2 hS0, hT, by omega, hF m (Int.le_refl _), fun r H3 s3 nr er => ?_⟩
    have e3 : H3 C = some (.lst [V.int m]) := s3 _ _ upd_same
    have b62 : (2 : Int) ^ 62 = 4611686018427387904 := by decide
    refine ⟨_, rfl, _, _, rfl, rfl, _, rfl, _, _, rfl, rfl, _, _, rfl, ⟨by omega, by omega, by omega, by omega⟩, for_range (lo := m + 1) (fun i σ' H' => ∃ (r : Addr) (y5 y6 : Option V), σ' = [some (.ref a), some (.int most), some (.int m), some (.ref C), some (.ref r), y5, y6, none] ∧ Same H H' ∧ H' C = some (.lst ((toldN zs m i).map V.int)) ∧ (toldN zs m i).length ≤ i + 1 ∧ H' r = some (.tup ((setL (m + i) zs).map V.str)))
      ⟨r, none, none, rfl, s2.trans s3, e3, Nat.le_refl _, by rw [show m + ((0 : Nat) : Int) = m by omega]; exact er⟩ ?_ ?_⟩
    · rintro i σ' H' hi ⟨r, y5, y6, rfl, sm, eC, lC, er⟩
      refine ⟨_, rfl, _, rfl, a, zs, _, rfl, same_sq sm hS0, hT, by omega, hF _ (by omega), fun r2 H4 s4 nr2 er2 => ?_⟩
      have ew : m + 1 + (i : Int) = m + i + 1 := by omega
      rw [ew] at er2 ⊢
      have er4 := s4 _ _ er
      refine ⟨fun σ' H'' => σ' = [some (.ref a), some (.int most), some (.int m), some (.ref C), some (.ref r), some (.int (m + i + 1)), some (.ref r2), none] ∧ Same H H'' ∧ H'' C = some (.lst ((toldN zs m (i + 1)).map V.int)) ∧ (toldN zs m (i + 1)).length ≤ i + 1 + 1 ∧ H'' r2 = some (.tup ((setL (m + i + 1) zs).map V.str)), ?_, ?_⟩
      · refine ⟨_, rfl, _, rfl, .tuple ((setL (m + i + 1) zs).map PyData.str), .tuple ((setL (m + i) zs).map PyData.str), .tup (.inl (.inl er2)) (dp_strs _), .tup (.inl (.inl er4)) (dp_strs _), shaped_t _ (setL_ok okz), shaped_t _ (setL_ok okz), _, rfl, ?_⟩
        rw [show PyData.eqv (.tuple ((setL (m + i + 1) zs).map PyData.str)) (.tuple ((setL (m + i) zs).map PyData.str)) = decide (setL (m + i + 1) zs = setL (m + i) zs) from eqv_strs _ _]
        have eC4 := s4 _ _ eC
        by_cases h : setL (m + i + 1) zs = setL (m + i) zs
        · have ht : toldN zs m (i + 1) = toldN zs m i := by
            show toldN zs m i ++ _ = _
            rw [if_pos h, List.append_nil]
          rw [decide_eq_true h]
          refine ⟨rfl, sm.trans s4, by rw [ht]; exact eC4, by rw [ht]; omega, er2⟩
        · have ht : toldN zs m (i + 1) = toldN zs m i ++ [m + i + 1] := by
            show toldN zs m i ++ _ = _
            rw [if_neg h]
          rw [decide_eq_false h]
          refine ⟨_, rfl, .inl ⟨rfl, _, .inl (.inl eC4)⟩, _, rfl, _, _, _, rfl, rfl, eC4, ?_, rfl, same_put (sm.trans s4) fC _, ?_, ?_, ?_⟩
          · rw [List.length_map]; exact small1000 (by omega)
          · rw [upd_same, ht, List.map_append]; rfl
          · rw [ht, List.length_append, List.length_singleton]; omega
          · rw [upd_ne (fun e => by rw [e, eC4] at er2; cases er2)]; exact er2
      · rintro σ' H'' ⟨rfl, sm2, eC2, lC2, er3⟩
        exact ⟨_, rfl, r2, _, _, rfl, sm2, eC2, lC2, by rw [show m + ((i + 1 : Nat) : Int) = m + i + 1 by omega]; exact er3⟩
    · rintro σ' H' ⟨r, y5, y6, rfl, sm, eC, lC, er⟩
      refine ⟨_, rfl, _, _, rfl, .inl ⟨.inl (.inl eC), fun p np => q p _ (sm.trans (same_upd np)) (sm.free np) ?_⟩⟩
      rw [upd_same, show (most + 1 - (m + 1)).toNat = (most - m).toNat by omega]
theorem ok_right (T : Tab K mg) : FnOk P w K mg base CX0 5 T.f_right T.d_right ["_law_tokens", "_law_most"] (sp_right K) := by
  refine T.F_right.ok sc_right (fun vs H Q E h => ?_) (fun cdv A outer s H vs Q E hr h => ?_)
  · obtain ⟨a, zs, most, m, rfl, _⟩ := h
    rfl
  · obtain ⟨a, zs, most, m, rfl, hS, hT, hL, hm, hM, q⟩ := h
    obtain ⟨t1, t2, t3⟩ := id hT
    refine ⟨_, (pss_cons (ps_set (i := 2) sc_right.nd rfl (.inl rfl) (pe_callB (cr_max rfl) (by rfl) T.m_max (by decide +kernel) (pa_cons (pe_op op_cat (pe_lst (pa_cons pe_int pa_nil)) (pe_lc (own := [("_law_token_here", 10)]) (g := gName 10) (by rfl) sc_right.nd (pi_list (pv 0)) (blkOk_by (own := [("_law_token_here", 10)]) (N := N_right) (sc := defScope s_right) (by decide +kernel)) (fun _ _ _ _ _ => pg_name (i := 10) sc_right.nd rfl (.inl rfl)) (fun _ _ _ _ _ => pts_nil) (fun _ _ _ _ _ => (pe_call (ok_width T) (hr.mono (by decide)) (by rfl) T.g_width T.F_width.kp T.b_width .nil pass0 (pa_cons (pv 10) pa_nil))))) pa_nil)))
      (pss_cons (ps_set (i := 3) sc_right.nd rfl (.inl rfl) (pe_call (ok_width_changes T) (hr.mono (by decide)) (by rfl) T.g_width_changes T.F_width_changes.kp T.b_width_changes .nil pass0 (pa_cons (pe_callTy call_tuple_of (by rfl) T.m_tuple (by decide +kernel) (pa_cons (pv 0) pa_nil)) (pa_cons (pv 1) pa_nil))))
      (pss_cons (ps_if (pt_not (pt_val (pe_callB call_isi (by rfl) T.m_isinstance (by decide +kernel) (pa_cons (pv 3) (pa_cons (pe_bltn (v := .ty "tuple") (u := .type "tuple") (by rfl) T.m_tuple (by decide +kernel) rfl) pa_nil)))))
      (pss_one (ps_ret pe_bl))
      pss_nil)
      (pss_cons (ps_for PassesOwn.never rfl (pi_tup (pv 3)) (pg_name (i := 4) sc_right.nd rfl (.inl rfl))
      (pss_one (ps_if (pt_not (pt_val (pe_call (ok_is_integer T) (hr.mono (by decide)) (by rfl) T.g_is_integer T.F_is_integer.kp T.b_is_integer .nil pass0 (pa_cons (pv 4) pa_nil))))
        (pss_one (ps_ret pe_bl))
        pss_nil)))
      (pss_cons (ps_set (i := 5) sc_right.nd rfl (.inl rfl) (pe_lst pa_nil))
      (pss_cons (ps_set (i := 6) sc_right.nd rfl (.inl rfl) (pe_lst pa_nil))
      (pss_cons (ps_set (i := 7) sc_right.nd rfl (.inl rfl) (pe_tup pa_nil))
      (pss_cons (ps_for PassesOwn.never rfl (pi_range2 (by rfl) T.m_range (pa_cons (pv 2) (pa_cons (pe_op op_add (pv 1) pe_int) pa_nil))) (pg_name (i := 4) sc_right.nd rfl (.inl rfl))
      (pss_cons (ps_set (i := 8) sc_right.nd rfl (.inl rfl) (pe_call (ok_rows T) (hr.mono (by decide)) (by rfl) T.g_rows T.F_rows.kp T.b_rows .nil pass0 (pa_cons (pv 0) (pa_cons (pv 4) pa_nil))))
        (C8.pss_cut (ps_if (PW.pt (pw_or (pt_cmpR op_eq (pv 4) (pv 2) (nomark _)) (pw_or1 (pt_cmpR (op_neD hr.units) (pv 8) (pv 6) (nomark _)))))
        (pss_one (ps_expr (pe_bm PySem.F.plainAttrs_list PySem.F.slot_list_append PySem.F.type_list_append mt_append (pv 5) (pa_cons (pv 4) pa_nil))))
        pss_nil)
        (pss_cons (ps_set (i := 6) sc_right.nd rfl (.inl rfl) (pv 8))
        (pss_cons (ps_set (i := 9) sc_right.nd rfl (.inl rfl) (pe_call (ok_set_lines T) (hr.mono (by decide)) (by rfl) T.g_set_lines T.F_set_lines.kp T.b_set_lines .nil pass0 (pa_cons (pe_callTy call_tuple_of (by rfl) T.m_tuple (by decide +kernel) (pa_cons (pv 0) pa_nil)) (pa_cons (pv 4) pa_nil))))
        (C8.pss_cut (ps_if (pt_cmpR op_in_seq (pv 4) (pv 3) (by rfl))
        (pss_one (ps_set (i := 7) sc_right.nd rfl (.inl rfl) (pv 9)))
        pss_nil)
        (pss_one (ps_if (PW.pt (pw_or (pt_not (pt_val (pe_callB call_isi (by rfl) T.m_isinstance (by decide +kernel) (pa_cons (pv 9) (pa_cons (pe_bltn (v := .ty "tuple") (u := .type "tuple") (by rfl) T.m_tuple (by decide +kernel) rfl) pa_nil))))) (pw_or (pt_cmpR (op_neD hr.units) (pe_callTy call_list_of (by rfl) T.m_list (by decide +kernel) (pa_cons (pv 9) pa_nil)) (pv 8) (nomark _)) (pw_or1 (pt_cmpR (op_neD hr.units) (pv 9) (pv 7) (nomark _))))))
        (pss_one (ps_ret pe_bl))
        pss_nil))))))))
      (pss_one (ps_ret (pe_cmpR (op_eqD hr.units) (pe_callTy call_list_of (by rfl) T.m_list (by decide +kernel) (pa_cons (pv 3) pa_nil)) (pv 5) (nomark _)))))))))))), ?_⟩
    have hS0 := hS
    have okz : ∀ z ∈ zs, PyData.strOk z = true := fun z hz => (t3 z hz).2
    have lw : (wids zs).length = zs.length := List.length_map ..
    have h20 : 20 ≤ m := hL.2 20 (List.mem_cons_self ..)
    have hF : ∀ W : Int, m ≤ W → ∀ z ∈ zs, wid z ≤ W := fun W hW z hz => Int.le_trans (hL.2 _ (List.mem_cons_of_mem _ (List.mem_map.mpr ⟨z, hz, rfl⟩))) hW
    refine ⟨(by show 1 ≤ sizeLine; decide), fun p np => ?_⟩
    have s1 := same_upd (o := .lst [V.int 20]) np
    have e1 : (upd H p (.lst [V.int 20])) p = some (.lst [V.int 20]) := upd_same
    generalize upd H p (.lst [V.int 20]) = H1 at s1 e1
    replace hS := s1.seq hS
    refine ⟨_, rfl, a, rfl, ⟨_, hS⟩, fun D nD0 => ?_⟩
    refine lc_list (xs := zs.map V.str) (fun i H' => Same H1 H' ∧ H' D = some (.lst ((wids (zs.take i)).map V.int))) ⟨same_upd nD0, upd_same⟩ (fun i H' _ hh => Same.seq hh.1 hS) ?_ ?_
    · rintro i x H' hx ⟨sm, eD⟩
      obtain ⟨z, rfl, hz⟩ := get_map hx
      have hz1 := (t3 z (List.mem_of_getElem? hz)).1
      have hi : i < zs.length := (List.getElem?_eq_some_iff.mp hz).1
      refine ⟨rfl, ?_⟩
      refine ⟨_, rfl, z, rfl, Nat.le_of_lt (small1000 (by omega)), _, eD, ?_, same_put sm nD0 _, ?_⟩
      · rw [List.length_map]; unfold wids; rw [List.length_map, List.length_take]; exact small1000 (by omega)
      · rw [upd_same, wids_snoc hz, List.map_append]; rfl
    rintro H' ⟨sm, eD⟩
    rw [wids_all] at eD
    refine ⟨p, D, _, _, rfl, rfl, sm _ _ e1, eD, ?_, fun r nr => ?_⟩
    · rw [List.length_map, lw]; exact Nat.le_of_lt (small1000 (by show 1 + zs.length ≤ 1000; omega))
    refine ⟨r, 20 :: wids zs, rfl, .inl (.inl upd_same), Nat.succ_pos _, fun m' h1 h2 => ?_⟩
    have em : m' = m := Int.le_antisymm (hL.2 _ h1) (h2 _ hL.1)
    subst em
    have s2 := (s1.trans sm).trans (same_upd (o := .lst ([V.int 20] ++ (wids zs).map V.int)) nr)
    refine ⟨_, rfl, _, _, rfl, .inl ⟨s2.seq hS0, fun T1 nT1 => ?_⟩⟩
    refine ⟨_, rfl, T1, zs, most, m', rfl, .inr (.inl (.inl upd_same)), hT, hL, hm, hM, fun t H3 s3 nt et => ?_⟩
    have sm3 := (s2.trans (same_upd (o := .tup (zs.map V.str)) nT1)).trans s3
    generalize hN : (most - m').toNat = N at et
    refine ⟨_, rfl, _, _, _, _, _, rfl, .ty "tuple", .base (.tup et), kit_ty (by decide +kernel), true, rfl, ?_⟩
    refine ⟨_, rfl, t, rfl, ⟨_, .inl (.inl et)⟩, for_tup (xs := (toldN zs m' N).map V.int) (fun i σ' H' => ∃ y4 : Option V, σ' = [some (.ref a), some (.int most), some (.int m'), some (.ref t), y4, none, none, none, none, none, none] ∧ H3 = H') ⟨none, rfl, rfl⟩ (fun (i : Nat) (σ' : L2.St) (H' : Hp) _ hh => ?_) ?_ ?_⟩
    · obtain ⟨_, _, rfl⟩ := hh
      exact .inl (.inl et)
    · rintro i x σ' H' hx ⟨y4, rfl, rfl⟩
      obtain ⟨v, rfl⟩ : ∃ v : Int, x = .int v := by
        rw [List.getElem?_map] at hx
        cases e : (toldN zs m' N)[i]? with
        | none => rw [e] at hx; cases hx
        | some v => rw [e] at hx; exact ⟨v, (Option.some.inj hx).symm⟩
      exact ⟨_, rfl, _, rfl, true, rfl, ⟨_, rfl, rfl⟩⟩
    rintro σ' H' ⟨y4, rfl, rfl⟩
    refine ⟨Nat.zero_le _, fun Du nDu => ⟨Nat.zero_le _, fun Ke nKe => ⟨Nat.zero_le _, fun Sh nSh => ?_⟩⟩⟩
    have s4 := sm3.trans (same_upd (o := .lst []) nDu)
    have s5 := s4.trans (same_upd (o := .lst []) nKe)
    have s6 := s5.trans (same_upd (o := .tup []) nSh)
    have eDu : (upd (upd (upd H3 Du (.lst [])) Ke (.lst [])) Sh (.tup [])) Du = some (.lst []) := same_upd nSh _ _ (same_upd nKe _ _ upd_same)
    have eKe : (upd (upd (upd H3 Du (.lst [])) Ke (.lst [])) Sh (.tup [])) Ke = some (.lst []) := same_upd nSh _ _ upd_same
    have eSh : (upd (upd (upd H3 Du (.lst [])) Ke (.lst [])) Sh (.tup [])) Sh = some (.tup []) := upd_same
    have et6 : (upd (upd (upd H3 Du (.lst [])) Ke (.lst [])) Sh (.tup [])) t = _ := same_upd nSh _ _ (same_upd nKe _ _ (same_upd nDu _ _ et))
    have fDu : H Du = none := sm3.free nDu
    generalize upd (upd (upd H3 Du (.lst [])) Ke (.lst [])) Sh (.tup []) = H6 at s6 eDu eKe eSh et6
    have b62 : (2 : Int) ^ 62 = 4611686018427387904 := by decide
    refine ⟨_, rfl, _, rfl, _, _, rfl, rfl, _, _, rfl, ⟨by omega, by omega, by omega, by omega⟩, for_range (lo := m') (fun i σ' H' => ∃ (D ks : List _) (Kp Sp : Addr) (y4 y8 y9 : Option V), σ' = [some (.ref a), some (.int most), some (.int m'), some (.ref t), y4, some (.ref Du), some (.ref Kp), some (.ref Sp), y8, y9, none] ∧ (i = 0 → D = [] ∧ ks = []) ∧ (∀ j, i = j + 1 → D = toldN zs m' j ∧ ks = setL (m' + j) zs) ∧ D.length ≤ i ∧ (∀ z ∈ ks, PyData.strOk z = true) ∧ Same H H' ∧ H' Du = some (.lst (D.map V.int)) ∧ H' Kp = some (.lst (ks.map V.str)) ∧ H' Sp = some (.tup (ks.map V.str)) ∧ H' t = some (.tup ((toldN zs m' N).map V.int)))
      ⟨[], [], Ke, Sh, y4, none, none, rfl, (fun _ => ⟨rfl, rfl⟩), (fun j h => by omega), Nat.le_refl _, (fun _ h => nomatch h), s6, eDu, eKe, eSh, et6⟩ ?_ ?_⟩
    · rintro i σ' H' hi ⟨D, ks, Kp, Sp, y4, y8, y9, rfl, c0, c1, lD, okk, sm4, eDu, eKe, eSh, et⟩
      have hiN : i ≤ N := by omega
      refine ⟨_, rfl, _, rfl, a, zs, m' + (i : Int), rfl, sm4.seq hS0, hT, by omega, hF _ (by omega), fun R H4 s4 nR eR => ?_⟩
      have eDu4 := s4 _ _ eDu
      have eKe4 := s4 _ _ eKe
      have eSh4 := s4 _ _ eSh
      have et4 := s4 _ _ et
      have sm5 := sm4.trans s4
      have nRD : R ≠ Du := fun e => by rw [e, eDu] at nR; cases nR
      have hlen := told_len zs m' i
      refine ⟨fun σ' H'' => σ' = [some (.ref a), some (.int most), some (.int m'), some (.ref t), some (.int (m' + (i : Int))), some (.ref Du), some (.ref Kp), some (.ref Sp), some (.ref R), y9, none] ∧ Same H H'' ∧ H'' Du = some (.lst ((toldN zs m' i).map V.int)) ∧ H'' R = some (.lst ((setL (m' + (i : Int)) zs).map V.str)) ∧ H'' Sp = some (.tup (ks.map V.str)) ∧ H'' t = some (.tup ((toldN zs m' N).map V.int)), ?_, ?_⟩
      · have nSD : Sp ≠ Du := ne_of eSh4 eDu4 (by intro z; cases z)
        have ntD : t ≠ Du := ne_of et4 eDu4 (by intro z; cases z)
        have app : ∀ y : Int, toldN zs m' i = D ++ [y] → (upd H4 Du (.lst (D.map V.int ++ [V.int y]))) Du = some (.lst ((toldN zs m' i).map V.int)) := fun y h => by
          rw [upd_same, h, List.map_append]; rfl
        rcases i with _ | j
        · obtain ⟨rfl, rfl⟩ := c0 rfl
          refine ⟨_, rfl, _, rfl, rfl, _, rfl, ite2 (fun _ => ?_) (fun h => absurd (decide_eq_true (congrArg V.int (by show m' + ((0 : Nat) : Int) = m'; omega))) h)⟩
          refine ⟨_, rfl, .inl ⟨rfl, _, .inl (.inl eDu4)⟩, _, rfl, _, _, _, rfl, rfl, eDu4, (by show 0 < sizeLine; decide), rfl, same_put sm5 fDu _, ?_, by rw [upd_ne nRD]; exact eR, by rw [upd_ne nSD]; exact eSh4, by rw [upd_ne ntD]; exact et4⟩
          exact app _ (by show [m'] = [] ++ [m' + ((0 : Nat) : Int)]; simp)
        · obtain ⟨rfl, rfl⟩ := c1 j rfl
          refine ⟨_, rfl, _, rfl, rfl, _, rfl, ite2 (fun e => ?_) (fun _ => ?_)⟩
          · have h0 : m' + ((j + 1 : Nat) : Int) = m' := V.int.inj (of_decide_eq_true e)
            omega
          refine ⟨_, rfl, _, rfl, .list ((setL (m' + ((j + 1 : Nat) : Int)) zs).map PyData.str), .list ((setL (m' + j) zs).map PyData.str), .lst (.inl (.inl eR)) (dp_strs _), .lst (.inl (.inl eKe4)) (dp_strs _), shaped_l _ (setL_ok okz), shaped_l _ (setL_ok okz), _, rfl, ?_⟩
          rw [show PyData.eqv (.list ((setL (m' + ((j + 1 : Nat) : Int)) zs).map PyData.str)) (.list ((setL (m' + j) zs).map PyData.str)) = decide (setL (m' + ((j + 1 : Nat) : Int)) zs = setL (m' + j) zs) from eqv_strs _ _]
          have ej : m' + ((j + 1 : Nat) : Int) = m' + j + 1 := by omega
          rw [ej] at eR ⊢
          by_cases h : setL (m' + j + 1) zs = setL (m' + j) zs
          · have ht : toldN zs m' (j + 1) = toldN zs m' j := by
              show toldN zs m' j ++ _ = _
              rw [if_pos h, List.append_nil]
            rw [decide_eq_true h]
            exact ⟨rfl, sm5, by rw [ht]; exact eDu4, eR, eSh4, et4⟩
          · have ht : toldN zs m' (j + 1) = toldN zs m' j ++ [m' + j + 1] := by
              show toldN zs m' j ++ _ = _
              rw [if_neg h]
            rw [decide_eq_false h]
            refine ⟨_, rfl, .inl ⟨rfl, _, .inl (.inl eDu4)⟩, _, rfl, _, _, _, rfl, rfl, eDu4, ?_, rfl, same_put sm5 fDu _, app _ ht, by rw [upd_ne nRD]; exact eR, by rw [upd_ne nSD]; exact eSh4, by rw [upd_ne ntD]; exact et4⟩
            rw [List.length_map]; exact small1000 (by omega)
      · rintro σ' H5 ⟨rfl, sm6, eDu5, eR5, eSh5, et5⟩
        refine ⟨_, rfl, ?_⟩
        refine ⟨_, rfl, _, _, rfl, .inl ⟨sm6.seq hS0, fun T2 nT2 => ?_⟩⟩
        have s7 := same_upd (o := .tup (zs.map V.str)) nT2
        refine ⟨_, rfl, T2, zs, m' + (i : Int), rfl, .inr (.inl (.inl upd_same)), hT, by omega, hF _ (by omega), fun Ac H8 s8 nAc eAc => ?_⟩
        have sm8 := (sm6.trans s7).trans s8
        have eDu8 := s8 _ _ (s7 _ _ eDu5)
        have eR8 := s8 _ _ (s7 _ _ eR5)
        have eSh8 := s8 _ _ (s7 _ _ eSh5)
        have et8 := s8 _ _ (s7 _ _ et5)
        refine ⟨fun σ' H'' => ∃ Sp : Addr, σ' = [some (.ref a), some (.int most), some (.int m'), some (.ref t), some (.int (m' + (i : Int))), some (.ref Du), some (.ref R), some (.ref Sp), some (.ref R), some (.ref Ac), none] ∧ H8 = H'' ∧ H'' Sp = some (.tup ((setL (m' + (i : Int)) zs).map V.str)), ?_, ?_⟩
        · refine ⟨_, rfl, _, rfl, t, _, rfl, .inr (.inl (.inl et8)), rfl, flat_ints _, _, rfl, ?_⟩
          show if inV (.int (m' + (i : Int))) ((toldN zs m' N).map V.int) = true then _ else _
          rw [in_ints]
          refine ite2 (fun e => ?_) (fun e => ?_)
          · exact ⟨_, rfl, Ac, rfl, rfl, eAc⟩
          · refine ⟨Sp, rfl, rfl, ?_⟩
            have hnot : ¬ (m' + (i : Int)) ∈ toldN zs m' N := fun h => e (decide_eq_true h)
            rcases i with _ | j
            · exact absurd (by show m' + ((0 : Nat) : Int) ∈ _; rw [show m' + ((0 : Nat) : Int) = m' by omega]; exact told_first zs m' N) hnot
            · obtain ⟨_, rfl⟩ := c1 j rfl
              have ej : m' + ((j + 1 : Nat) : Int) = m' + j + 1 := by omega
              rw [ej] at hnot ⊢
              by_cases h : setL (m' + j + 1) zs = setL (m' + j) zs
              · rw [h]; exact eSh8
              · exact absurd (told_mem zs m' j N hiN h) hnot
        · rintro σ' H9 ⟨Sp, rfl, rfl, eSp⟩
          refine ⟨_, rfl, _, _, _, _, _, rfl, .ty "tuple", .base (.tup eAc), kit_ty (by decide +kernel), true, rfl, ?_⟩
          refine ⟨_, rfl, _, _, rfl, .inr (.inl (.inl eAc)), fun l nl => ?_⟩
          have s9 := same_upd (o := .lst ((setL (m' + (i : Int)) zs).map V.str)) nl
          refine ⟨_, rfl, .list ((setL (m' + (i : Int)) zs).map PyData.str), .list ((setL (m' + (i : Int)) zs).map PyData.str), .lst (.inl (.inl upd_same)) (dp_strs _), .lst (.inl (.inl (s9 _ _ eR8))) (dp_strs _), shaped_l _ (setL_ok okz), shaped_l _ (setL_ok okz), _, rfl, ?_⟩
          rw [show PyData.eqv (.list ((setL (m' + (i : Int)) zs).map PyData.str)) (.list ((setL (m' + (i : Int)) zs).map PyData.str)) = decide (setL (m' + (i : Int)) zs = setL (m' + (i : Int)) zs) from eqv_strs _ _, decide_eq_true rfl]
          refine ⟨_, rfl, _, rfl, .tuple ((setL (m' + (i : Int)) zs).map PyData.str), .tuple ((setL (m' + (i : Int)) zs).map PyData.str), .tup (.inl (.inl (s9 _ _ eAc))) (dp_strs _), .tup (.inl (.inl (s9 _ _ eSp))) (dp_strs _), shaped_t _ (setL_ok okz), shaped_t _ (setL_ok okz), _, rfl, ?_⟩
          rw [show PyData.eqv (.tuple ((setL (m' + (i : Int)) zs).map PyData.str)) (.tuple ((setL (m' + (i : Int)) zs).map PyData.str)) = decide (setL (m' + (i : Int)) zs = setL (m' + (i : Int)) zs) from eqv_strs _ _, decide_eq_true rfl]
          have cj : ∀ j : Nat, i + 1 = j + 1 → toldN zs m' i = toldN zs m' j ∧ setL (m' + (i : Int)) zs = setL (m' + (j : Int)) zs := fun j h => by
            obtain rfl : i = j := by omega
            exact ⟨rfl, rfl⟩
          exact ⟨toldN zs m' i, setL (m' + (i : Int)) zs, R, Sp, _, _, _, rfl, (fun h => by omega), cj, hlen, setL_ok okz, sm8.trans s9, s9 _ _ eDu8, s9 _ _ eR8, s9 _ _ eSp, s9 _ _ et8⟩
    · rintro σ' H' ⟨D, ks, Kp, Sp, y4, y8, y9, rfl, c0, c1, lD, okk, sm4, eDu, eKe, eSh, et⟩
      obtain ⟨rfl, _⟩ := c1 N (by omega)
      refine ⟨_, rfl, _, _, rfl, .inr (.inl (.inl et)), fun l nl => ?_⟩
      have s9 := same_upd (o := .lst ((toldN zs m' N).map V.int)) nl
      refine ⟨_, rfl, .list ((toldN zs m' N).map PyData.int), .list ((toldN zs m' N).map PyData.int), .lst (.inl (.inl upd_same)) (dp_ints _), .lst (.inl (.inl (s9 _ _ eDu))) (dp_ints _), shaped_il _, shaped_il _, ?_⟩
      rw [show PyData.eqv (.list ((toldN zs m' N).map PyData.int)) (.list ((toldN zs m' N).map PyData.int)) = decide (toldN zs m' N = toldN zs m' N) from eqv_ints _ _, decide_eq_true rfl]
      exact q _ (sm4.trans s9)
theorem ok_law (T : Tab K mg) : FnOk P w K mg base CX0 6 T.f_law T.d_law ["_law_script"] (sp_law K) := by
  refine T.F_law.ok sc_law (fun vs H Q E h => ?_) (fun cdv A outer s H vs Q E hr h => ?_)
  · obtain ⟨a, ns, rfl, _⟩ := h
    rfl
  · obtain ⟨a, ns, rfl, hS, hlen, q⟩ := h
    refine ⟨_, (pss_cons (ps_set (i := 1) sc_law.nd rfl (.inl rfl) (pe_lst pa_nil))
      (pss_cons (ps_for PassesOwn.never rfl (pi_list (pe_lst (pa_cons pe_int (pa_cons pe_int pa_nil)))) (pg_name (i := 2) sc_law.nd rfl (.inl rfl))
      (pss_cons (ps_set (i := 3) sc_law.nd rfl (.inl rfl) (pe_call (ok_source T) (hr.mono (by decide)) (by rfl) T.g_source T.F_source.kp T.b_source .nil pass0 (pa_cons (pv 0) (pa_cons (pv 2) pa_nil))))
        (pss_cons (ps_set (i := 4) sc_law.nd rfl (.inl rfl) (pe_call (ok_some_tokens T) (hr.mono (by decide)) (by rfl) T.g_some_tokens T.F_some_tokens.kp T.b_some_tokens .nil pass0 (pa_cons (pv 3) pa_nil)))
        (pss_cons (ps_set (i := 5) sc_law.nd rfl (.inl rfl) (pe_callB (cr_max rfl) (by rfl) T.m_max (by decide +kernel) (pa_cons (pe_op op_cat (pe_lst (pa_cons pe_int pa_nil)) (pe_lc (own := [("_law_token_here", 11)]) (g := gName 11) (by rfl) sc_law.nd (pi_list (pv 4)) (blkOk_by (own := [("_law_token_here", 11)]) (N := N_law) (sc := defScope s_law) (by decide +kernel)) (fun _ _ _ _ _ => pg_name (i := 11) sc_law.nd rfl (.inl rfl)) (fun _ _ _ _ _ => pts_nil) (fun _ _ _ _ _ => (pe_call (ok_width T) (hr.mono (by decide)) (by rfl) T.g_width T.F_width.kp T.b_width .nil pass0 (pa_cons (pv 11) pa_nil))))) pa_nil)))
        (pss_cons (ps_set (i := 6) sc_law.nd rfl (.inl rfl) (pe_op op_add (pv 5) (pe_call (ok_pick T) (hr.mono (by decide)) (by rfl) T.g_pick T.F_pick.kp T.b_pick .nil pass0 (pa_cons (pv 3) (pa_cons (pe_op op_sub pe_int (pv 5)) pa_nil)))))
        (pss_cons (ps_set (i := 7) sc_law.nd rfl (.inl rfl) (pe_call (ok_pick T) (hr.mono (by decide)) (by rfl) T.g_pick T.F_pick.kp T.b_pick .nil pass0 (pa_cons (pv 3) (pa_cons pe_int pa_nil))))
        (C8.pss_cut (ps_if (pt_cmpR op_lt (pv 7) pe_int (nomark _))
        (pss_one (ps_set (i := 6) sc_law.nd rfl (.inl rfl) pe_int))
        pss_nil)
        (C8.pss_cut (ps_if (pt_cmpR op_eq (pv 7) pe_int (nomark _))
        (pss_one (ps_set (i := 6) sc_law.nd rfl (.inl rfl) (pv 5)))
        pss_nil)
        (pss_cons (ps_if (pt_not (pt_val (pe_call (ok_right T) (hr.mono (by decide)) (by rfl) T.g_right T.F_right.kp T.b_right .nil pass0 (pa_cons (pv 4) (pa_cons (pv 6) pa_nil)))))
        (pss_one (ps_ret pe_bl))
        pss_nil)
        (pss_one (ps_expr (pe_bm PySem.F.plainAttrs_list PySem.F.slot_list_append PySem.F.type_list_append mt_append (pv 1) (pa_cons (pe_lst (pa_cons (pv 4) (pa_cons (pv 6) pa_nil))) pa_nil)))))))))))))
      (pss_cons (ps_for PassesOwn.never rfl (pi_list (pv 1)) (pg_name (i := 8) sc_law.nd rfl (.inl rfl))
      (pss_cons (ps_set (i := 9) sc_law.nd rfl (.inl rfl) (pe_callTy call_list_of (by rfl) T.m_list (by decide +kernel) (pa_cons (pe_ix ix_list (pv 8) pe_int (fun _ _ => rfl)) pa_nil)))
        (pss_cons (ps_set (i := 10) sc_law.nd rfl (.inl rfl) (pe_call (ok_width_changes T) (hr.mono (by decide)) (by rfl) T.g_width_changes T.F_width_changes.kp T.b_width_changes .nil pass0 (pa_cons (pv 9) (pa_cons (pe_ix ix_list (pv 8) pe_int (fun _ _ => rfl)) pa_nil))))
        (pss_cons (ps_if (PW.pt (pw_or (pt_cmpR (op_neD hr.units) (pv 9) (pe_ix ix_list (pv 8) pe_int (fun _ _ => rfl)) (nomark _)) (pw_or1 (pt_cmpR (op_neD hr.units) (pv 10) (pe_call (ok_width_changes T) (hr.mono (by decide)) (by rfl) T.g_width_changes T.F_width_changes.kp T.b_width_changes .nil pass0 (pa_cons (pe_callTy call_tuple_of (by rfl) T.m_tuple (by decide +kernel) (pa_cons (pe_ix ix_list (pv 8) pe_int (fun _ _ => rfl)) pa_nil)) (pa_cons (pe_ix ix_list (pv 8) pe_int (fun _ _ => rfl)) pa_nil))) (nomark _)))))
        (pss_one (ps_ret pe_bl))
        pss_nil)
        (pss_one (ps_if (pt_not (pt_val (pe_call (ok_right T) (hr.mono (by decide)) (by rfl) T.g_right T.F_right.kp T.b_right .nil pass0 (pa_cons (pe_slice sl_list (pe_ix ix_list (pv 8) pe_int (fun _ _ => rfl)) po_none (po_some pe_int)) (pa_cons pe_int pa_nil)))))
        (pss_one (ps_ret pe_bl))
        pss_nil))))))
      (pss_one (ps_ret pe_bl))))), ?_⟩
    refine ⟨Nat.zero_le _, fun s ns0 => ?_⟩
    have s0 : Same H (upd H s (.lst [])) := same_upd ns0
    have es0 : (upd H s (.lst [])) s = some (.lst []) := upd_same
    generalize upd H s (.lst []) = H0 at s0 es0
    refine ⟨(by show 2 ≤ sizeLine; decide), fun kl nkl => ?_⟩
    have skl := same_upd (o := .lst [V.int 0, V.int 1]) nkl
    refine ⟨kl, rfl, ⟨_, .inl (.inl upd_same)⟩, for_list (xs := [V.int 0, V.int 1]) (fun i σ' H' => ∃ (ps : List Addr) (y2 y3 y4 y5 y6 y7 : Option V), σ' = [some (.ref a), some (.ref s), y2, y3, y4, y5, y6, y7, none, none, none, none] ∧ ps.length = i ∧ Same H H' ∧ H' s = some (.lst (ps.map V.ref)) ∧ H' kl = some (.lst [V.int 0, V.int 1]) ∧ ∀ p ∈ ps, p ≠ s ∧ ∃ (zs : List Str) (most m : Int) (p2 : Addr), p2 ≠ s ∧ Toks zs ∧ IsLeast m zs ∧ m ≤ most ∧ most ≤ 60 ∧ H' p = some (.lst [.ref p2, .int most]) ∧ H' p2 = some (.lst (zs.map V.str)))
      ⟨[], none, none, none, none, none, none, rfl, rfl, s0.trans skl, skl _ _ es0, upd_same, fun _ h => nomatch h⟩ (fun (i : Nat) (σ' : L2.St) (H' : Hp) _ hh => ?_) ?_ ?_⟩
    · obtain ⟨_, _, _, _, _, _, _, _, _, _, _, e, _⟩ := hh
      exact .inl (.inl e)
    · rintro i x σ' Hx hx ⟨ps, y2, y3, y4, y5, y6, y7, rfl, lp, smh, eS, eK, good⟩
      obtain ⟨k, rfl⟩ : ∃ k : Nat, x = .int (k : Int) := by
        have hi : x ∈ [V.int 0, V.int 1] := List.mem_of_getElem? hx
        rcases List.mem_cons.mp hi with h | h
        · exact ⟨0, h⟩
        · exact ⟨1, List.mem_singleton.mp h⟩
      have hi2 : i < 2 := (List.getElem?_eq_some_iff.mp hx).1
      refine ⟨_, rfl, _, rfl, a, ns, k, rfl, smh.seq hS, fun p0 H1 sm1 n0 src => ?_⟩
      refine ⟨_, rfl, p0, rfl, src, fun zs p H2 np src2 b2 e2 hT => ?_⟩
      obtain ⟨t1, t2, t3⟩ := id hT
      have lw : (wids zs).length = zs.length := List.length_map ..
      have x2 : Same Hx H2 := b2.same n0 sm1
      have nps : p ≠ s := fun e => by
        rw [e, sm1 _ _ eS] at np
        cases np
      have npp0 : p ≠ p0 := (src.ne np).symm
      refine ⟨(by show 1 ≤ sizeLine; decide), fun g1 ng1 => ?_⟩
      have s3 := same_upd (o := .lst [V.int 20]) ng1
      have eg : (upd H2 g1 (.lst [V.int 20])) g1 = some (.lst [V.int 20]) := upd_same
      have src3 : Src (upd H2 g1 (.lst [V.int 20])) p0 := src2.put (src2.ne ng1) _
      generalize upd H2 g1 (.lst [V.int 20]) = H3 at s3 eg src3
      have hS3 := hS
      replace hS : SqL K H3 p (zs.map V.str) := .inl (.inl (s3 _ _ e2))
      refine ⟨_, rfl, p, rfl, ⟨_, hS⟩, fun D nD0 => ?_⟩
      clear hx
      refine lc_list (xs := zs.map V.str) (fun i H' => Same H3 H' ∧ H' D = some (.lst ((wids (zs.take i)).map V.int))) ⟨same_upd nD0, upd_same⟩ (fun i H' _ hh => Same.seq hh.1 hS) ?_ ?_
      · rintro i x H' hx ⟨sm, eD⟩
        obtain ⟨z, rfl, hz⟩ := get_map hx
        have hz1 := (t3 z (List.mem_of_getElem? hz)).1
        have hi : i < zs.length := (List.getElem?_eq_some_iff.mp hz).1
        refine ⟨rfl, ?_⟩
        refine ⟨_, rfl, z, rfl, Nat.le_of_lt (small1000 (by omega)), _, eD, ?_, same_put sm nD0 _, ?_⟩
        · rw [List.length_map]; unfold wids; rw [List.length_map, List.length_take]; exact small1000 (by omega)
        · rw [upd_same, wids_snoc hz, List.map_append]; rfl
      rintro H' ⟨sm, eD⟩
      rw [wids_all] at eD
      refine ⟨g1, D, _, _, rfl, rfl, sm _ _ eg, eD, ?_, fun r nr => ?_⟩
      · rw [List.length_map, lw]; exact Nat.le_of_lt (small1000 (by show 1 + zs.length ≤ 1000; omega))
      refine ⟨r, 20 :: wids zs, rfl, .inl (.inl upd_same), Nat.succ_pos _, fun m h1 h2 => ?_⟩
      have hL : IsLeast m zs := ⟨h1, h2⟩
      obtain ⟨m2, hL2, l20, l42⟩ := least_ex zs t3
      have em : m2 = m := Int.le_antisymm (h2 _ hL2.1) (hL2.2 _ h1)
      subst em
      have s4 := sm.trans (same_upd (o := .lst ([V.int 20] ++ (wids zs).map V.int)) nr)
      have x4 : Same Hx (upd H' r (.lst ([V.int 20] ++ (wids zs).map V.int))) := (x2.trans s3).trans s4
      have e4 : (upd H' r (.lst ([V.int 20] ++ (wids zs).map V.int))) p = some (.lst (zs.map V.str)) := s4 _ _ (s3 _ _ e2)
      have src4 : Src (upd H' r (.lst ([V.int 20] ++ (wids zs).map V.int))) p0 := by
        obtain ⟨x1, x2, x3, e⟩ := src3
        exact ⟨x1, x2, x3, s4 _ _ e⟩
      generalize upd H' r (.lst ([V.int 20] ++ (wids zs).map V.int)) = H4 at x4 e4 src4
      refine ⟨_, rfl, _, rfl, _, rfl, _, _, rfl, rfl, p0, _, rfl, src4, by omega, by omega, fun w5 H5 src5 b5 p5 p6 => ?_⟩
      refine ⟨_, _, rfl, rfl, ?_⟩
      refine ⟨_, rfl, _, _, rfl, src5, by decide, by decide, fun w6 H6 src6 b6 p7 p8 => ?_⟩
      have x6 : Same Hx H6 := (b5.trans b6).same n0 x4
      have e6 := b6 p _ npp0 (b5 p _ npp0 e4)
      refine ⟨fun σ' H'' => ∃ most : Int, σ' = [some (.ref a), some (.ref s), some (.int (k : Int)), some (.ref p0), some (.ref p), some (.int m2), some (.int most), some (.int w6), none, none, none, none] ∧ m2 ≤ most ∧ most ≤ 60 ∧ H6 = H'', ?_, ?_⟩
      · refine ⟨_, rfl, _, _, rfl, rfl, _, rfl, ite2 (fun e => ?_) (fun e => ?_)⟩
        · exact ⟨60, rfl, by omega, by omega, rfl⟩
        · exact ⟨_, rfl, by omega, by omega, rfl⟩
      rintro σ' H'' ⟨most, rfl, o1, o2, rfl⟩
      refine ⟨fun σ' H'' => ∃ most : Int, σ' = [some (.ref a), some (.ref s), some (.int (k : Int)), some (.ref p0), some (.ref p), some (.int m2), some (.int most), some (.int w6), none, none, none, none] ∧ m2 ≤ most ∧ most ≤ 60 ∧ H6 = H'', ?_, ?_⟩
      · refine ⟨_, rfl, rfl, _, rfl, ite2 (fun e => ?_) (fun e => ?_)⟩
        · exact ⟨_, rfl, m2, rfl, Int.le_refl _, by omega, rfl⟩
        · exact ⟨most, rfl, o1, o2, rfl⟩
      rintro σ' H'' ⟨most, rfl, o1, o2, rfl⟩
      refine ⟨_, rfl, _, rfl, p, zs, most, m2, rfl, .inl (.inl e6), hT, hL, o1, o2, fun H7 s7 => ⟨true, rfl, ?_⟩⟩
      have x7 := x6.trans s7
      refine ⟨_, rfl, .inl ⟨rfl, _, .inl (.inl (x7 _ _ eS))⟩, _, rfl, _, rfl, (by show 2 ≤ sizeLine; decide), fun t nt => ?_⟩
      have s8 := same_upd (o := .lst [V.ref p, V.int most]) nt
      have x8 := x7.trans s8
      have nts : t ≠ s := fun e => by
        rw [e, x7 _ _ eS] at nt
        cases nt
      refine ⟨_, _, _, rfl, rfl, x8 _ _ eS, ?_, ?_⟩
      · rw [List.length_map]; exact small1000 (by omega)
      refine ⟨ps ++ [t], _, _, _, _, _, _, rfl, ?_, same_put (smh.trans x8) ns0 _, ?_, ?_, ?_⟩
      · rw [List.length_append, lp]; rfl
      · rw [upd_same, List.map_append]; rfl
      · rw [upd_ne (fun e => by rw [e, eS] at eK; injection eK with eK; injection eK with eK; cases ps with | nil => cases eK | cons q r => cases eK)]
        exact x8 _ _ eK
      · intro p' hp
        rcases List.mem_append.mp hp with h | h
        · obtain ⟨h1, zs', w', m', q2, h2, h3, h4, h5, h6, h7, h8⟩ := good p' h
          exact ⟨h1, zs', w', m', q2, h2, h3, h4, h5, h6, by rw [upd_ne h1]; exact x8 _ _ h7, by rw [upd_ne h2]; exact x8 _ _ h8⟩
        · rw [List.mem_singleton.mp h]
          exact ⟨nts, zs, most, m2, p, nps, hT, hL, o1, o2, by rw [upd_ne nts, upd_same], by rw [upd_ne nps]; exact s8 _ _ (s7 _ _ e6)⟩
    · rintro σ' Hx ⟨ps, y2, y3, y4, y5, y6, y7, rfl, lp, smh, eS, eK, good⟩
      refine ⟨_, rfl, _, rfl, ⟨_, .inl (.inl eS)⟩, for_list (xs := ps.map V.ref) (fun i σ'' H'' => ∃ y8 y9 y10 : Option V, σ'' = [some (.ref a), some (.ref s), y2, y3, y4, y5, y6, y7, y8, y9, y10, none] ∧ Same Hx H'') ⟨none, none, none, rfl, Same.refl _⟩ (fun (i : Nat) (σ'' : L2.St) (H'' : Hp) _ hh => ?_) ?_ ?_⟩
      · obtain ⟨_, _, _, _, s2⟩ := hh
        exact .inl (.inl (s2 _ _ eS))
      · rintro i x σ'' H'' hx ⟨y8, y9, y10, rfl, s2⟩
        obtain ⟨p, rfl, hp⟩ := get_mapR hx
        obtain ⟨_, zs, most, m, p2, _, hT, hL, o1, o2, e1, e2⟩ := good p hp
        obtain ⟨t1, t2, t3⟩ := id hT
        have okz : ∀ z ∈ zs, PyData.strOk z = true := fun z hz => (t3 z hz).2
        have e1' := s2 _ _ e1
        have e2' := s2 _ _ e2
        refine ⟨_, rfl, _, _, _, _, rfl, rfl, .inl (.inl e1'), atI_nat (j := 0) rfl, _, _, rfl, .inl (.inl (.inl e2')), fun l nl => ?_⟩
        have s3 := same_upd (o := .lst (zs.map V.str)) nl
        refine ⟨_, rfl, _, rfl, _, _, _, _, rfl, rfl, .inl (.inl (s3 _ _ e1')), atI_nat (j := 1) rfl, l, zs, most, m, rfl, .inl (.inl (.inl upd_same)), hT, hL, o1, o2, fun td H4 s4 ntd etd => ?_⟩
        have x4 := s3.trans s4
        refine ⟨_, rfl, _, rfl, _, _, _, _, rfl, rfl, .inl (.inl (x4 _ _ e1')), atI_nat (j := 0) rfl, .list (zs.map PyData.str), .list (zs.map PyData.str), .lst (.inl (.inl (s4 _ _ upd_same))) (dp_strs _), .lst (.inl (.inl (x4 _ _ e2'))) (dp_strs _), shaped_l _ okz, shaped_l _ okz, _, rfl, ?_⟩
        rw [show PyData.eqv (.list (zs.map PyData.str)) (.list (zs.map PyData.str)) = decide (zs = zs) from eqv_strs _ _, decide_eq_true rfl]
        refine ⟨_, rfl, _, rfl, _, _, _, _, rfl, rfl, .inl (.inl (x4 _ _ e1')), atI_nat (j := 0) rfl, _, _, rfl, .inl ⟨.inl (.inl (x4 _ _ e2')), fun tt ntt => ?_⟩⟩
        have s5 := same_upd (o := .tup (zs.map V.str)) ntt
        refine ⟨_, rfl, _, _, _, _, rfl, rfl, .inl (.inl (s5 _ _ (x4 _ _ e1'))), atI_nat (j := 1) rfl, tt, zs, most, m, rfl, .inr (.inl (.inl upd_same)), hT, hL, o1, o2, fun te H6 s6 nte ete => ?_⟩
        have x6 := (x4.trans s5).trans s6
        refine ⟨.tuple ((toldN zs m (most - m).toNat).map PyData.int), .tuple ((toldN zs m (most - m).toNat).map PyData.int), .tup (.inl (.inl (s6 _ _ (s5 _ _ etd)))) (dp_ints _), .tup (.inl (.inl ete)) (dp_ints _), shaped_it _, shaped_it _, _, rfl, ?_⟩
        rw [show PyData.eqv (.tuple ((toldN zs m (most - m).toNat).map PyData.int)) (.tuple ((toldN zs m (most - m).toNat).map PyData.int)) = decide (toldN zs m (most - m).toNat = toldN zs m (most - m).toNat) from eqv_ints _ _, decide_eq_true rfl]
        refine ⟨_, rfl, _, _, _, _, rfl, rfl, .inl (.inl (x6 _ _ e1')), atI_nat (j := 0) rfl, 3, rfl, _, _, rfl, .inl (.inl (x6 _ _ e2')), fun c nc => ?_⟩
        rw [show cutV (zs.map V.str) none (some 3) = (zs.map V.str).take 3 from cut_take _ 3, ← List.map_take]
        have hT3 : Toks (zs.take 3) := ⟨fun e => t1 (by cases zs with | nil => rfl | cons z r => cases e), by rw [List.length_take]; omega, fun z hz => t3 z (List.mem_of_mem_take hz)⟩
        obtain ⟨m3, hL3, l20, l42⟩ := least_ex (zs.take 3) hT3.2.2
        refine ⟨c, zs.take 3, 60, m3, rfl, .inl (.inl upd_same), hT3, hL3, by omega, by omega, fun H8 s8 => ⟨true, rfl, ?_⟩⟩
        exact ⟨_, _, _, rfl, s2.trans ((x6.trans (same_upd (o := .lst ((zs.take 3).map V.str)) nc)).trans s8)⟩
      · rintro σ'' H'' ⟨y8, y9, y10, rfl, s2⟩
        exact q _
end
theorem all_mk {l : PySem.W.OpenLaw} {w : World} {K : PySem.W.Frag} {h : Heap} {mg : Str → Option Value} {fa f0 f1 f2 f3 f4 f5 f6 f7 f8 f9 f10 f11 f12 f13 f14 : Addr} (X : K.In h) (G : h.Ns mainGlobals mg) (hfa : mg "law" = some (.ref fa))
    {od0 an0 od1 an1 od2 an2 od3 an3 od4 an4 od5 an5 od6 an6 od7 an7 od8 an8 od9 an9 od10 an10 od11 an11 od12 an12 od13 an13 od14 an14 : Option Addr} {sl0 sl1 sl2 sl3 sl4 sl5 sl6 sl7 sl8 sl9 sl10 sl11 sl12 sl13 sl14 : Array (Option Value)} {oc0 kV0 dc0 pm0 cd0 ct0 oc1 kV1 dc1 pm1 cd1 ct1 oc2 kV2 dc2 pm2 cd2 ct2 oc3 kV3 dc3 pm3 cd3 ct3 oc4 kV4 dc4 pm4 cd4 ct4 oc5 kV5 dc5 pm5 cd5 ct5 oc6 kV6 dc6 pm6 cd6 ct6 oc7 kV7 dc7 pm7 cd7 ct7 oc8 kV8 dc8 pm8 cd8 ct8 oc9 kV9 dc9 pm9 cd9 ct9 oc10 kV10 dc10 pm10 cd10 ct10 oc11 kV11 dc11 pm11 cd11 ct11 oc12 kV12 dc12 pm12 cd12 ct12 oc13 kV13 dc13 pm13 cd13 ct13 oc14 kV14 dc14 pm14 cd14 ct14 : Value}
    (a0 : PySem.W.nsIn K mainGlobals "token_width" = some (some (.ref f0))) (l0 : K.lookup f0 = some ⟨oc0, od0, .func (PySem.W.fnOf "token_width" "token_width" (defArgs s_token_width) (defBody s_token_width) (defScope s_token_width) .none kV0 dc0 pm0 an0 cd0 ct0), sl0⟩) (c0 : PySem.W.codeIn K cd0 "token_width" = true) (k0 : PySem.W.keepIn K (.ref f0) = true)
    (a1 : PySem.W.nsIn K mainGlobals "set_lines" = some (some (.ref f1))) (l1 : K.lookup f1 = some ⟨oc1, od1, .func (PySem.W.fnOf "set_lines" "set_lines" (defArgs s_set_lines) (defBody s_set_lines) (defScope s_set_lines) .none kV1 dc1 pm1 an1 cd1 ct1), sl1⟩) (c1 : PySem.W.codeIn K cd1 "set_lines" = true) (k1 : PySem.W.keepIn K (.ref f1) = true)
    (a2 : PySem.W.nsIn K mainGlobals "row_ends" = some (some (.ref f2))) (l2 : K.lookup f2 = some ⟨oc2, od2, .func (PySem.W.fnOf "row_ends" "row_ends" (defArgs s_row_ends) (defBody s_row_ends) (defScope s_row_ends) .none kV2 dc2 pm2 an2 cd2 ct2), sl2⟩) (c2 : PySem.W.codeIn K cd2 "row_ends" = true) (k2 : PySem.W.keepIn K (.ref f2) = true)
    (a3 : PySem.W.nsIn K mainGlobals "fill_ends" = some (some (.ref f3))) (l3 : K.lookup f3 = some ⟨oc3, od3, .func (PySem.W.fnOf "fill_ends" "fill_ends" (defArgs s_fill_ends) (defBody s_fill_ends) (defScope s_fill_ends) .none kV3 dc3 pm3 an3 cd3 ct3), sl3⟩) (c3 : PySem.W.codeIn K cd3 "fill_ends" = true) (k3 : PySem.W.keepIn K (.ref f3) = true)
    (a4 : PySem.W.nsIn K mainGlobals "width_changes" = some (some (.ref f4))) (l4 : K.lookup f4 = some ⟨oc4, od4, .func (PySem.W.fnOf "width_changes" "width_changes" (defArgs s_width_changes) (defBody s_width_changes) (defScope s_width_changes) .none kV4 dc4 pm4 an4 cd4 ct4), sl4⟩) (c4 : PySem.W.codeIn K cd4 "width_changes" = true) (k4 : PySem.W.keepIn K (.ref f4) = true)
    (a5 : PySem.W.nsIn K mainGlobals "_law_source" = some (some (.ref f5))) (l5 : K.lookup f5 = some ⟨oc5, od5, .func (PySem.W.fnOf "_law_source" "_law_source" (defArgs s_source) (defBody s_source) (defScope s_source) .none kV5 dc5 pm5 an5 cd5 ct5), sl5⟩) (c5 : PySem.W.codeIn K cd5 "_law_source" = true) (k5 : PySem.W.keepIn K (.ref f5) = true)
    (a6 : PySem.W.nsIn K mainGlobals "_law_pick" = some (some (.ref f6))) (l6 : K.lookup f6 = some ⟨oc6, od6, .func (PySem.W.fnOf "_law_pick" "_law_pick" (defArgs s_pick) (defBody s_pick) (defScope s_pick) .none kV6 dc6 pm6 an6 cd6 ct6), sl6⟩) (c6 : PySem.W.codeIn K cd6 "_law_pick" = true) (k6 : PySem.W.keepIn K (.ref f6) = true)
    (a7 : PySem.W.nsIn K mainGlobals "_law_is_integer" = some (some (.ref f7))) (l7 : K.lookup f7 = some ⟨oc7, od7, .func (PySem.W.fnOf "_law_is_integer" "_law_is_integer" (defArgs s_is_integer) (defBody s_is_integer) (defScope s_is_integer) .none kV7 dc7 pm7 an7 cd7 ct7), sl7⟩) (c7 : PySem.W.codeIn K cd7 "_law_is_integer" = true) (k7 : PySem.W.keepIn K (.ref f7) = true)
    (a8 : PySem.W.nsIn K mainGlobals "_law_width" = some (some (.ref f8))) (l8 : K.lookup f8 = some ⟨oc8, od8, .func (PySem.W.fnOf "_law_width" "_law_width" (defArgs s_width) (defBody s_width) (defScope s_width) .none kV8 dc8 pm8 an8 cd8 ct8), sl8⟩) (c8 : PySem.W.codeIn K cd8 "_law_width" = true) (k8 : PySem.W.keepIn K (.ref f8) = true)
    (a9 : PySem.W.nsIn K mainGlobals "_law_cut" = some (some (.ref f9))) (l9 : K.lookup f9 = some ⟨oc9, od9, .func (PySem.W.fnOf "_law_cut" "_law_cut" (defArgs s_cut) (defBody s_cut) (defScope s_cut) .none kV9 dc9 pm9 an9 cd9 ct9), sl9⟩) (c9 : PySem.W.codeIn K cd9 "_law_cut" = true) (k9 : PySem.W.keepIn K (.ref f9) = true)
    (a10 : PySem.W.nsIn K mainGlobals "_law_rows" = some (some (.ref f10))) (l10 : K.lookup f10 = some ⟨oc10, od10, .func (PySem.W.fnOf "_law_rows" "_law_rows" (defArgs s_rows) (defBody s_rows) (defScope s_rows) .none kV10 dc10 pm10 an10 cd10 ct10), sl10⟩) (c10 : PySem.W.codeIn K cd10 "_law_rows" = true) (k10 : PySem.W.keepIn K (.ref f10) = true)
    (a11 : PySem.W.nsIn K mainGlobals "_law_token" = some (some (.ref f11))) (l11 : K.lookup f11 = some ⟨oc11, od11, .func (PySem.W.fnOf "_law_token" "_law_token" (defArgs s_token) (defBody s_token) (defScope s_token) .none kV11 dc11 pm11 an11 cd11 ct11), sl11⟩) (c11 : PySem.W.codeIn K cd11 "_law_token" = true) (k11 : PySem.W.keepIn K (.ref f11) = true)
    (a12 : PySem.W.nsIn K mainGlobals "_law_some_tokens" = some (some (.ref f12))) (l12 : K.lookup f12 = some ⟨oc12, od12, .func (PySem.W.fnOf "_law_some_tokens" "_law_some_tokens" (defArgs s_some_tokens) (defBody s_some_tokens) (defScope s_some_tokens) .none kV12 dc12 pm12 an12 cd12 ct12), sl12⟩) (c12 : PySem.W.codeIn K cd12 "_law_some_tokens" = true) (k12 : PySem.W.keepIn K (.ref f12) = true)
    (a13 : PySem.W.nsIn K mainGlobals "_law_right" = some (some (.ref f13))) (l13 : K.lookup f13 = some ⟨oc13, od13, .func (PySem.W.fnOf "_law_right" "_law_right" (defArgs s_right) (defBody s_right) (defScope s_right) .none kV13 dc13 pm13 an13 cd13 ct13), sl13⟩) (c13 : PySem.W.codeIn K cd13 "_law_right" = true) (k13 : PySem.W.keepIn K (.ref f13) = true)
    (a14 : PySem.W.nsIn K mainGlobals "law" = some (some (.ref f14))) (l14 : K.lookup f14 = some ⟨oc14, od14, .func (PySem.W.fnOf "law" "law" (defArgs s_law) (defBody s_law) (defScope s_law) .none kV14 dc14 pm14 an14 cd14 ct14), sl14⟩) (c14 : PySem.W.codeIn K cd14 "law" = true) (k14 : PySem.W.keepIn K (.ref f14) = true)
    {t_LEAST_WIDTH : Tok} (v_LEAST_WIDTH : PySem.W.nsIn K mainGlobals "LEAST_WIDTH" = some (some (.int 20 t_LEAST_WIDTH)))
    (z_abs : PySem.W.nsIn K mainGlobals "abs" = some none)
    (z_bool : PySem.W.nsIn K mainGlobals "bool" = some none)
    (z_int : PySem.W.nsIn K mainGlobals "int" = some none)
    (z_isinstance : PySem.W.nsIn K mainGlobals "isinstance" = some none)
    (z_len : PySem.W.nsIn K mainGlobals "len" = some none)
    (z_list : PySem.W.nsIn K mainGlobals "list" = some none)
    (z_max : PySem.W.nsIn K mainGlobals "max" = some none)
    (z_range : PySem.W.nsIn K mainGlobals "range" = some none)
    (z_reversed : PySem.W.nsIn K mainGlobals "reversed" = some none)
    (z_sum : PySem.W.nsIn K mainGlobals "sum" = some none)
    (z_tuple : PySem.W.nsIn K mainGlobals "tuple" = some none)
    : ∃ fd : FuncData, (∀ (s : Shared) (v : Value), BindsTo s fd ⟨[v], []⟩ [("_law_script", v)]) ∧ ∀ base : Heap, K.In base → base.Ns mainGlobals mg → FnOk l.prog w K mg base CX0 6 fa fd ["_law_script"] (sp_law K) := by
  have e := hfa.symm.trans (PySem.W.mg_of X G a14)
  cases e
  have F0 := fun_mk (st := s_token_width) l0 c0 k0
  have b0 := F0.binds (ps := ["token"]) fun _ _ _ _ _ _ us hl => match us, hl with | [_], _ => rfl
  have F1 := fun_mk (st := s_set_lines) l1 c1 k1
  have b1 := F1.binds (ps := ["tokens", "width"]) fun _ _ _ _ _ _ us hl => match us, hl with | [_, _], _ => rfl
  have F2 := fun_mk (st := s_row_ends) l2 c2 k2
  have b2 := F2.binds (ps := ["widths", "width"]) fun _ _ _ _ _ _ us hl => match us, hl with | [_, _], _ => rfl
  have F3 := fun_mk (st := s_fill_ends) l3 c3 k3
  have b3 := F3.binds (ps := ["widths", "width", "costs", "ends", "span"]) fun _ _ _ _ _ _ us hl => match us, hl with | [_, _, _, _, _], _ => rfl
  have F4 := fun_mk (st := s_width_changes) l4 c4 k4
  have b4 := F4.binds (ps := ["tokens", "most"]) fun _ _ _ _ _ _ us hl => match us, hl with | [_, _], _ => rfl
  have F5 := fun_mk (st := s_source) l5 c5 k5
  have b5 := F5.binds (ps := ["_law_script", "_law_k"]) fun _ _ _ _ _ _ us hl => match us, hl with | [_, _], _ => rfl
  have F6 := fun_mk (st := s_pick) l6 c6 k6
  have b6 := F6.binds (ps := ["_law_source_here", "_law_many"]) fun _ _ _ _ _ _ us hl => match us, hl with | [_, _], _ => rfl
  have F7 := fun_mk (st := s_is_integer) l7 c7 k7
  have b7 := F7.binds (ps := ["_law_actual"]) fun _ _ _ _ _ _ us hl => match us, hl with | [_], _ => rfl
  have F8 := fun_mk (st := s_width) l8 c8 k8
  have b8 := F8.binds (ps := ["_law_token_here"]) fun _ _ _ _ _ _ us hl => match us, hl with | [_], _ => rfl
  have F9 := fun_mk (st := s_cut) l9 c9 k9
  have b9 := F9.binds (ps := ["_law_widths", "_law_limit"]) fun _ _ _ _ _ _ us hl => match us, hl with | [_, _], _ => rfl
  have F10 := fun_mk (st := s_rows) l10 c10 k10
  have b10 := F10.binds (ps := ["_law_tokens", "_law_limit"]) fun _ _ _ _ _ _ us hl => match us, hl with | [_, _], _ => rfl
  have F11 := fun_mk (st := s_token) l11 c11 k11
  have b11 := F11.binds (ps := ["_law_source_here", "_law_wide"]) fun _ _ _ _ _ _ us hl => match us, hl with | [_, _], _ => rfl
  have F12 := fun_mk (st := s_some_tokens) l12 c12 k12
  have b12 := F12.binds (ps := ["_law_source_here"]) fun _ _ _ _ _ _ us hl => match us, hl with | [_], _ => rfl
  have F13 := fun_mk (st := s_right) l13 c13 k13
  have b13 := F13.binds (ps := ["_law_tokens", "_law_most"]) fun _ _ _ _ _ _ us hl => match us, hl with | [_, _], _ => rfl
  have F14 := fun_mk (st := s_law) l14 c14 k14
  have b14 := F14.binds (ps := ["_law_script"]) fun _ _ _ _ _ _ us hl => match us, hl with | [_], _ => rfl
  let T : Tab K mg := ⟨_, _, F0, b0, PySem.W.mg_of X G a0, _, _, F1, b1, PySem.W.mg_of X G a1, _, _, F2, b2, PySem.W.mg_of X G a2, _, _, F3, b3, PySem.W.mg_of X G a3, _, _, F4, b4, PySem.W.mg_of X G a4, _, _, F5, b5, PySem.W.mg_of X G a5, _, _, F6, b6, PySem.W.mg_of X G a6, _, _, F7, b7, PySem.W.mg_of X G a7, _, _, F8, b8, PySem.W.mg_of X G a8, _, _, F9, b9, PySem.W.mg_of X G a9, _, _, F10, b10, PySem.W.mg_of X G a10, _, _, F11, b11, PySem.W.mg_of X G a11, _, _, F12, b12, PySem.W.mg_of X G a12, _, _, F13, b13, PySem.W.mg_of X G a13, _, _, F14, b14, PySem.W.mg_of X G a14, _, PySem.W.mg_of X G v_LEAST_WIDTH, PySem.W.mg_none_of X G z_abs, PySem.W.mg_none_of X G z_bool, PySem.W.mg_none_of X G z_int, PySem.W.mg_none_of X G z_isinstance, PySem.W.mg_none_of X G z_len, PySem.W.mg_none_of X G z_list, PySem.W.mg_none_of X G z_max, PySem.W.mg_none_of X G z_range, PySem.W.mg_none_of X G z_reversed, PySem.W.mg_none_of X G z_sum, PySem.W.mg_none_of X G z_tuple⟩
  exact ⟨PySem.W.fnOf "law" "law" (defArgs s_law) (defBody s_law) (defScope s_law) .none kV14 dc14 pm14 an14 cd14 ct14, fun s v => .of_eq rfl, fun base _ _ => ok_law T⟩
end K18
open PySem PySem.W PyProof.Rows
set_option maxRecDepth 100000 in
set_option maxHeartbeats 0 in
theorem PySem.Challenge.cw_afterleaves_k18_whole_width_changes_holds : PySem.Challenge.rw_afterleaves_k18_whole_width_changes.Holds := by
  w_on; o_law; k_head; (case hw => w_witness2)
  k_fill
  refine L2.walk_of (l := PySem.Challenge.rw_afterleaves_k18_whole_width_changes) (n := 63) (k := 6) (x := "_law_script") (CX := fun _ => L2.CX0) (sp := fun w => K18.sp_law _) rfl (by decide) rfl ⟨rfl, by decide, by decide⟩ (fun w h Y => PySem.W.kIn_of Y) ?F (fun _ _ a ns hl _ hS => ⟨a, ns, rfl, hS, hl, fun _ => rfl⟩) (fun _ _ _ _ _ h => h)
  case F =>
    intro w mg fa h KX G hmg
    refine' K18.all_mk KX G hmg ?a0 ?l0 ?c0 ?k0 ?a1 ?l1 ?c1 ?k1 ?a2 ?l2 ?c2 ?k2 ?a3 ?l3 ?c3 ?k3 ?a4 ?l4 ?c4 ?k4 ?a5 ?l5 ?c5 ?k5 ?a6 ?l6 ?c6 ?k6 ?a7 ?l7 ?c7 ?k7 ?a8 ?l8 ?c8 ?k8 ?a9 ?l9 ?c9 ?k9 ?a10 ?l10 ?c10 ?k10 ?a11 ?l11 ?c11 ?k11 ?a12 ?l12 ?c12 ?k12 ?a13 ?l13 ?c13 ?k13 ?a14 ?l14 ?c14 ?k14 ?v_LEAST_WIDTH ?z_abs ?z_bool ?z_int ?z_isinstance ?z_len ?z_list ?z_max ?z_range ?z_reversed ?z_sum ?z_tuple
    (case a0 => k_is)
    (case l0 => k_is)
    (case c0 => k_is)
    (case k0 => k_is)
    (case a1 => k_is)
    (case l1 => k_is)
    (case c1 => k_is)
    (case k1 => k_is)
    (case a2 => k_is)
    (case l2 => k_is)
    (case c2 => k_is)
    (case k2 => k_is)
    (case a3 => k_is)
    (case l3 => k_is)
    (case c3 => k_is)
    (case k3 => k_is)
    (case a4 => k_is)
    (case l4 => k_is)
    (case c4 => k_is)
    (case k4 => k_is)
    (case a5 => k_is)
    (case l5 => k_is)
    (case c5 => k_is)
    (case k5 => k_is)
    (case a6 => k_is)
    (case l6 => k_is)
    (case c6 => k_is)
    (case k6 => k_is)
    (case a7 => k_is)
    (case l7 => k_is)
    (case c7 => k_is)
    (case k7 => k_is)
    (case a8 => k_is)
    (case l8 => k_is)
    (case c8 => k_is)
    (case k8 => k_is)
    (case a9 => k_is)
    (case l9 => k_is)
    (case c9 => k_is)
    (case k9 => k_is)
    (case a10 => k_is)
    (case l10 => k_is)
    (case c10 => k_is)
    (case k10 => k_is)
    (case a11 => k_is)
    (case l11 => k_is)
    (case c11 => k_is)
    (case k11 => k_is)
    (case a12 => k_is)
    (case l12 => k_is)
    (case c12 => k_is)
    (case k12 => k_is)
    (case a13 => k_is)
    (case l13 => k_is)
    (case c13 => k_is)
    (case k13 => k_is)
    (case a14 => k_is)
    (case l14 => k_is)
    (case c14 => k_is)
    (case k14 => k_is)
    (case v_LEAST_WIDTH => k_is)
    (case z_abs => k_is)
    (case z_bool => k_is)
    (case z_int => k_is)
    (case z_isinstance => k_is)
    (case z_len => k_is)
    (case z_list => k_is)
    (case z_max => k_is)
    (case z_range => k_is)
    (case z_reversed => k_is)
    (case z_sum => k_is)
    (case z_tuple => k_is)

import PyProof.Rows.All
import Wide.All
import OpenK.AllK
import Wide.FinOn
import HandS.ForMost
import HandS.Codes
import HandS.IsInst
import HandS.Walk
import HandS.DeepEq
import PySem.Challenge.RW_afterleaves_k13_costs
set_option Elab.async false
set_option linter.all false
set_option maxRecDepth 100000
set_option maxHeartbeats 4000000
namespace K13
open PySem PySem.Spec PyProof.Rows L2
/-! ### the text -/
def topS (i : Nat) : Stmt := PySem.Challenge.pw_afterleaves_k13_costs.main.body.getD i (.Pass ⟨0, 0, 0, 0⟩)
abbrev s_token_width : Stmt := topS 1
abbrev N_token_width : List Str := ["token"]
theorem sc_token_width : FnScope N_token_width ["token"] (defScope s_token_width) := ⟨rfl, rfl, rfl, by decide +kernel, rfl, by decide +kernel, by decide +kernel⟩
abbrev s_row_width : Stmt := topS 2
abbrev N_row_width : List Str := ["row"]
theorem sc_row_width : FnScope N_row_width ["row"] (defScope s_row_width) := ⟨rfl, rfl, rfl, by decide +kernel, rfl, by decide +kernel, by decide +kernel⟩
abbrev s_line_cost : Stmt := topS 3
abbrev N_line_cost : List Str := ["rows", "width", "row"]
theorem sc_line_cost : FnScope N_line_cost ["rows", "width"] (defScope s_line_cost) := ⟨rfl, rfl, rfl, by decide +kernel, rfl, by decide +kernel, by decide +kernel⟩
abbrev s_source : Stmt := topS 5
abbrev N_source : List Str := ["_law_script", "_law_k", "_law_cell", "_law_number", "_law_great"]
theorem sc_source : FnScope N_source ["_law_script", "_law_k"] (defScope s_source) := ⟨rfl, rfl, rfl, by decide +kernel, rfl, by decide +kernel, by decide +kernel⟩
abbrev s_pick : Stmt := topS 6
abbrev N_pick : List Str := ["_law_source_here", "_law_many", "_law_taken"]
theorem sc_pick : FnScope N_pick ["_law_source_here", "_law_many"] (defScope s_pick) := ⟨rfl, rfl, rfl, by decide +kernel, rfl, by decide +kernel, by decide +kernel⟩
abbrev s_is_integer : Stmt := topS 7
abbrev N_is_integer : List Str := ["_law_actual"]
theorem sc_is_integer : FnScope N_is_integer ["_law_actual"] (defScope s_is_integer) := ⟨rfl, rfl, rfl, by decide +kernel, rfl, by decide +kernel, by decide +kernel⟩
abbrev s_width : Stmt := topS 8
abbrev N_width : List Str := ["_law_token_here"]
theorem sc_width : FnScope N_width ["_law_token_here"] (defScope s_width) := ⟨rfl, rfl, rfl, by decide +kernel, rfl, by decide +kernel, by decide +kernel⟩
abbrev s_token : Stmt := topS 9
abbrev N_token : List Str := ["_law_source_here", "_law_signs", "_law_token_here", "_law_step"]
theorem sc_token : FnScope N_token ["_law_source_here"] (defScope s_token) := ⟨rfl, rfl, rfl, by decide +kernel, rfl, by decide +kernel, by decide +kernel⟩
abbrev s_some_rows : Stmt := topS 10
abbrev N_some_rows : List Str := ["_law_source_here", "_law_limit", "_law_rows", "_law_step", "_law_row", "_law_turn", "_law_longer"]
theorem sc_some_rows : FnScope N_some_rows ["_law_source_here", "_law_limit"] (defScope s_some_rows) := ⟨rfl, rfl, rfl, by decide +kernel, rfl, by decide +kernel, by decide +kernel⟩
abbrev s_due : Stmt := topS 11
abbrev N_due : List Str := ["_law_rows", "_law_limit", "_law_due_here", "_law_at", "_law_lack"]
theorem sc_due : FnScope N_due ["_law_rows", "_law_limit"] (defScope s_due) := ⟨rfl, rfl, rfl, by decide +kernel, rfl, by decide +kernel, by decide +kernel⟩
abbrev s_right : Stmt := topS 12
abbrev N_right : List Str := ["_law_rows", "_law_limit", "_law_wide", "_law_actual", "_law_listed", "_law_again"]
theorem sc_right : FnScope N_right ["_law_rows", "_law_limit"] (defScope s_right) := ⟨rfl, rfl, rfl, by decide +kernel, rfl, by decide +kernel, by decide +kernel⟩
abbrev s_law : Stmt := topS 13
abbrev N_law : List Str := ["_law_script", "_law_seen", "_law_k", "_law_source_here", "_law_limit", "_law_rows", "_law_one"]
theorem sc_law : FnScope N_law ["_law_script"] (defScope s_law) := ⟨rfl, rfl, rfl, by decide +kernel, rfl, by decide +kernel, by decide +kernel⟩
structure Tab (K : PySem.W.Frag) (mg : Str → Option Value) where
  f_token_width : Addr
  d_token_width : FuncData
  F_token_width : Fun K "token_width" "token_width" s_token_width f_token_width d_token_width
  b_token_width : Binds K d_token_width ["token"] []
  g_token_width : mg "token_width" = some (.ref f_token_width)
  f_row_width : Addr
  d_row_width : FuncData
  F_row_width : Fun K "row_width" "row_width" s_row_width f_row_width d_row_width
  b_row_width : Binds K d_row_width ["row"] []
  g_row_width : mg "row_width" = some (.ref f_row_width)
  f_line_cost : Addr
  d_line_cost : FuncData
  F_line_cost : Fun K "line_cost" "line_cost" s_line_cost f_line_cost d_line_cost
  b_line_cost : Binds K d_line_cost ["rows", "width"] []
  g_line_cost : mg "line_cost" = some (.ref f_line_cost)
  f_source : Addr
  d_source : FuncData
  F_source : Fun K "_law_source" "_law_source" s_source f_source d_source
  b_source : Binds K d_source ["_law_script", "_law_k"] []
  g_source : mg "_law_source" = some (.ref f_source)
  f_pick : Addr
  d_pick : FuncData
  F_pick : Fun K "_law_pick" "_law_pick" s_pick f_pick d_pick
  b_pick : Binds K d_pick ["_law_source_here", "_law_many"] []
  g_pick : mg "_law_pick" = some (.ref f_pick)
  f_is_integer : Addr
  d_is_integer : FuncData
  F_is_integer : Fun K "_law_is_integer" "_law_is_integer" s_is_integer f_is_integer d_is_integer
  b_is_integer : Binds K d_is_integer ["_law_actual"] []
  g_is_integer : mg "_law_is_integer" = some (.ref f_is_integer)
  f_width : Addr
  d_width : FuncData
  F_width : Fun K "_law_width" "_law_width" s_width f_width d_width
  b_width : Binds K d_width ["_law_token_here"] []
  g_width : mg "_law_width" = some (.ref f_width)
  f_token : Addr
  d_token : FuncData
  F_token : Fun K "_law_token" "_law_token" s_token f_token d_token
  b_token : Binds K d_token ["_law_source_here"] []
  g_token : mg "_law_token" = some (.ref f_token)
  f_some_rows : Addr
  d_some_rows : FuncData
  F_some_rows : Fun K "_law_some_rows" "_law_some_rows" s_some_rows f_some_rows d_some_rows
  b_some_rows : Binds K d_some_rows ["_law_source_here", "_law_limit"] []
  g_some_rows : mg "_law_some_rows" = some (.ref f_some_rows)
  f_due : Addr
  d_due : FuncData
  F_due : Fun K "_law_due" "_law_due" s_due f_due d_due
  b_due : Binds K d_due ["_law_rows", "_law_limit"] []
  g_due : mg "_law_due" = some (.ref f_due)
  f_right : Addr
  d_right : FuncData
  F_right : Fun K "_law_right" "_law_right" s_right f_right d_right
  b_right : Binds K d_right ["_law_rows", "_law_limit"] []
  g_right : mg "_law_right" = some (.ref f_right)
  f_law : Addr
  d_law : FuncData
  F_law : Fun K "law" "law" s_law f_law d_law
  b_law : Binds K d_law ["_law_script"] []
  g_law : mg "law" = some (.ref f_law)
  m_abs : mg "abs" = none
  m_bool : mg "bool" = none
  m_int : mg "int" = none
  m_isinstance : mg "isinstance" = none
  m_len : mg "len" = none
  m_list : mg "list" = none
  m_max : mg "max" = none
  m_min : mg "min" = none
  m_range : mg "range" = none
  m_sum : mg "sum" = none
  m_tuple : mg "tuple" = none
/-! ### heaps and sources -/
theorem same_upd {H : Hp} {p : Addr} {o : HO} (h : H p = none) : Same H (upd H p o) := fun b x e => by
  rw [upd_ne (ne_of_none e h)]
  exact e
/-- all but a stand as they stood -/
def But (a : Addr) (H H' : Hp) : Prop := ∀ b o, b ≠ a → H b = some o → H' b = some o
theorem But.refl (a : Addr) (H : Hp) : But a H H := fun _ _ _ e => e
theorem But.trans {a : Addr} {H H1 H2 : Hp} (x : But a H H1) (y : But a H1 H2) : But a H H2 := fun b o n e => y b o n (x b o n e)
theorem But.of {a : Addr} {H H1 : Hp} (x : Same H H1) : But a H H1 := fun b o _ e => x b o e
theorem But.upd {a : Addr} {H : Hp} (o : HO) : But a H (upd H a o) := fun b u n e => by
  rw [upd_ne n]
  exact e
/-- what changes is not there at first -/
theorem But.same {a : Addr} {H0 H H' : Hp} (n : H0 a = none) (s : Same H0 H) (x : But a H H') : Same H0 H' := fun b o e => x b o (ne_of_none e n) (s b o e)
/-- a source of numbers: three ints -/
def Src (H : Hp) (a : Addr) : Prop := ∃ g x c : Int, H a = some (.lst [.int g, .int x, .int c])
theorem cut_map (ns : List Int) (lo hi : Option Int) : ∃ ms : List Int, cutV (ns.map V.int) lo hi = ms.map V.int := by
  unfold cutV
  exact ⟨_, by rw [← List.map_drop, ← List.map_take]⟩
theorem at_of' {α : Type} {xs : List α} {z : Int} {j : Nat} {v : α} (e : z = (j : Int)) (h : xs[j]? = some v) : atI xs z = some v := by
  subst e
  exact atI_nat h
theorem str_len_snoc (z : Str) (c : Nat) : (z ++ (⟨#[c]⟩ : Str)).length = z.length + 1 := by
  show (z.cps ++ #[c]).size = z.cps.size + 1
  rw [Array.size_append]
  rfl
theorem But.none {a D : Addr} {H H3 : Hp} (x : But a H H3) (n : H3 D = .none) (h : D ≠ a) : H D = .none := by
  cases e : H D with
  | none => rfl
  | some o =>
    rw [x D o h e] at n
    cases n
theorem But.put {a D : Addr} {H H' : Hp} (x : But a H H') (n : H D = .none) (o : HO) : But a H (L2.upd H' D o) := fun b u nb e => by
  rw [upd_ne (ne_of_none e n)]
  exact x b u nb e
theorem Src.put {a D : Addr} {H : Hp} (x : Src H a) (n : a ≠ D) (o : HO) : Src (upd H D o) a := by
  obtain ⟨g, y, c, e⟩ := x
  exact ⟨g, y, c, by rw [upd_ne n]; exact e⟩
theorem Src.ne {a D : Addr} {H : Hp} (x : Src H a) (n : H D = .none) : a ≠ D := by
  obtain ⟨g, y, c, e⟩ := x
  exact ne_of_none e n
theorem get_map {xs : List Str} {i : Nat} {x : V} (h : (xs.map V.str)[i]? = some x) : ∃ z, x = .str z ∧ xs[i]? = some z := by
  rw [List.getElem?_map] at h
  cases e : xs[i]? with
  | none => rw [e] at h; cases h
  | some z => rw [e] at h; exact ⟨z, (Option.some.inj h).symm, rfl⟩
theorem get_mapR {xs : List Addr} {i : Nat} {x : V} (h : (xs.map V.ref)[i]? = some x) : ∃ z, x = .ref z ∧ z ∈ xs := by
  rw [List.getElem?_map] at h
  cases e : xs[i]? with
  | none => rw [e] at h; cases h
  | some z => rw [e] at h; exact ⟨z, (Option.some.inj h).symm, List.mem_of_getElem? e⟩
section
variable {X : Cx} {tg e : Expr} {w1 w2 : TI}
theorem pi_or (a : PI X tg e w1) (b : PI X tg e w2) : PI X tg e (fun σ H R => w1 σ H R ∨ w2 σ H R) :=
  ⟨fun pins s σ H R I h => h.elim (fun h => a.run pins s σ H R I h) (fun h => b.run pins s σ H R I h)⟩
theorem op_rep_str : OpR X (binaryOp .Mult) (fun x y H Q => ∃ z n, x = .str z ∧ y = .int n ∧ PySem.MulOk z n ∧ Q (.str (Txt.mul z n)) H) := by
  intro pins s σ H x y v u Q I rx ry h
  obtain ⟨z, n, rfl, rfl, hm, q⟩ := h
  obtain ⟨t, rfl⟩ := rx
  obtain ⟨t', rfl⟩ := ry
  exact PySem.SB.mul hm (fun t' tk => ⟨.str _, H, I.tok _, ⟨_, rfl⟩, q⟩)
end
theorem eq_strs {K : PySem.W.Frag} {H : Hp} : ∀ zs : List Str, Paired (EqV K H 1) (zs.map V.str) (zs.map V.str)
  | [] => .nil
  | z :: r => .cons (.inl ⟨rfl, rfl⟩) (eq_strs r)
/-! ### the mathematics -/
def widL (l : List Nat) : Int := (l.length : Int) + cnt 109 l + cnt 119 l
def wid (z : Str) : Int := widL z.cps.toList
theorem wid_of (z : Str) : (z.length : Int) + Txt.count z "m" + Txt.count z "w" = wid z := by
  rw [show ("m" : Str) = ⟨#[109]⟩ from rfl, show ("w" : Str) = ⟨#[119]⟩ from rfl, count_cnt, count_cnt]
  rfl
theorem widL_snoc (l : List Nat) (c : Nat) : widL (l ++ [c]) = widL l + 1 + (if c = 109 ∨ c = 119 then 1 else 0) := by
  unfold widL
  rw [cnt_append, cnt_append, List.length_append, cnt_cons, cnt_cons, cnt_nil, cnt_nil]
  simp only [List.length_cons, List.length_nil]
  by_cases h1 : c = 109
  · subst h1; simp; omega
  · by_cases h2 : c = 119
    · subst h2; simp; omega
    · simp [h1, h2]; omega
def sumW : List Str → Int
  | [] => 0
  | z :: r => wid z + sumW r
theorem sumW_snoc (zs : List Str) (z : Str) : sumW (zs ++ [z]) = sumW zs + wid z := by
  induction zs with
  | nil => show wid z + 0 = 0 + wid z; omega
  | cons y r ih => show wid y + sumW (r ++ [z]) = wid y + sumW r + wid z; rw [ih]; omega
theorem widL_app (a b : List Nat) : widL (a ++ b) = widL a + widL b := by
  unfold widL
  rw [cnt_append, cnt_append, List.length_append]
  omega
theorem wid_app (a b : Str) : wid (a ++ b) = wid a + wid b := by
  unfold wid
  rw [show (a ++ b).cps.toList = a.cps.toList ++ b.cps.toList from cps_toList_append a b, widL_app]
theorem join_cc (sep x y : Str) (r : List Str) : Txt.join sep (x :: y :: r) = x ++ sep ++ Txt.join sep (y :: r) := by
  unfold Txt.join
  rw [StrLaws.glued_eq_join, StrLaws.glued_eq_join]
  rfl
theorem wid_join : ∀ zs : List Str, zs ≠ [] → wid (Txt.join " " zs) = sumW zs + (zs.length : Int) - 1
  | [], h => absurd rfl h
  | [x], _ => by
    show wid x = wid x + 0 + 1 - 1
    omega
  | x :: y :: r, _ => by
    have ih := wid_join (y :: r) (List.cons_ne_nil _ _)
    have e : Txt.join " " (x :: y :: r) = x ++ " " ++ Txt.join " " (y :: r) := join_cc " " x y r
    rw [e, wid_app, wid_app, ih]
    have e1 : wid " " = 1 := by decide +kernel
    rw [e1]
    show wid x + 1 + (sumW (y :: r) + ((y :: r).length : Int) - 1) = wid x + sumW (y :: r) + ((r.length + 1 + 1 : Nat) : Int) - 1
    simp only [List.length_cons]
    omega
theorem join_len : ∀ zs : List Str, (∀ z ∈ zs, z.length ≤ 20) → (Txt.join " " zs).length ≤ 21 * zs.length
  | [], _ => by decide +kernel
  | [x], h => by
    have := h x (List.mem_singleton.mpr rfl)
    show x.length ≤ 21 * 1
    omega
  | x :: y :: r, h => by
    have ih := join_len (y :: r) (fun z hz => h z (List.mem_cons_of_mem _ hz))
    have hx := h x (List.mem_cons_self ..)
    have e : Txt.join " " (x :: y :: r) = x ++ " " ++ Txt.join " " (y :: r) := join_cc " " x y r
    have l : ∀ a b : Str, (a ++ b).length = a.length + b.length := fun a b => by
      show (a.cps ++ b.cps).size = _
      rw [Array.size_append]; rfl
    rw [e, l, l]
    have e1 : (" " : Str).length = 1 := by decide +kernel
    rw [e1]
    simp only [List.length_cons] at ih ⊢
    omega
theorem sum_le (zs : List Str) (h : ∀ z ∈ zs, z.length ≤ 20) : (zs.map (·.length)).sum ≤ 20 * zs.length := by
  induction zs with
  | nil => exact Nat.le_refl _
  | cons z r ih =>
    have h1 := h z (List.mem_cons_self ..)
    have h2 := ih fun y hy => h y (List.mem_cons_of_mem _ hy)
    simp only [List.map_cons, List.sum_cons, List.length_cons]
    omega
def cost (w : Int) : List Str → Int
  | [] => 0
  | z :: r => (w - wid z) * (w - wid z) + cost w r
theorem cost_snoc (w : Int) (zs : List Str) (z : Str) : cost w (zs ++ [z]) = cost w zs + (w - wid z) * (w - wid z) := by
  induction zs with
  | nil => show (w - wid z) * (w - wid z) + 0 = 0 + _; omega
  | cons y r ih => show _ + cost w (r ++ [z]) = _ + cost w r + _; rw [ih, ← Int.add_assoc]
theorem cnt_ge (c : Nat) : ∀ l : List Nat, 0 ≤ cnt c l ∧ cnt c l ≤ l.length
  | [] => ⟨Int.le_refl _, Int.le_refl _⟩
  | n :: r => by
    have ih := cnt_ge c r
    rw [cnt_cons, List.length_cons]
    split <;> omega
theorem wid_ge (z : Str) : (z.length : Int) ≤ wid z ∧ wid z ≤ 3 * z.length := by
  have h1 := cnt_ge 109 z.cps.toList
  have h2 := cnt_ge 119 z.cps.toList
  have e : wid z = (z.cps.toList.length : Int) + cnt 109 z.cps.toList + cnt 119 z.cps.toList := rfl
  have l : z.cps.toList.length = z.length := rfl
  omega
theorem sq2 (i : Int) : i ^ (2 : Int).toNat = i * i := by
  show i ^ 2 = i * i
  rw [Int.pow_succ, Int.pow_succ, Int.pow_zero, Int.one_mul]
theorem sIx_m1 (n : Nat) : HT.sIx n n (some (-1)) = n - 1 := by
  show ((-1 : Int) + (n : Int)).toNat = n - 1
  omega
theorem cut_last (xs : List V) : cutV xs none (some (-1)) = xs.dropLast := by
  unfold cutV
  rw [sIx_m1, HT.sIx_none, List.drop_zero, Nat.sub_zero, List.dropLast_eq_take]
theorem cut_one (ys : List V) (y : V) : cutV (ys ++ [y]) (some (-1)) none = [y] := by
  unfold cutV
  rw [show HT.sIx (ys ++ [y]).length 0 (some (-1)) = ys.length by
    show ((-1 : Int) + ((ys ++ [y]).length : Int)).toNat = ys.length
    rw [List.length_append, List.length_singleton]
    omega, HT.sIx_none, List.drop_left' rfl, List.length_append, List.length_singleton]
  rw [show ys.length + 1 - ys.length = 1 by omega]
  rfl
theorem pow_ok {w : Int} {z : Str} (h1 : 0 ≤ w) (h2 : w ≤ 100) (hz : z.length ≤ 100) : (w - wid z).natAbs < 2 ^ 64 := by
  have := wid_ge z
  have e : (2 : Nat) ^ 64 = 18446744073709551616 := by decide
  omega
theorem mul_ok {z : Str} {n : Int} (hz : z.length ≤ 100) (h0 : -1000 ≤ n) (hn : n ≤ 1000) : PySem.MulOk z n := by
  have e : (2 : Int) ^ 63 = 9223372036854775808 := by decide
  refine ⟨?_, fun h1 _ h => ?_, fun h1 _ => ?_⟩
  · rw [decide_eq_false (by omega), decide_eq_false (by omega)]
    rfl
  · have : (100 : Int) ≤ (2 ^ 63 - 1) / n := Int.le_ediv_of_mul_le (by omega) (by omega)
    omega
  · have h2 : z.length * n.toNat ≤ 100 * 1000 := Nat.mul_le_mul hz (by omega)
    have e2 : sizeLine = 16777216 := by decide
    exact decide_eq_false (by omega)
theorem cut_take (xs : List V) (k : Nat) : cutV xs none (some (k : Int)) = xs.take k := by
  unfold cutV
  rw [HT.sIx_nat, HT.sIx_none, List.drop_zero, Nat.sub_zero, ← List.take_eq_take_min]
theorem len_app (x y : Str) : (x ++ y).length = x.length + y.length := by
  show (x.cps ++ y.cps).size = _
  rw [Array.size_append]; rfl
section
variable {P : Program} {w : World} {K : PySem.W.Frag} {mg : Str → Option Value} {base : Heap}
/-! ### the promises -/
def sp_token_width (K : PySem.W.Frag) : Sp := fun vs H Q _ => ∃ z : Str, vs = [.str z] ∧ z.length ≤ sizeLine ∧ Q (.int (wid z)) H
def sp_row_width (K : PySem.W.Frag) : Sp := fun vs H Q _ => ∃ z : Str, vs = [.str z] ∧ z.length ≤ sizeLine ∧ Q (.int (wid z)) H
def sp_width (K : PySem.W.Frag) : Sp := fun vs H Q _ => ∃ z : Str, vs = [.str z] ∧ z.length ≤ sizeLine ∧ Q (.int (wid z)) H
/-- rows -/
def Rows (zs : List Str) : Prop := zs ≠ [] ∧ zs.length ≤ 30 ∧ ∀ z ∈ zs, z.length ≤ 100
def sp_line_cost (K : PySem.W.Frag) : Sp := fun vs H Q _ => ∃ (a : Addr) (zs : List Str) (w : Int), vs = [.ref a, .int w] ∧ (SqL K H a (zs.map V.str) ∨ SqT K H a (zs.map V.str)) ∧ Rows zs ∧ 0 ≤ w ∧ w ≤ 100 ∧ ∀ H', Same H H' → Q (.int (cost w zs.dropLast)) H'
def sp_source (K : PySem.W.Frag) : Sp := fun vs H Q _ => ∃ (a : Addr) (ns : List Int) (k : Nat), vs = [.ref a, .int k] ∧ SqL K H a (ns.map V.int) ∧ ∀ p H', Same H H' → H p = none → Src H' p → Q (.ref p) H'
def sp_pick (K : PySem.W.Frag) : Sp := fun vs H Q _ => ∃ (a : Addr) (m : Int), vs = [.ref a, .int m] ∧ Src H a ∧ 1 ≤ m ∧ m ≤ 1000000 ∧ ∀ r H', Src H' a → But a H H' → 0 ≤ r → r < m → Q (.int r) H'
def sp_is_integer (K : PySem.W.Frag) : Sp := fun vs H Q _ => ∃ i : Int, vs = [.int i] ∧ Q (.bl true) H
def sp_token (K : PySem.W.Frag) : Sp := fun vs H Q _ => ∃ a : Addr, vs = [.ref a] ∧ Src H a ∧ ∀ (z : Str) H', Src H' a → But a H H' → z.length ≤ 9 → Q (.str z) H'
def sp_some_rows (K : PySem.W.Frag) : Sp := fun vs H Q _ => ∃ (a : Addr) (lim : Int), vs = [.ref a, .int lim] ∧ Src H a ∧ 20 ≤ lim ∧ lim ≤ 60 ∧ ∀ (zs : List Str) p H', H p = none → But a H H' → H' p = some (.lst (zs.map V.str)) → Rows zs → Q (.ref p) H'
def sp_due (K : PySem.W.Frag) : Sp := fun vs H Q _ => ∃ (a : Addr) (zs : List Str) (w : Int), vs = [.ref a, .int w] ∧ SqL K H a (zs.map V.str) ∧ Rows zs ∧ 0 ≤ w ∧ w ≤ 100 ∧ Q (.int (cost w zs.dropLast)) H
def sp_right (K : PySem.W.Frag) : Sp := fun vs H Q _ => ∃ (a : Addr) (zs : List Str) (w : Int), vs = [.ref a, .int w] ∧ SqL K H a (zs.map V.str) ∧ Rows zs ∧ 20 ≤ w ∧ w ≤ 60 ∧ ∀ H', Same H H' → Q (.bl true) H'
def sp_law (K : PySem.W.Frag) : Sp := fun vs H Q _ => ∃ (a : Addr) (ns : List Int), vs = [.ref a] ∧ SqL K H a (ns.map V.int) ∧ ns.length ≤ 63 ∧ ∀ H', Q (.bl true) H'
theorem ok_token_width (T : Tab K mg) : FnOk P w K mg base CX0 1 T.f_token_width T.d_token_width ["token"] (sp_token_width K) := by
  refine T.F_token_width.ok sc_token_width (fun vs H Q E h => ?_) (fun cdv A outer s H vs Q E hr h => ?_)
  · obtain ⟨z, rfl, _⟩ := h
    rfl
  · obtain ⟨z, rfl, hz, q⟩ := h
    refine ⟨_, (pss_one (ps_ret (pe_op op_add (pe_op op_add (pe_callB call_len_str (by rfl) T.m_len PySem.boot_len (pa_cons (pv 0) pa_nil)) (pe_m1 PySem.F.slot_str_count PySem.F.type_str_count mt_count (pv 0) pe_str)) (pe_m1 PySem.F.slot_str_count PySem.F.type_str_count mt_count (pv 0) pe_str)))), ?_⟩
    refine ⟨_, rfl, _, rfl, hz, _, rfl, ⟨_, rfl⟩, _, _, rfl, rfl, _, _, rfl, rfl, _, rfl, ⟨_, rfl⟩, _, _, rfl, rfl, _, _, rfl, rfl, ?_⟩
    rw [← wid_of] at q
    exact q
theorem ok_row_width (T : Tab K mg) : FnOk P w K mg base CX0 2 T.f_row_width T.d_row_width ["row"] (sp_row_width K) := by
  refine T.F_row_width.ok sc_row_width (fun vs H Q E h => ?_) (fun cdv A outer s H vs Q E hr h => ?_)
  · obtain ⟨z, rfl, _⟩ := h
    rfl
  · obtain ⟨z, rfl, hz, q⟩ := h
    refine ⟨_, (pss_one (ps_ret (pe_call (ok_token_width T) (hr.mono (by decide)) (by rfl) T.g_token_width T.F_token_width.kp T.b_token_width .nil pass0 (pa_cons (pv 0) pa_nil)))), ?_⟩
    exact ⟨_, rfl, z, rfl, hz, q⟩
theorem ok_line_cost (T : Tab K mg) : FnOk P w K mg base CX0 3 T.f_line_cost T.d_line_cost ["rows", "width"] (sp_line_cost K) := by
  refine T.F_line_cost.ok sc_line_cost (fun vs H Q E h => ?_) (fun cdv A outer s H vs Q E hr h => ?_)
  · obtain ⟨a, zs, w, rfl, _⟩ := h
    rfl
  · obtain ⟨a, zs, w, rfl, hS, ⟨r1, r2, r3⟩, w1, w2, q⟩ := h
    refine ⟨_, (pss_one (ps_ret (pe_callB (cr_sum rfl) (by rfl) T.m_sum (by decide +kernel) (pa_cons (pe_lc (own := [("row", 2)]) (g := gName 2) (by rfl) sc_line_cost.nd (pi_or (pi_list (pe_slice (SlR.or sl_list sl_tup) (pv 0) po_none (po_some (pe_un un_neg pe_int)))) (pi_tup (pe_slice (SlR.or sl_list sl_tup) (pv 0) po_none (po_some (pe_un un_neg pe_int))))) (blkOk_by (own := [("row", 2)]) (N := N_line_cost) (sc := defScope s_line_cost) (by decide +kernel)) (fun _ _ _ _ _ => pg_name (i := 2) sc_line_cost.nd rfl (.inl rfl)) (fun _ _ _ _ _ => pts_nil) (fun _ _ _ _ _ => (pe_op op_pow (pe_op op_sub (pv 1) (pe_call (ok_row_width T) (hr.mono (by decide)) (by rfl) T.g_row_width T.F_row_width.kp T.b_row_width .nil pass0 (pa_cons (pv 2) pa_nil))) pe_int))) pa_nil)))), ?_⟩
    have e1 : (zs.map V.str).dropLast = zs.dropLast.map V.str := by rw [List.map_dropLast]
    have l1 : zs.dropLast.length ≤ 30 := by rw [List.length_dropLast]; omega
    have r3' : ∀ z ∈ zs.dropLast, z.length ≤ 100 := fun z hz => r3 z (by rw [List.dropLast_eq_take] at hz; exact List.mem_of_mem_take hz)
    rcases hS with hS | hS
    · refine .inl ⟨_, rfl, 1, rfl, -1, rfl, .inl ⟨a, zs.map V.str, rfl, hS, fun p np => ?_⟩⟩
      rw [cut_last, e1]
      refine ⟨p, rfl, ⟨_, .inl (.inl upd_same)⟩, fun D nD => ?_⟩
      have nDp : p ≠ D := ne_of_none upd_same nD
      have nD0 : H D = none := (same_upd np).free nD
      refine lc_list (xs := zs.dropLast.map V.str) (fun i H' => Same H H' ∧ H' p = some (.lst (zs.dropLast.map V.str)) ∧ ∃ cs : List Int, H' D = some (.lst (cs.map V.int)) ∧ cs.length = i ∧ cs.sum = cost w (zs.dropLast.take i))
        ⟨(same_upd np).trans (same_upd nD), by rw [upd_ne nDp, upd_same], [], upd_same, rfl, rfl⟩ (fun i H' _ hh => .inl (.inl hh.2.1)) ?_ ?_
      · rintro i x H' hx ⟨sm, eP, cs, eD, lc, sc⟩
        obtain ⟨z, rfl, hz⟩ := get_map hx
        have hi : i < zs.dropLast.length := (List.getElem?_eq_some_iff.mp hz).1
        have hz1 := r3' z (List.mem_of_getElem? hz)
        refine ⟨rfl, ?_⟩
        refine ⟨_, rfl, _, rfl, z, rfl, Nat.le_of_lt (small1000 (by omega)), _, _, rfl, rfl, _, _, rfl, rfl, ⟨by decide, by decide, pow_ok w1 w2 hz1⟩, cs.map V.int, eD, ?_, ?_, ?_, cs ++ [(w - wid z) * (w - wid z)], ?_, ?_, ?_⟩
        · rw [List.length_map]; exact small1000 (by omega)
        · intro b o e
          rw [upd_ne (ne_of_none e nD0)]
          exact sm b o e
        · rw [upd_ne nDp]; exact eP
        · rw [upd_same, List.map_append]; show some (HO.lst (_ ++ [V.int ((w - wid z) ^ (2 : Int).toNat)])) = _; rw [sq2]; rfl
        · rw [List.length_append, lc]; rfl
        · rw [List.sum_append, sc, List.take_add_one, hz]
          show _ = cost w (_ ++ [z])
          rw [cost_snoc]
          simp
      · rintro H' ⟨sm, eP, cs, eD, lc, sc⟩
        refine ⟨D, cs, rfl, .inl (.inl eD), ?_⟩
        rw [sc, List.length_map, List.take_of_length_le (Nat.le_refl _)]
        exact q H' sm
    · refine .inr ⟨_, rfl, 1, rfl, -1, rfl, .inr ⟨a, zs.map V.str, rfl, hS, ?_, fun p np => ?_⟩⟩
      · rw [sIx_m1, HT.sIx_none]
        have : (zs.map V.str).length ≠ 0 := by rw [List.length_map]; exact fun h => r1 (List.length_eq_zero_iff.mp h)
        omega
      rw [cut_last, e1]
      refine ⟨p, rfl, ⟨_, .inl (.inl upd_same)⟩, fun D nD => ?_⟩
      have nDp : p ≠ D := ne_of_none upd_same nD
      have nD0 : H D = none := (same_upd np).free nD
      refine lc_tup (xs := zs.dropLast.map V.str) (fun i H' => Same H H' ∧ H' p = some (.tup (zs.dropLast.map V.str)) ∧ ∃ cs : List Int, H' D = some (.lst (cs.map V.int)) ∧ cs.length = i ∧ cs.sum = cost w (zs.dropLast.take i))
        ⟨(same_upd np).trans (same_upd nD), by rw [upd_ne nDp, upd_same], [], upd_same, rfl, rfl⟩ (fun i H' _ hh => .inl (.inl hh.2.1)) ?_ ?_
      · rintro i x H' hx ⟨sm, eP, cs, eD, lc, sc⟩
        obtain ⟨z, rfl, hz⟩ := get_map hx
        have hi : i < zs.dropLast.length := (List.getElem?_eq_some_iff.mp hz).1
        have hz1 := r3' z (List.mem_of_getElem? hz)
        refine ⟨rfl, ?_⟩
        refine ⟨_, rfl, _, rfl, z, rfl, Nat.le_of_lt (small1000 (by omega)), _, _, rfl, rfl, _, _, rfl, rfl, ⟨by decide, by decide, pow_ok w1 w2 hz1⟩, cs.map V.int, eD, ?_, ?_, ?_, cs ++ [(w - wid z) * (w - wid z)], ?_, ?_, ?_⟩
        · rw [List.length_map]; exact small1000 (by omega)
        · intro b o e
          rw [upd_ne (ne_of_none e nD0)]
          exact sm b o e
        · rw [upd_ne nDp]; exact eP
        · rw [upd_same, List.map_append]; show some (HO.lst (_ ++ [V.int ((w - wid z) ^ (2 : Int).toNat)])) = _; rw [sq2]; rfl
        · rw [List.length_append, lc]; rfl
        · rw [List.sum_append, sc, List.take_add_one, hz]
          show _ = cost w (_ ++ [z])
          rw [cost_snoc]
          simp
      · rintro H' ⟨sm, eP, cs, eD, lc, sc⟩
        refine ⟨D, cs, rfl, .inl (.inl eD), ?_⟩
        rw [sc, List.length_map, List.take_of_length_le (Nat.le_refl _)]
        exact q H' sm
theorem ok_source (T : Tab K mg) : FnOk P w K mg base CX0 1 T.f_source T.d_source ["_law_script", "_law_k"] (sp_source K) := by
  refine T.F_source.ok sc_source (fun vs H Q E h => ?_) (fun cdv A outer s H vs Q E hr h => ?_)
  · obtain ⟨a, ns, k, rfl, _⟩ := h
    rfl
  · obtain ⟨a, ns, k, rfl, hS, q⟩ := h
    refine ⟨_, (C8.pss_cut (ps_set (i := 2) sc_source.nd rfl (.inl rfl) (pe_ifExp (pt_cmpR op_lt (pv 1) (pe_callB call_len_seq (by rfl) T.m_len PySem.boot_len (pa_cons (pv 0) pa_nil)) (nomark _)) (pe_ix ix_list (pv 0) (pv 1) (fun _ _ => rfl)) (pe_op op_add (pe_op op_mod (pe_callTy call_int1 (by rfl) T.m_int (by decide +kernel) (pa_cons (pe_op op_add (pe_callB (cr_sum rfl) (by rfl) T.m_sum (by decide +kernel) (pa_cons (pe_slice sl_list (pv 0) po_none (po_some pe_int)) pa_nil)) (pe_op op_mul pe_int (pe_callB (cr_sum rfl) (by rfl) T.m_sum (by decide +kernel) (pa_cons (pe_slice sl_list (pv 0) (po_some pe_int) (po_some pe_int)) pa_nil)))) pa_nil)) pe_int) (pe_op op_mul pe_int (pv 1)))))
      (pss_cons (ps_set (i := 3) sc_source.nd rfl (.inl rfl) (pe_callB call_abs (by rfl) T.m_abs (by decide +kernel) (pa_cons (pv 2) pa_nil)))
      (C8.pss_cut (ps_set (i := 4) sc_source.nd rfl (.inl rfl) (pe_ifExp (pt_cmpR op_ge (pv 3) pe_int (nomark _)) (pv 3) pe_int))
      (pss_one (ps_ret (pe_lst (pa_cons (pv 4) (pa_cons (pe_op op_mod (pe_callTy call_int1 (by rfl) T.m_int (by decide +kernel) (pa_cons (pe_op op_add (pe_op op_add (pe_op op_add (pe_op op_mul (pv 3) pe_int) (pe_callTy call_int1 (by rfl) T.m_int (by decide +kernel) (pa_cons (pe_cmpR op_lt (pv 2) pe_int (nomark _)) pa_nil))) (pe_op op_mul pe_int (pv 1))) pe_int) pa_nil)) pe_int) (pa_cons pe_int pa_nil))))))))), ?_⟩
    refine ⟨fun σ' H' => ∃ c : Int, σ' = [some (.ref a), some (.int k), some (.int c), none, none] ∧ Same H H', ?_, ?_⟩
    · refine ⟨_, rfl, _, rfl, _, _, rfl, .inl hS, _, _, rfl, rfl, _, rfl, ite2 (fun e => ?_) (fun e => ?_)⟩
      · have e1 : (k : Int) < ((ns.map V.int).length : Int) := of_decide_eq_true e
        rw [List.length_map] at e1
        have hk : k < ns.length := by omega
        have g : (ns.map V.int)[k]? = some (.int ns[k]) := by
          rw [List.getElem?_map, List.getElem?_eq_getElem hk]
          rfl
        exact ⟨_, rfl, _, rfl, _, _, _, _, rfl, rfl, hS, atI_nat g, _, rfl, Same.refl H⟩
      · refine ⟨_, rfl, 1, rfl, _, _, rfl, hS, fun p1 n1 => ?_⟩
        obtain ⟨m1, c1⟩ := cut_map ns none (some 1)
        rw [c1]
        have s1 : Same H (upd H p1 (.lst (m1.map V.int))) := same_upd n1
        refine ⟨_, m1, rfl, .inl (.inl upd_same), _, rfl, 1, rfl, 2, rfl, _, _, rfl, s1.seq hS, fun p2 n2 => ?_⟩
        obtain ⟨m2, c2⟩ := cut_map ns (some 1) (some 2)
        rw [c2]
        refine ⟨_, m2, rfl, .inl (.inl upd_same), _, _, rfl, rfl, .inl ⟨by decide, by decide⟩, _, _, rfl, rfl, .inl ⟨_, rfl, _, _, rfl, rfl, (by show (0 : Int) < 1000003; decide), _, rfl, _, _, rfl, rfl, .inl ⟨by decide, by decide⟩, _, _, rfl, rfl, _, rfl, s1.trans (same_upd n2)⟩⟩
    · rintro σ' H1 ⟨c, rfl, s1⟩
      refine ⟨_, rfl, _, rfl, ?_⟩
      refine ⟨fun σ' H' => ∃ n g : Int, σ' = [some (.ref a), some (.int k), some (.int c), some (.int n), some (.int g)] ∧ H' = H1, ?_, ?_⟩
      · refine ⟨_, rfl, _, _, rfl, rfl, _, rfl, ite2 (fun e => ?_) (fun e => ?_)⟩
        · exact ⟨_, rfl, _, _, rfl, rfl⟩
        · exact ⟨_, _, rfl, rfl⟩
      · rintro σ' H' ⟨n, g, rfl, rfl⟩
        refine ⟨_, rfl, _, rfl, _, _, rfl, rfl, .inr ⟨by decide, by decide⟩, _, rfl, _, _, rfl, rfl, .inr ⟨_, rfl, _, _, rfl, rfl, _, rfl, _, _, rfl, rfl, .inl ⟨by decide, by decide⟩, _, _, rfl, rfl, _, _, rfl, rfl, .inl ⟨_, rfl, _, _, rfl, rfl, (by show (0 : Int) < 2147483647; decide), ?_⟩⟩⟩
        refine ⟨(by show 3 ≤ sizeLine; decide), fun p np => ?_⟩
        exact q p _ (s1.trans (same_upd np)) (s1.free np) ⟨_, _, _, upd_same⟩
theorem ok_pick (T : Tab K mg) : FnOk P w K mg base CX0 1 T.f_pick T.d_pick ["_law_source_here", "_law_many"] (sp_pick K) := by
  refine T.F_pick.ok sc_pick (fun vs H Q E h => ?_) (fun cdv A outer s H vs Q E hr h => ?_)
  · obtain ⟨a, m, rfl, _⟩ := h
    rfl
  · obtain ⟨a, m, rfl, ⟨g, x, c, hs⟩, h1, h2, q⟩ := h
    refine ⟨_, (pss_cons (ps_if (pt_cmpR op_lt (pv 1) pe_int (nomark _))
      (pss_one (ps_ret pe_int))
      pss_nil)
      (pss_cons (ps_if (pt_cmpR op_gt (pe_ix ix_list (pv 0) pe_int (fun _ _ => rfl)) pe_int (nomark _))
      (pss_cons (ps_set (i := 2) sc_pick.nd rfl (.inl rfl) (pe_op op_mod (pe_callTy call_int1 (by rfl) T.m_int (by decide +kernel) (pa_cons (pe_ix ix_list (pv 0) pe_int (fun _ _ => rfl)) pa_nil)) (pv 1)))
        (pss_cons (ps_asg (pe_op op_fdiv (pe_ix ix_list (pv 0) pe_int (fun _ _ => rfl)) (pv 1)) (pg_sub (pv 0) pe_int set_list))
        (pss_one (ps_ret (pv 2)))))
      pss_nil)
      (pss_cons (ps_asg (pe_op op_add (pe_ix ix_list (pv 0) pe_int (fun _ _ => rfl)) pe_int) (pg_sub (pv 0) pe_int set_list))
      (pss_cons (ps_asg (pe_op op_mod (pe_callTy call_int1 (by rfl) T.m_int (by decide +kernel) (pa_cons (pe_op op_add (pe_op op_add (pe_op op_mul (pe_ix ix_list (pv 0) pe_int (fun _ _ => rfl)) pe_int) (pe_op op_mul (pe_ix ix_list (pv 0) pe_int (fun _ _ => rfl)) pe_int)) pe_int) pa_nil)) pe_int) (pg_sub (pv 0) pe_int set_list))
      (pss_one (ps_ret (pe_op op_mod (pe_callTy call_int1 (by rfl) T.m_int (by decide +kernel) (pa_cons (pe_op op_fdiv (pe_op op_mod (pe_callTy call_int1 (by rfl) T.m_int (by decide +kernel) (pa_cons (pe_op op_add (pe_op op_add (pe_op op_mul (pe_ix ix_list (pv 0) pe_int (fun _ _ => rfl)) pe_int) (pe_op op_mul (pe_ix ix_list (pv 0) pe_int (fun _ _ => rfl)) pe_int)) pe_int) pa_nil)) pe_int) pe_int) pa_nil)) (pv 1)))))))), ?_⟩
    refine ⟨_, rfl, _, _, rfl, rfl, _, rfl, ite2 (fun e => ?_) (fun e => ?_)⟩
    · exact q 0 H ⟨g, x, c, hs⟩ (But.refl a H) (by decide) (by omega)
    · have hm : ¬ m < 2 := fun z => e (decide_eq_true z)
      refine ⟨_, rfl, _, _, _, _, rfl, rfl, .inl (.inl hs), rfl, _, _, rfl, rfl, _, rfl, ite2 (fun e => ?_) (fun e => ?_)⟩
      · refine ⟨_, rfl, _, _, _, _, rfl, rfl, .inl (.inl hs), rfl, .inl ⟨_, rfl, _, rfl, _, _, rfl, rfl, (by omega), ?_⟩⟩
        refine ⟨_, rfl, _, _, _, _, rfl, rfl, .inl (.inl hs), rfl, _, rfl, _, _, rfl, rfl, ⟨by omega, by omega⟩, ?_⟩
        refine ⟨_, rfl, _, _, _, _, rfl, rfl, hs, rfl, ?_⟩
        refine ⟨_, rfl, ?_⟩
        exact q _ _ ⟨_, _, _, upd_same⟩ (But.upd _) (Int.emod_nonneg _ (by omega)) (Int.emod_lt_of_pos _ (by omega))
      · refine ⟨_, rfl, _, _, _, _, rfl, rfl, .inl (.inl hs), rfl, _, _, rfl, rfl, _, rfl, _, _, _, _, rfl, rfl, hs, rfl, ?_⟩
        refine ⟨_, rfl, _, _, _, _, rfl, rfl, .inl (.inl upd_same), rfl, _, _, rfl, rfl, .inr ⟨by decide, by decide⟩, _, rfl, _, _, _, _, rfl, rfl, .inl (.inl upd_same), rfl, _, _, rfl, rfl, .inr ⟨by decide, by decide⟩, _, _, rfl, rfl, _, _, rfl, rfl, .inl ⟨_, rfl, _, _, rfl, rfl, (by show (0 : Int) < 2147483647; decide), ?_⟩⟩
        refine ⟨_, rfl, _, _, _, _, rfl, rfl, upd_same, rfl, ?_⟩
        refine ⟨_, rfl, _, _, _, _, rfl, rfl, .inl (.inl upd_same), rfl, _, _, rfl, rfl, .inr ⟨by decide, by decide⟩, _, rfl, _, _, _, _, rfl, rfl, .inl (.inl upd_same), rfl, _, _, rfl, rfl, .inr ⟨by decide, by decide⟩, _, _, rfl, rfl, _, _, rfl, rfl, .inl ⟨_, rfl, _, _, rfl, rfl, (by show (0 : Int) < 2147483629; decide), _, _, rfl, rfl, ⟨by decide, by decide⟩, .inl ⟨_, rfl, _, rfl, _, _, rfl, rfl, (by omega), ?_⟩⟩⟩
        exact q _ _ ⟨_, _, _, upd_same⟩ (((But.upd _).trans (But.upd _))) (Int.emod_nonneg _ (by omega)) (Int.emod_lt_of_pos _ (by omega))
theorem ok_is_integer (T : Tab K mg) : FnOk P w K mg base CX0 1 T.f_is_integer T.d_is_integer ["_law_actual"] (sp_is_integer K) := by
  refine T.F_is_integer.ok sc_is_integer (fun vs H Q E h => ?_) (fun cdv A outer s H vs Q E hr h => ?_)
  · obtain ⟨i, rfl, _⟩ := h
    rfl
  · obtain ⟨i, rfl, q⟩ := h
    refine ⟨_, (pss_one (ps_ret (pe_and (pe_callB call_isi (by rfl) T.m_isinstance (by decide +kernel) (pa_cons (pv 0) (pa_cons (pe_bltn (v := .ty "int") (u := .type "int") (by rfl) T.m_int (by decide +kernel) rfl) pa_nil))) (pe_one (pe_not (pe_callB call_isi (by rfl) T.m_isinstance (by decide +kernel) (pa_cons (pv 0) (pa_cons (pe_bltn (v := .ty "bool") (u := .type "bool") (by rfl) T.m_bool (by decide +kernel) rfl) pa_nil)))))))), ?_⟩
    refine ⟨_, rfl, _, _, _, _, _, rfl, .ty "int", .base (.int i), kit_ty (by decide +kernel), true, rfl, iteT ?_⟩
    exact ⟨_, rfl, _, _, _, _, _, rfl, .ty "bool", .base (.int i), kit_ty (r := false) (by decide +kernel), false, rfl, q⟩
theorem ok_width (T : Tab K mg) : FnOk P w K mg base CX0 1 T.f_width T.d_width ["_law_token_here"] (sp_width K) := by
  refine T.F_width.ok sc_width (fun vs H Q E h => ?_) (fun cdv A outer s H vs Q E hr h => ?_)
  · obtain ⟨z, rfl, _⟩ := h
    rfl
  · obtain ⟨z, rfl, hz, q⟩ := h
    refine ⟨_, (pss_one (ps_ret (pe_op op_add (pe_op op_add (pe_callB call_len_str (by rfl) T.m_len PySem.boot_len (pa_cons (pv 0) pa_nil)) (pe_m1 PySem.F.slot_str_count PySem.F.type_str_count mt_count (pv 0) pe_str)) (pe_m1 PySem.F.slot_str_count PySem.F.type_str_count mt_count (pv 0) pe_str)))), ?_⟩
    refine ⟨_, rfl, _, rfl, hz, _, rfl, ⟨_, rfl⟩, _, _, rfl, rfl, _, _, rfl, rfl, _, rfl, ⟨_, rfl⟩, _, _, rfl, rfl, _, _, rfl, rfl, ?_⟩
    rw [← wid_of] at q
    exact q
theorem ok_token (T : Tab K mg) : FnOk P w K mg base CX0 2 T.f_token T.d_token ["_law_source_here"] (sp_token K) := by
  refine T.F_token.ok sc_token (fun vs H Q E h => ?_) (fun cdv A outer s H vs Q E hr h => ?_)
  · obtain ⟨a, rfl, _⟩ := h
    rfl
  · obtain ⟨a, rfl, hs, q⟩ := h
    refine ⟨_, (pss_cons (ps_set (i := 1) sc_token.nd rfl (.inl rfl) pe_str)
      (pss_cons (ps_set (i := 2) sc_token.nd rfl (.inl rfl) pe_str)
      (pss_cons (ps_for PassesOwn.never rfl (pi_range1 (by rfl) T.m_range (pa_cons (pe_op op_add pe_int (pe_call (ok_pick T) (hr.mono (by decide)) (by rfl) T.g_pick T.F_pick.kp T.b_pick .nil pass0 (pa_cons (pv 0) (pa_cons pe_int pa_nil)))) pa_nil)) (pg_name (i := 3) sc_token.nd rfl (.inl rfl))
      (pss_one (ps_set (i := 2) sc_token.nd rfl (.inl rfl) (pe_op op_add_str (pv 2) (pe_ix ix_str (pv 1) (pe_call (ok_pick T) (hr.mono (by decide)) (by rfl) T.g_pick T.F_pick.kp T.b_pick .nil pass0 (pa_cons (pv 0) (pa_cons (pe_callB call_len_str (by rfl) T.m_len PySem.boot_len (pa_cons (pv 1) pa_nil)) pa_nil))) (fun _ _ => rfl))))))
      (pss_one (ps_ret (pv 2)))))), ?_⟩
    refine ⟨_, rfl, _, _, rfl, hs, by decide, by decide, fun w2 H2 s2 b2 p3 p4 => ?_⟩
    refine ⟨_, _, rfl, rfl, _, rfl, by omega, by omega, for_range (lo := 0) (n := (1 + w2).toNat) (fun i σ' H' => ∃ (z : Str) (y : Option V), σ' = [some (.ref a), some (.str "abcdefghijklmnopqrstuvwxyzmw0123456789./-"), some (.str z), y] ∧ z.length = i ∧ Src H' a ∧ But a H H') ⟨_, none, rfl, by decide +kernel, s2, b2⟩ ?_ ?_⟩
    · rintro i σ' H' hi ⟨z, y, rfl, lz3, s4, b4⟩
      have el : ("abcdefghijklmnopqrstuvwxyzmw0123456789./-" : Str).length = 41 := by decide +kernel
      refine ⟨_, rfl, _, rfl, _, rfl, _, rfl, _, rfl, (by rw [el]; exact Nat.le_of_lt (small1000 (by decide))), _, _, rfl, s4, by rw [el]; decide, by rw [el]; decide, fun w5 H5 s5 b5 p9 p10 => ?_⟩
      have hj : w5.toNat < ("abcdefghijklmnopqrstuvwxyzmw0123456789./-" : Str).cps.toList.length := by
        have : ("abcdefghijklmnopqrstuvwxyzmw0123456789./-" : Str).length = ("abcdefghijklmnopqrstuvwxyzmw0123456789./-" : Str).cps.toList.length := rfl
        omega
      refine ⟨_, _, _, rfl, rfl, (by rw [el]; exact Nat.le_of_lt (small1000 (by decide))), at_of' (by omega) (List.getElem?_eq_getElem hj), _, _, rfl, rfl, ?_, _, _, rfl, ?_, s5, b4.trans b5⟩
      · rw [lz3]
        exact Nat.le_of_lt (small1000 (by show i + 1 ≤ 1000; omega))
      · rw [str_len_snoc, lz3]
    · rintro σ' H' ⟨z, y, rfl, lz3, s4, b4⟩
      exact ⟨_, rfl, q z H' s4 b4 (by omega)⟩
theorem ok_some_rows (T : Tab K mg) : FnOk P w K mg base CX0 3 T.f_some_rows T.d_some_rows ["_law_source_here", "_law_limit"] (sp_some_rows K) := by
  refine T.F_some_rows.ok sc_some_rows (fun vs H Q E h => ?_) (fun cdv A outer s H vs Q E hr h => ?_)
  · obtain ⟨a, lim, rfl, _⟩ := h
    rfl
  · obtain ⟨a, lim, rfl, hs, l1, l2, q⟩ := h
    refine ⟨_, (pss_cons (ps_set (i := 2) sc_some_rows.nd rfl (.inl rfl) (pe_lst pa_nil))
      (pss_cons (ps_for PassesOwn.never rfl (pi_range1 (by rfl) T.m_range (pa_cons (pe_op op_add pe_int (pe_call (ok_pick T) (hr.mono (by decide)) (by rfl) T.g_pick T.F_pick.kp T.b_pick .nil pass0 (pa_cons (pv 0) (pa_cons pe_int pa_nil)))) pa_nil)) (pg_name (i := 3) sc_some_rows.nd rfl (.inl rfl))
      (pss_cons (ps_set (i := 4) sc_some_rows.nd rfl (.inl rfl) (pe_call (ok_token T) (hr.mono (by decide)) (by rfl) T.g_token T.F_token.kp T.b_token .nil pass0 (pa_cons (pv 0) pa_nil)))
        (pss_cons (ps_for PassesOwn.never rfl (pi_range1 (by rfl) T.m_range (pa_cons (pe_call (ok_pick T) (hr.mono (by decide)) (by rfl) T.g_pick T.F_pick.kp T.b_pick .nil pass0 (pa_cons (pv 0) (pa_cons pe_int pa_nil))) pa_nil)) (pg_name (i := 5) sc_some_rows.nd rfl (.inl rfl))
        (pss_cons (ps_set (i := 6) sc_some_rows.nd rfl (.inl rfl) (pe_op op_add_str (pe_op op_add_str (pv 4) pe_str) (pe_call (ok_token T) (hr.mono (by decide)) (by rfl) T.g_token T.F_token.kp T.b_token .nil pass0 (pa_cons (pv 0) pa_nil))))
          (pss_one (ps_if (pt_cmpR op_le (pe_call (ok_width T) (hr.mono (by decide)) (by rfl) T.g_width T.F_width.kp T.b_width .nil pass0 (pa_cons (pv 6) pa_nil)) (pv 1) (nomark _))
          (pss_one (ps_set (i := 4) sc_some_rows.nd rfl (.inl rfl) (pv 6)))
          pss_nil))))
        (pss_one (ps_expr (pe_bm PySem.F.plainAttrs_list PySem.F.slot_list_append PySem.F.type_list_append mt_append (pv 2) (pa_cons (pv 4) pa_nil)))))))
      (C8.pss_cut (ps_if (pt_cmpR op_eq (pe_call (ok_pick T) (hr.mono (by decide)) (by rfl) T.g_pick T.F_pick.kp T.b_pick .nil pass0 (pa_cons (pv 0) (pa_cons pe_int pa_nil))) pe_int (nomark _))
      (pss_one (ps_set (i := 2) sc_some_rows.nd rfl (.inl rfl) (pe_op op_cat (pe_op op_cat (pv 2) (pe_lst (pa_cons (pe_op op_add_str (pe_op op_add_str (pe_op op_rep_str pe_str (pe_op op_fdiv (pv 1) pe_int)) pe_str) (pe_op op_rep_str pe_str (pe_op op_sub (pe_op op_sub (pv 1) (pe_op op_fdiv (pv 1) pe_int)) pe_int))) pa_nil))) (pe_slice sl_list (pv 2) po_none (po_some pe_int)))))
      pss_nil)
      (pss_one (ps_ret (pv 2)))))), ?_⟩
    refine ⟨Nat.zero_le _, fun D nD => ?_⟩
    have nDa : a ≠ D := hs.ne nD
    refine ⟨_, rfl, _, _, rfl, hs.put nDa _, by decide, by decide, fun n1 H1 s1 b1 p1 p2 => ?_⟩
    refine ⟨_, _, rfl, rfl, _, rfl, by omega, by omega, for_range (lo := 0) (n := (1 + n1).toNat) (fun i σ' H' => ∃ (zs : List Str) (y3 y4 y5 y6 : Option V), σ' = [some (.ref a), some (.int lim), some (.ref D), y3, y4, y5, y6] ∧ zs.length = i ∧ (∀ z ∈ zs, z.length ≤ 60) ∧ Src H' a ∧ H' D = some (.lst (zs.map V.str)) ∧ But a H H') ⟨[], none, none, none, none, rfl, rfl, (fun _ h => nomatch h), s1, b1 D _ nDa.symm upd_same, (But.refl a H).put nD _ |>.trans b1⟩ ?_ ?_⟩
    · rintro i σ' H' hi ⟨zs, y3, y4, y5, y6, rfl, lz, hz, s2, eD, b2⟩
      refine ⟨_, rfl, _, rfl, s2, fun z H3 s3 b3 lz3 => ?_⟩
      refine ⟨_, rfl, _, _, rfl, s3, by decide, by decide, fun n4 H4 s4 b4 p3 p4 => ?_⟩
      have eD4 : H4 D = some (.lst (zs.map V.str)) := b4 D _ nDa.symm (b3 D _ nDa.symm eD)
      refine ⟨_, rfl, by omega, by omega, for_range (lo := 0) (n := n4.toNat) (fun j σ' H' => ∃ (z : Str) (y5 y6 : Option V), σ' = [some (.ref a), some (.int lim), some (.ref D), some (.int (0 + (i : Int))), some (.str z), y5, y6] ∧ z.length ≤ 60 ∧ Src H' a ∧ H' D = some (.lst (zs.map V.str)) ∧ But a H H') ⟨z, _, _, rfl, by omega, s4, eD4, (b2.trans b3).trans b4⟩ ?_ ?_⟩
      · rintro j σ' H5 hj ⟨z, y5, y6, rfl, lz5, s5, eD5, b5⟩
        refine ⟨_, rfl, _, _, rfl, rfl, ?_, _, rfl, _, rfl, s5, fun z6 H6 s6 b6 lz6 => ?_⟩
        · show z.length + 1 ≤ _
          exact Nat.le_of_lt (small1000 (by omega))
        have lc : ∀ x y : Str, (x ++ y).length = x.length + y.length := fun x y => by
          show (x.cps ++ y.cps).size = _
          rw [Array.size_append]; rfl
        have l1' : (" " : Str).length = 1 := by decide +kernel
        have ll : (z ++ " " ++ z6).length = z.length + 1 + z6.length := by rw [lc, lc, l1']
        refine ⟨_, _, rfl, rfl, ?_, ?_⟩
        · rw [lc, l1']; exact Nat.le_of_lt (small1000 (by omega))
        refine ⟨_, rfl, _, rfl, ?_, _, rfl, _, _, rfl, rfl, _, rfl, ite2 (fun e => ?_) (fun e => ?_)⟩
        · rw [ll]; exact Nat.le_of_lt (small1000 (by omega))
        · have e1 : wid (z ++ " " ++ z6) ≤ lim := of_decide_eq_true e
          have := wid_ge (z ++ " " ++ z6)
          exact ⟨_, rfl, _, _, _, rfl, by omega, s6, b6 D _ nDa.symm eD5, b5.trans b6⟩
        · exact ⟨_, _, _, rfl, lz5, s6, b6 D _ nDa.symm eD5, b5.trans b6⟩
      · rintro σ' H5 ⟨z, y5, y6, rfl, lz5, s5, eD5, b5⟩
        refine ⟨_, rfl, .inl ⟨rfl, _, .inl (.inl eD5)⟩, _, rfl, _, _, _, rfl, rfl, eD5, ?_, ?_⟩
        · rw [List.length_map]; exact small1000 (by omega)
        refine ⟨zs ++ [z], _, _, _, _, rfl, ?_, ?_, s5.put nDa _, ?_, b5.put nD _⟩
        · rw [List.length_append, lz]; rfl
        · intro y hy
          rcases List.mem_append.mp hy with h | h
          · exact hz y h
          · rw [List.mem_singleton.mp h]; exact lz5
        · rw [upd_same, List.map_append]; rfl
    · rintro σ' H' ⟨zs, y3, y4, y5, y6, rfl, lz, hz, s2, eD, b2⟩
      have hne : zs ≠ [] := fun e => by
        rw [e] at lz
        have : (0 : Nat) = (1 + n1).toNat := lz
        omega
      have ok0 : Rows zs := ⟨hne, by omega, fun z h => Nat.le_trans (hz z h) (by decide)⟩
      refine ⟨fun σ' H' => ∃ (zs : List Str) (p : Addr) (y3 y4 y5 y6 : Option V), σ' = [some (.ref a), some (.int lim), some (.ref p), y3, y4, y5, y6] ∧ H p = none ∧ But a H H' ∧ H' p = some (.lst (zs.map V.str)) ∧ Rows zs, ?_, ?_⟩
      · refine ⟨_, rfl, _, _, rfl, s2, by decide, by decide, fun n4 H4 s4 b4 p3 p4 => ?_⟩
        have eD4 : H4 D = some (.lst (zs.map V.str)) := b4 D _ nDa.symm eD
        refine ⟨rfl, _, rfl, ite2 (fun e => ?_) (fun e => ?_)⟩
        · have h0 : (0 : Int) ≤ lim / 2 := by omega
          have h1 : lim / 2 ≤ 30 := by omega
          have hn1 : ("n" : Str).length ≤ 100 := by decide +kernel
          have hr : ∀ n : Int, n ≤ 30 → (Txt.mul "n" n).length ≤ 30 := fun n h => len_mul_one (N := 30) (show ("n" : Str) = ⟨#[110]⟩ from rfl) h
          have hb1 := hr (lim / 2) (by omega)
          have hb2 := hr (lim - lim / 2 - 1) (by omega)
          have hsp : (" " : Str).length = 1 := by decide +kernel
          have lx : (Txt.mul "n" (lim / 2) ++ " " ++ Txt.mul "n" (lim - lim / 2 - 1)).length ≤ 100 := by rw [len_app, len_app, hsp]; omega
          refine ⟨_, rfl, _, rfl, _, _, rfl, rfl, ⟨by decide, by decide⟩, "n", _, rfl, rfl, mul_ok hn1 (by omega) (by omega), _, _, rfl, rfl, ?_, ?_⟩
          · exact Nat.le_of_lt (small1000 (by omega))
          refine ⟨_, rfl, _, rfl, _, _, rfl, rfl, ⟨by decide, by decide⟩, _, _, rfl, rfl, _, _, rfl, rfl, "n", _, rfl, rfl, mul_ok hn1 (by omega) (by omega), _, _, rfl, rfl, ?_, ?_⟩
          · rw [len_app, hsp]
            exact Nat.le_of_lt (small1000 (by omega))
          generalize Txt.mul "n" (lim / 2) ++ " " ++ Txt.mul "n" (lim - lim / 2 - 1) = X at lx ⊢
          refine ⟨(by show 1 ≤ sizeLine; decide), fun q1 m1 => ?_⟩
          have eD5 := same_upd (o := .lst [V.str (X)]) m1 _ _ eD4
          refine ⟨_, _, _, _, rfl, rfl, eD5, upd_same, ?_, fun q2 m2 => ?_⟩
          · rw [List.length_map]; exact Nat.le_of_lt (small1000 (by show zs.length + 1 ≤ 1000; omega))
          have eD6 := same_upd (o := .lst (zs.map V.str ++ [V.str (X)])) m2 _ _ eD5
          refine ⟨_, rfl, 1, rfl, _, _, rfl, .inl (.inl eD6), fun q3 m3 => ?_⟩
          have n23 : q2 ≠ q3 := ne_of_none upd_same m3
          refine ⟨_, _, _, _, rfl, rfl, (by rw [upd_ne n23, upd_same]), upd_same, ?_, fun q4 m4 => ?_⟩
          · have := cutV_length (zs.map V.str) none (some 1)
            rw [List.length_map] at this
            rw [List.length_append, List.length_map]
            exact Nat.le_of_lt (small1000 (by show zs.length + 1 + _ ≤ 1000; omega))
          have sM := ((same_upd (o := .lst [V.str X]) m1).trans (same_upd (o := .lst (zs.map V.str ++ [V.str X])) m2)).trans (same_upd (o := .lst (cutV (zs.map V.str) none (some 1))) m3)
          have nq4 : H q4 = none := (b2.trans b4).none (sM.free m4) (fun e => by
            rw [e] at m4
            obtain ⟨g, x, c, e⟩ := s4
            rw [sM _ _ e] at m4
            cases m4)
          refine ⟨zs ++ [X] ++ zs.take 1, q4, _, _, _, _, rfl, nq4, ((b2.trans b4).trans (But.of sM)).put nq4 _, ?_, ?_, ?_, ?_⟩
          · rw [upd_same, show cutV (zs.map V.str) none (some 1) = (zs.map V.str).take 1 from cut_take _ 1, List.map_append, List.map_append, List.map_take]
            rfl
          · simp
          · simp only [List.length_append, List.length_take, List.length_singleton]
            omega
          · intro y hy
            rcases List.mem_append.mp hy with h | h
            · rcases List.mem_append.mp h with h | h
              · exact Nat.le_trans (hz y h) (by decide)
              · rw [List.mem_singleton.mp h]; exact lx
            · exact Nat.le_trans (hz y (List.mem_of_mem_take h)) (by decide)
        · exact ⟨zs, D, _, _, _, _, rfl, nD, b2.trans b4, eD4, ok0⟩
      · rintro σ' H' ⟨zs, p, y3, y4, y5, y6, rfl, np, b, e, ok⟩
        exact ⟨_, rfl, q zs p H' np b e ok⟩
theorem ok_due (T : Tab K mg) : FnOk P w K mg base CX0 2 T.f_due T.d_due ["_law_rows", "_law_limit"] (sp_due K) := by
  refine T.F_due.ok sc_due (fun vs H Q E h => ?_) (fun cdv A outer s H vs Q E hr h => ?_)
  · obtain ⟨a, zs, w, rfl, _⟩ := h
    rfl
  · obtain ⟨a, zs, w, rfl, hS, ⟨r1, r2, r3⟩, w1, w2, q⟩ := h
    refine ⟨_, (pss_cons (ps_set (i := 2) sc_due.nd rfl (.inl rfl) pe_int)
      (pss_cons (ps_for PassesOwn.never rfl (pi_range1 (by rfl) T.m_range (pa_cons (pe_op op_sub (pe_callB call_len_seq (by rfl) T.m_len PySem.boot_len (pa_cons (pv 0) pa_nil)) pe_int) pa_nil)) (pg_name (i := 3) sc_due.nd rfl (.inl rfl))
      (pss_cons (ps_set (i := 4) sc_due.nd rfl (.inl rfl) (pe_op op_sub (pv 1) (pe_call (ok_width T) (hr.mono (by decide)) (by rfl) T.g_width T.F_width.kp T.b_width .nil pass0 (pa_cons (pe_ix ix_list (pv 0) (pv 3) (fun _ _ => rfl)) pa_nil))))
        (pss_one (ps_set (i := 2) sc_due.nd rfl (.inl rfl) (pe_op op_add (pv 2) (pe_op op_mul (pv 4) (pv 4)))))))
      (pss_one (ps_ret (pv 2))))), ?_⟩
    have ln : (zs.map V.str).length = zs.length := List.length_map ..
    refine ⟨_, rfl, _, _, rfl, .inl hS, _, _, rfl, rfl, _, rfl, by omega, by omega, for_range (lo := 0) (fun i σ' H' => ∃ (v : Int) (y2 y3 : Option V), σ' = [some (.ref a), some (.int w), some (.int v), y2, y3] ∧ v = cost w (zs.take i) ∧ H = H') ⟨0, none, none, rfl, rfl, rfl⟩ ?_ ?_⟩
    · rintro i σ' H' hi ⟨v, y2, y3, rfl, rfl, rfl⟩
      have hi' : i < zs.length := by omega
      have g : (zs.map V.str)[i]? = some (.str zs[i]) := by
        rw [List.getElem?_map, List.getElem?_eq_getElem hi']
        rfl
      have hz := r3 zs[i] (List.getElem_mem hi')
      refine ⟨_, rfl, _, rfl, _, rfl, _, _, _, _, rfl, rfl, hS, at_of' (by omega) g, zs[i], rfl, Nat.le_of_lt (small1000 (by omega)), _, _, rfl, rfl, ?_⟩
      have hp := pow_ok w1 w2 hz
      have e : (2 : Nat) ^ 64 = 18446744073709551616 := by decide
      refine ⟨_, rfl, _, rfl, _, rfl, _, _, rfl, rfl, .inl ⟨by omega, by omega⟩, _, _, rfl, rfl, ?_⟩
      refine ⟨_, _, _, rfl, ?_, rfl⟩
      rw [List.take_add_one, List.getElem?_eq_getElem hi']
      show _ = cost w (zs.take i ++ [zs[i]])
      rw [cost_snoc]
    · rintro σ' H' ⟨v, y2, y3, rfl, rfl, rfl⟩
      refine ⟨_, rfl, ?_⟩
      rw [show (((zs.map V.str).length : Int) - 1).toNat = zs.length - 1 by omega, ← List.dropLast_eq_take]
      exact q
theorem ok_right (T : Tab K mg) : FnOk P w K mg base CX0 4 T.f_right T.d_right ["_law_rows", "_law_limit"] (sp_right K) := by
  refine T.F_right.ok sc_right (fun vs H Q E h => ?_) (fun cdv A outer s H vs Q E hr h => ?_)
  · obtain ⟨a, zs, w, rfl, _⟩ := h
    rfl
  · obtain ⟨a, zs, w, rfl, hS, hR, w1, w2, q⟩ := h
    refine ⟨_, (pss_cons (ps_for PassesOwn.never rfl (pi_list (pe_lst (pa_cons (pv 1) (pa_cons (pe_callB (call_min2 rfl) (by rfl) T.m_min (by decide +kernel) (pa_cons pe_int (pa_cons (pe_op op_add (pv 1) pe_int) pa_nil))) (pa_cons pe_int pa_nil))))) (pg_name (i := 2) sc_right.nd rfl (.inl rfl))
      (pss_cons (ps_set (i := 3) sc_right.nd rfl (.inl rfl) (pe_call (ok_line_cost T) (hr.mono (by decide)) (by rfl) T.g_line_cost T.F_line_cost.kp T.b_line_cost .nil pass0 (pa_cons (pe_callTy call_tuple_of (by rfl) T.m_tuple (by decide +kernel) (pa_cons (pv 0) pa_nil)) (pa_cons (pv 2) pa_nil))))
        (pss_one (ps_if (PW.pt (pw_or (pt_not (pt_val (pe_call (ok_is_integer T) (hr.mono (by decide)) (by rfl) T.g_is_integer T.F_is_integer.kp T.b_is_integer .nil pass0 (pa_cons (pv 3) pa_nil)))) (pw_or1 (pt_cmpR op_ne (pv 3) (pe_call (ok_due T) (hr.mono (by decide)) (by rfl) T.g_due T.F_due.kp T.b_due .nil pass0 (pa_cons (pv 0) (pa_cons (pv 2) pa_nil))) (nomark _)))))
        (pss_one (ps_ret pe_bl))
        pss_nil))))
      (pss_cons (ps_set (i := 4) sc_right.nd rfl (.inl rfl) (pe_callTy call_list_of (by rfl) T.m_list (by decide +kernel) (pa_cons (pv 0) pa_nil)))
      (pss_cons (ps_set (i := 5) sc_right.nd rfl (.inl rfl) (pe_call (ok_line_cost T) (hr.mono (by decide)) (by rfl) T.g_line_cost T.F_line_cost.kp T.b_line_cost .nil pass0 (pa_cons (pv 4) (pa_cons (pv 1) pa_nil))))
      (pss_one (ps_ret (pe_and (pe_cmpR op_eq (pv 5) (pe_call (ok_due T) (hr.mono (by decide)) (by rfl) T.g_due T.F_due.kp T.b_due .nil pass0 (pa_cons (pv 0) (pa_cons (pv 1) pa_nil))) (nomark _)) (pe_one (pe_cmpR (op_eqV hr.units) (pv 4) (pv 0) (nomark _))))))))), ?_⟩
    refine ⟨_, rfl, _, rfl, _, _, rfl, rfl, _, _, rfl, (by show 3 ≤ sizeLine; decide), fun p np => ?_⟩
    have hm : ∃ m : Int, (if w + 1 < 60 then w + 1 else 60) = m ∧ 0 ≤ m ∧ m ≤ 100 := ⟨_, rfl, by split <;> omega, by split <;> omega⟩
    obtain ⟨m, em, m1, m2⟩ := hm
    rw [em]
    have s1 : Same H (upd H p (.lst [V.int w, V.int m, V.int 60])) := same_upd np
    refine ⟨p, rfl, ⟨_, .inl (.inl upd_same)⟩, for_list (xs := [V.int w, V.int m, V.int 60]) (fun i σ' H' => ∃ y2 y3 : Option V, σ' = [some (.ref a), some (.int w), y2, y3, none, none] ∧ Same H H' ∧ H' p = some (.lst [V.int w, V.int m, V.int 60])) ⟨none, none, rfl, s1, upd_same⟩ (fun i σ' H' _ hh => ?_) ?_ ?_⟩
    · obtain ⟨_, _, _, _, e⟩ := hh
      exact .inl (.inl e)
    · rintro i x σ' H' hx ⟨y2, y3, rfl, sm, eP⟩
      obtain ⟨v, rfl, v1, v2⟩ : ∃ v : Int, x = .int v ∧ 0 ≤ v ∧ v ≤ 100 := by
        have hi : x ∈ [V.int w, V.int m, V.int 60] := List.mem_of_getElem? hx
        rcases List.mem_cons.mp hi with h | h
        · exact ⟨w, h, by omega, by omega⟩
        rcases List.mem_cons.mp h with h | h
        · exact ⟨m, h, m1, m2⟩
        · exact ⟨60, List.mem_singleton.mp h, by decide, by decide⟩
      refine ⟨_, rfl, _, _, rfl, .inl ⟨sm.seq hS, fun t nt => ?_⟩⟩
      refine ⟨_, rfl, t, zs, v, rfl, .inr (.inl (.inl upd_same)), hR, v1, v2, fun H3 s3 => ?_⟩
      have sm3 : Same H H3 := (sm.trans (same_upd nt)).trans s3
      refine ⟨_, rfl, _, rfl, true, rfl, ?_⟩
      refine ⟨_, rfl, _, rfl, _, rfl, a, zs, v, rfl, sm3.seq hS, hR, v1, v2, rfl, _, rfl, ?_⟩
      refine iteNS rfl ?_
      exact ⟨_, _, rfl, sm3, s3 _ _ (same_upd nt _ _ eP)⟩
    · rintro σ' H' ⟨y2, y3, rfl, sm, eP⟩
      refine ⟨_, rfl, _, _, rfl, .inl (sm.seq hS), fun l nl => ?_⟩
      have sm2 := sm.trans (same_upd (o := .lst (zs.map V.str)) nl)
      refine ⟨_, rfl, _, rfl, l, zs, w, rfl, .inl (.inl (.inl upd_same)), hR, by omega, by omega, fun H3 s3 => ?_⟩
      have sm3 : Same H H3 := sm2.trans s3
      refine ⟨_, rfl, _, rfl, _, rfl, a, zs, w, rfl, sm3.seq hS, hR, by omega, by omega, rfl, true, congrArg V.bl (decide_eq_true rfl), iteT ?_⟩
      refine ⟨_, rfl, _, rfl, 1, by decide, .inl ⟨l, a, _, _, rfl, rfl, .inl (.inl (s3 _ _ upd_same)), sm3.seq hS, eq_strs zs⟩, ?_⟩
      exact q H3 sm3
theorem ok_law (T : Tab K mg) : FnOk P w K mg base CX0 5 T.f_law T.d_law ["_law_script"] (sp_law K) := by
  refine T.F_law.ok sc_law (fun vs H Q E h => ?_) (fun cdv A outer s H vs Q E hr h => ?_)
  · obtain ⟨a, ns, rfl, _⟩ := h
    rfl
  · obtain ⟨a, ns, rfl, hS, hlen, q⟩ := h
    refine ⟨_, (pss_cons (ps_set (i := 1) sc_law.nd rfl (.inl rfl) (pe_lst pa_nil))
      (pss_cons (ps_for PassesOwn.never rfl (pi_range1 (by rfl) T.m_range (pa_cons (pe_callB (call_max2 rfl) (by rfl) T.m_max (by decide +kernel) (pa_cons pe_int (pa_cons (pe_callB (call_min2 rfl) (by rfl) T.m_min (by decide +kernel) (pa_cons pe_int (pa_cons (pe_callB call_len_seq (by rfl) T.m_len PySem.boot_len (pa_cons (pv 0) pa_nil)) pa_nil))) pa_nil))) pa_nil)) (pg_name (i := 2) sc_law.nd rfl (.inl rfl))
      (pss_cons (ps_set (i := 3) sc_law.nd rfl (.inl rfl) (pe_call (ok_source T) (hr.mono (by decide)) (by rfl) T.g_source T.F_source.kp T.b_source .nil pass0 (pa_cons (pv 0) (pa_cons (pv 2) pa_nil))))
        (pss_cons (ps_set (i := 4) sc_law.nd rfl (.inl rfl) (pe_op op_add pe_int (pe_call (ok_pick T) (hr.mono (by decide)) (by rfl) T.g_pick T.F_pick.kp T.b_pick .nil pass0 (pa_cons (pv 3) (pa_cons pe_int pa_nil)))))
        (pss_cons (ps_set (i := 5) sc_law.nd rfl (.inl rfl) (pe_call (ok_some_rows T) (hr.mono (by decide)) (by rfl) T.g_some_rows T.F_some_rows.kp T.b_some_rows .nil pass0 (pa_cons (pv 3) (pa_cons (pv 4) pa_nil))))
        (pss_cons (ps_if (PW.pt (pw_or (pt_not (pt_val (pe_call (ok_right T) (hr.mono (by decide)) (by rfl) T.g_right T.F_right.kp T.b_right .nil pass0 (pa_cons (pv 5) (pa_cons (pv 4) pa_nil))))) (pw_or1 (pt_not (pt_val (pe_call (ok_right T) (hr.mono (by decide)) (by rfl) T.g_right T.F_right.kp T.b_right .nil pass0 (pa_cons (pe_slice sl_list (pv 5) (po_some (pe_un un_neg pe_int)) po_none) (pa_cons (pv 4) pa_nil))))))))
        (pss_one (ps_ret pe_bl))
        pss_nil)
        (pss_one (ps_expr (pe_bm PySem.F.plainAttrs_list PySem.F.slot_list_append PySem.F.type_list_append mt_append (pv 1) (pa_cons (pe_lst (pa_cons (pv 5) (pa_cons (pv 4) pa_nil))) pa_nil)))))))))
      (pss_cons (ps_for PassesOwn.never rfl (pi_list (pv 1)) (pg_name (i := 6) sc_law.nd rfl (.inl rfl))
      (pss_one (ps_if (pt_not (pt_val (pe_call (ok_right T) (hr.mono (by decide)) (by rfl) T.g_right T.F_right.kp T.b_right .nil pass0 (pa_cons (pe_ix ix_list (pv 6) pe_int (fun _ _ => rfl)) (pa_cons (pe_ix ix_list (pv 6) pe_int (fun _ _ => rfl)) pa_nil)))))
        (pss_one (ps_ret pe_bl))
        pss_nil)))
      (pss_one (ps_ret pe_bl))))), ?_⟩
    refine ⟨Nat.zero_le _, fun s ns0 => ?_⟩
    have s0 : Same H (upd H s (.lst [])) := same_upd ns0
    have hn : ((ns.map V.int).length : Int) ≤ 63 := by rw [List.length_map]; omega
    refine ⟨_, rfl, _, _, rfl, .inl (s0.seq hS), _, _, rfl, _, _, rfl, _, rfl, ?_, ?_, for_range (lo := 0) (fun i σ' H' => ∃ (ps : List Addr) (y2 y3 y4 y5 y6 : Option V), σ' = [some (.ref a), some (.ref s), y2, y3, y4, y5, y6] ∧ ps.length = i ∧ Same H H' ∧ H' s = some (.lst (ps.map V.ref)) ∧ ∀ p ∈ ps, p ≠ s ∧ ∃ (zs : List Str) (w : Int) (p2 : Addr), p2 ≠ s ∧ Rows zs ∧ 20 ≤ w ∧ w ≤ 60 ∧ H' p = some (.lst [.ref p2, .int w]) ∧ H' p2 = some (.lst (zs.map V.str))) ⟨[], none, none, none, none, none, rfl, rfl, s0, upd_same, fun _ h => nomatch h⟩ ?_ ?_⟩
    · split <;> split <;> omega
    · split <;> split <;> omega
    · rintro i σ' H' hi ⟨ps, y2, y3, y4, y5, y6, rfl, lp, sm, eS, good⟩
      have hi2 : i < 16 := by
        split at hi <;> split at hi <;> omega
      refine ⟨_, rfl, _, rfl, a, ns, i, ?_, sm.seq hS, fun p0 H1 sm1 n0 src => ?_⟩
      · show [V.ref a, V.int (0 + (i : Int))] = [V.ref a, V.int (i : Int)]
        rw [Int.zero_add]
      refine ⟨_, rfl, _, _, rfl, src, by decide, by decide, fun w H2 src2 b2 w1 w2 => ?_⟩
      refine ⟨_, _, rfl, rfl, ?_⟩
      refine ⟨_, rfl, _, rfl, p0, _, rfl, src2, by omega, by omega, fun zs p H3 np b3 e3 row => ?_⟩
      have smx : Same H H3 := fun b o e => b3 b o (ne_of_none (sm b o e) n0) (b2 b o (ne_of_none (sm b o e) n0) (sm1 b o (sm b o e)))
      have nsp0 : s ≠ p0 := ne_of_none eS n0
      have eS3 : H3 s = some (.lst (ps.map V.ref)) := b3 s _ nsp0 (b2 s _ nsp0 (sm1 s _ eS))
      refine ⟨_, rfl, _, rfl, p, zs, _, rfl, .inl (.inl e3), row, by omega, by omega, fun H4 s4 => ⟨true, rfl, ?_⟩⟩
      refine ⟨_, rfl, 1, rfl, -1, rfl, _, _, rfl, .inl (.inl (s4 _ _ e3)), fun r nr => ?_⟩
      obtain ⟨hr1, hr2, hr3⟩ := row
      have ez : zs = zs.dropLast ++ [zs.getLast hr1] := (List.dropLast_concat_getLast hr1).symm
      have ec : cutV (zs.map V.str) (some (-1)) none = ([zs.getLast hr1] : List Str).map V.str := by
        have h1 : zs.map V.str = zs.dropLast.map V.str ++ [V.str (zs.getLast hr1)] := by
          conv => lhs; rw [ez]
          rw [List.map_append]; rfl
        rw [h1, cut_one]
        rfl
      rw [ec]
      have row1 : Rows [zs.getLast hr1] := ⟨List.cons_ne_nil _ _, (by show 1 ≤ 30; decide), fun z hz => by rw [List.mem_singleton.mp hz]; exact hr3 _ (List.getLast_mem hr1)⟩
      refine ⟨_, rfl, r, _, _, rfl, .inl (.inl upd_same), row1, by omega, by omega, fun H5 s5 => ⟨true, rfl, ?_⟩⟩
      have s45 : Same H3 H5 := (s4.trans (same_upd nr)).trans s5
      have eS5 : H5 s = some (.lst (ps.map V.ref)) := s45 _ _ eS3
      refine ⟨_, rfl, .inl ⟨rfl, _, .inl (.inl eS5)⟩, _, rfl, _, rfl, (by show 2 ≤ sizeLine; decide), fun t nt => ?_⟩
      have nts : t ≠ s := fun e => by
        rw [e, eS5] at nt
        cases nt
      have eS6 : (upd H5 t (.lst [V.ref p, V.int (20 + w)])) s = some (.lst (ps.map V.ref)) := by rw [upd_ne nts.symm]; exact eS5
      refine ⟨_, _, _, rfl, rfl, eS6, ?_, ?_⟩
      · rw [List.length_map]
        exact small1000 (by omega)
      have nps : p ≠ s := fun e => by
        have h1 := b2 s _ nsp0 (sm1 s _ eS)
        rw [← e, np] at h1
        cases h1
      refine ⟨ps ++ [t], _, _, _, _, _, rfl, ?_, ?_, ?_, ?_⟩
      · rw [List.length_append, lp]; rfl
      · intro b o e
        rw [upd_ne (ne_of_none e ns0)]
        exact same_upd nt _ _ (s45 _ _ (smx _ _ e))
      · rw [upd_same, List.map_append]; rfl
      · intro p' hp
        rcases List.mem_append.mp hp with h | h
        · obtain ⟨h1, zs', w', q2, h2, h3, h4, h5, h6, h7⟩ := good p' h
          have k : ∀ b o, b ≠ s → H' b = some o → (upd (upd H5 t (.lst [V.ref p, V.int (20 + w)])) s (.lst (ps.map V.ref ++ [V.ref t]))) b = some o := fun b o nb e => by
            rw [upd_ne nb]
            exact same_upd nt _ _ (s45 _ _ (b3 b o (ne_of_none e n0) (b2 b o (ne_of_none e n0) (sm1 b o e))))
          exact ⟨h1, zs', w', q2, h2, h3, h4, h5, k _ _ h1 h6, k _ _ h2 h7⟩
        · rw [List.mem_singleton.mp h]
          refine ⟨nts, zs, 20 + w, p, nps, ⟨hr1, hr2, hr3⟩, by omega, by omega, ?_, ?_⟩
          · rw [upd_ne nts, upd_same]
          · rw [upd_ne nps]; exact same_upd nt _ _ (s45 _ _ e3)
    · rintro σ' H' ⟨ps, y2, y3, y4, y5, y6, rfl, lp, sm, eS, good⟩
      refine ⟨_, rfl, _, rfl, ⟨_, .inl (.inl eS)⟩, for_list (xs := ps.map V.ref) (fun i σ'' H'' => ∃ y, σ'' = [some (.ref a), some (.ref s), y2, y3, y4, y5, y] ∧ Same H' H'') ⟨y6, rfl, Same.refl _⟩ (fun (i : Nat) (σ'' : L2.St) (H'' : Hp) _ hh => ?_) ?_ ?_⟩
      · obtain ⟨_, _, s2⟩ := hh
        exact .inl (.inl (s2 _ _ eS))
      · rintro i x σ'' H'' hx ⟨y, rfl, s2⟩
        obtain ⟨p, rfl, hp⟩ := get_mapR hx
        obtain ⟨_, zs, w, p2, _, row, w1, w2, e1, e2⟩ := good p hp
        exact ⟨_, rfl, _, _, _, _, rfl, rfl, .inl (.inl (s2 _ _ e1)), atI_nat (j := 0) rfl, _, rfl, _, _, _, _, rfl, rfl, .inl (.inl (s2 _ _ e1)), atI_nat (j := 1) rfl, p2, zs, w, rfl, .inl (.inl (s2 _ _ e2)), row, w1, w2, fun H3 s3 => ⟨true, rfl, ⟨_, rfl, s2.trans s3⟩⟩⟩
      · rintro σ'' H'' ⟨y, rfl, s2⟩
        exact q _
end
theorem all_mk {l : PySem.W.OpenLaw} {w : World} {K : PySem.W.Frag} {h : Heap} {mg : Str → Option Value} {fa f0 f1 f2 f3 f4 f5 f6 f7 f8 f9 f10 f11 : Addr} (X : K.In h) (G : h.Ns mainGlobals mg) (hfa : mg "law" = some (.ref fa))
    {od0 an0 od1 an1 od2 an2 od3 an3 od4 an4 od5 an5 od6 an6 od7 an7 od8 an8 od9 an9 od10 an10 od11 an11 : Option Addr} {sl0 sl1 sl2 sl3 sl4 sl5 sl6 sl7 sl8 sl9 sl10 sl11 : Array (Option Value)} {oc0 kV0 dc0 pm0 cd0 ct0 oc1 kV1 dc1 pm1 cd1 ct1 oc2 kV2 dc2 pm2 cd2 ct2 oc3 kV3 dc3 pm3 cd3 ct3 oc4 kV4 dc4 pm4 cd4 ct4 oc5 kV5 dc5 pm5 cd5 ct5 oc6 kV6 dc6 pm6 cd6 ct6 oc7 kV7 dc7 pm7 cd7 ct7 oc8 kV8 dc8 pm8 cd8 ct8 oc9 kV9 dc9 pm9 cd9 ct9 oc10 kV10 dc10 pm10 cd10 ct10 oc11 kV11 dc11 pm11 cd11 ct11 : Value}
    (a0 : PySem.W.nsIn K mainGlobals "token_width" = some (some (.ref f0))) (l0 : K.lookup f0 = some ⟨oc0, od0, .func (PySem.W.fnOf "token_width" "token_width" (defArgs s_token_width) (defBody s_token_width) (defScope s_token_width) .none kV0 dc0 pm0 an0 cd0 ct0), sl0⟩) (c0 : PySem.W.codeIn K cd0 "token_width" = true) (k0 : PySem.W.keepIn K (.ref f0) = true)
    (a1 : PySem.W.nsIn K mainGlobals "row_width" = some (some (.ref f1))) (l1 : K.lookup f1 = some ⟨oc1, od1, .func (PySem.W.fnOf "row_width" "row_width" (defArgs s_row_width) (defBody s_row_width) (defScope s_row_width) .none kV1 dc1 pm1 an1 cd1 ct1), sl1⟩) (c1 : PySem.W.codeIn K cd1 "row_width" = true) (k1 : PySem.W.keepIn K (.ref f1) = true)
    (a2 : PySem.W.nsIn K mainGlobals "line_cost" = some (some (.ref f2))) (l2 : K.lookup f2 = some ⟨oc2, od2, .func (PySem.W.fnOf "line_cost" "line_cost" (defArgs s_line_cost) (defBody s_line_cost) (defScope s_line_cost) .none kV2 dc2 pm2 an2 cd2 ct2), sl2⟩) (c2 : PySem.W.codeIn K cd2 "line_cost" = true) (k2 : PySem.W.keepIn K (.ref f2) = true)
    (a3 : PySem.W.nsIn K mainGlobals "_law_source" = some (some (.ref f3))) (l3 : K.lookup f3 = some ⟨oc3, od3, .func (PySem.W.fnOf "_law_source" "_law_source" (defArgs s_source) (defBody s_source) (defScope s_source) .none kV3 dc3 pm3 an3 cd3 ct3), sl3⟩) (c3 : PySem.W.codeIn K cd3 "_law_source" = true) (k3 : PySem.W.keepIn K (.ref f3) = true)
    (a4 : PySem.W.nsIn K mainGlobals "_law_pick" = some (some (.ref f4))) (l4 : K.lookup f4 = some ⟨oc4, od4, .func (PySem.W.fnOf "_law_pick" "_law_pick" (defArgs s_pick) (defBody s_pick) (defScope s_pick) .none kV4 dc4 pm4 an4 cd4 ct4), sl4⟩) (c4 : PySem.W.codeIn K cd4 "_law_pick" = true) (k4 : PySem.W.keepIn K (.ref f4) = true)
    (a5 : PySem.W.nsIn K mainGlobals "_law_is_integer" = some (some (.ref f5))) (l5 : K.lookup f5 = some ⟨oc5, od5, .func (PySem.W.fnOf "_law_is_integer" "_law_is_integer" (defArgs s_is_integer) (defBody s_is_integer) (defScope s_is_integer) .none kV5 dc5 pm5 an5 cd5 ct5), sl5⟩) (c5 : PySem.W.codeIn K cd5 "_law_is_integer" = true) (k5 : PySem.W.keepIn K (.ref f5) = true)
    (a6 : PySem.W.nsIn K mainGlobals "_law_width" = some (some (.ref f6))) (l6 : K.lookup f6 = some ⟨oc6, od6, .func (PySem.W.fnOf "_law_width" "_law_width" (defArgs s_width) (defBody s_width) (defScope s_width) .none kV6 dc6 pm6 an6 cd6 ct6), sl6⟩) (c6 : PySem.W.codeIn K cd6 "_law_width" = true) (k6 : PySem.W.keepIn K (.ref f6) = true)
    (a7 : PySem.W.nsIn K mainGlobals "_law_token" = some (some (.ref f7))) (l7 : K.lookup f7 = some ⟨oc7, od7, .func (PySem.W.fnOf "_law_token" "_law_token" (defArgs s_token) (defBody s_token) (defScope s_token) .none kV7 dc7 pm7 an7 cd7 ct7), sl7⟩) (c7 : PySem.W.codeIn K cd7 "_law_token" = true) (k7 : PySem.W.keepIn K (.ref f7) = true)
    (a8 : PySem.W.nsIn K mainGlobals "_law_some_rows" = some (some (.ref f8))) (l8 : K.lookup f8 = some ⟨oc8, od8, .func (PySem.W.fnOf "_law_some_rows" "_law_some_rows" (defArgs s_some_rows) (defBody s_some_rows) (defScope s_some_rows) .none kV8 dc8 pm8 an8 cd8 ct8), sl8⟩) (c8 : PySem.W.codeIn K cd8 "_law_some_rows" = true) (k8 : PySem.W.keepIn K (.ref f8) = true)
    (a9 : PySem.W.nsIn K mainGlobals "_law_due" = some (some (.ref f9))) (l9 : K.lookup f9 = some ⟨oc9, od9, .func (PySem.W.fnOf "_law_due" "_law_due" (defArgs s_due) (defBody s_due) (defScope s_due) .none kV9 dc9 pm9 an9 cd9 ct9), sl9⟩) (c9 : PySem.W.codeIn K cd9 "_law_due" = true) (k9 : PySem.W.keepIn K (.ref f9) = true)
    (a10 : PySem.W.nsIn K mainGlobals "_law_right" = some (some (.ref f10))) (l10 : K.lookup f10 = some ⟨oc10, od10, .func (PySem.W.fnOf "_law_right" "_law_right" (defArgs s_right) (defBody s_right) (defScope s_right) .none kV10 dc10 pm10 an10 cd10 ct10), sl10⟩) (c10 : PySem.W.codeIn K cd10 "_law_right" = true) (k10 : PySem.W.keepIn K (.ref f10) = true)
    (a11 : PySem.W.nsIn K mainGlobals "law" = some (some (.ref f11))) (l11 : K.lookup f11 = some ⟨oc11, od11, .func (PySem.W.fnOf "law" "law" (defArgs s_law) (defBody s_law) (defScope s_law) .none kV11 dc11 pm11 an11 cd11 ct11), sl11⟩) (c11 : PySem.W.codeIn K cd11 "law" = true) (k11 : PySem.W.keepIn K (.ref f11) = true)
    (z_abs : PySem.W.nsIn K mainGlobals "abs" = some none)
    (z_bool : PySem.W.nsIn K mainGlobals "bool" = some none)
    (z_int : PySem.W.nsIn K mainGlobals "int" = some none)
    (z_isinstance : PySem.W.nsIn K mainGlobals "isinstance" = some none)
    (z_len : PySem.W.nsIn K mainGlobals "len" = some none)
    (z_list : PySem.W.nsIn K mainGlobals "list" = some none)
    (z_max : PySem.W.nsIn K mainGlobals "max" = some none)
    (z_min : PySem.W.nsIn K mainGlobals "min" = some none)
    (z_range : PySem.W.nsIn K mainGlobals "range" = some none)
    (z_sum : PySem.W.nsIn K mainGlobals "sum" = some none)
    (z_tuple : PySem.W.nsIn K mainGlobals "tuple" = some none)
    : ∃ fd : FuncData, (∀ (s : Shared) (v : Value), BindsTo s fd ⟨[v], []⟩ [("_law_script", v)]) ∧ ∀ base : Heap, K.In base → base.Ns mainGlobals mg → FnOk l.prog w K mg base CX0 5 fa fd ["_law_script"] (sp_law K) := by
  have e := hfa.symm.trans (PySem.W.mg_of X G a11)
  cases e
  have F0 := fun_mk (st := s_token_width) l0 c0 k0
  have b0 := F0.binds (ps := ["token"]) fun _ _ _ _ _ _ us hl => match us, hl with | [_], _ => rfl
  have F1 := fun_mk (st := s_row_width) l1 c1 k1
  have b1 := F1.binds (ps := ["row"]) fun _ _ _ _ _ _ us hl => match us, hl with | [_], _ => rfl
  have F2 := fun_mk (st := s_line_cost) l2 c2 k2
  have b2 := F2.binds (ps := ["rows", "width"]) fun _ _ _ _ _ _ us hl => match us, hl with | [_, _], _ => rfl
  have F3 := fun_mk (st := s_source) l3 c3 k3
  have b3 := F3.binds (ps := ["_law_script", "_law_k"]) fun _ _ _ _ _ _ us hl => match us, hl with | [_, _], _ => rfl
  have F4 := fun_mk (st := s_pick) l4 c4 k4
  have b4 := F4.binds (ps := ["_law_source_here", "_law_many"]) fun _ _ _ _ _ _ us hl => match us, hl with | [_, _], _ => rfl
  have F5 := fun_mk (st := s_is_integer) l5 c5 k5
  have b5 := F5.binds (ps := ["_law_actual"]) fun _ _ _ _ _ _ us hl => match us, hl with | [_], _ => rfl
  have F6 := fun_mk (st := s_width) l6 c6 k6
  have b6 := F6.binds (ps := ["_law_token_here"]) fun _ _ _ _ _ _ us hl => match us, hl with | [_], _ => rfl
  have F7 := fun_mk (st := s_token) l7 c7 k7
  have b7 := F7.binds (ps := ["_law_source_here"]) fun _ _ _ _ _ _ us hl => match us, hl with | [_], _ => rfl
  have F8 := fun_mk (st := s_some_rows) l8 c8 k8
  have b8 := F8.binds (ps := ["_law_source_here", "_law_limit"]) fun _ _ _ _ _ _ us hl => match us, hl with | [_, _], _ => rfl
  have F9 := fun_mk (st := s_due) l9 c9 k9
  have b9 := F9.binds (ps := ["_law_rows", "_law_limit"]) fun _ _ _ _ _ _ us hl => match us, hl with | [_, _], _ => rfl
  have F10 := fun_mk (st := s_right) l10 c10 k10
  have b10 := F10.binds (ps := ["_law_rows", "_law_limit"]) fun _ _ _ _ _ _ us hl => match us, hl with | [_, _], _ => rfl
  have F11 := fun_mk (st := s_law) l11 c11 k11
  have b11 := F11.binds (ps := ["_law_script"]) fun _ _ _ _ _ _ us hl => match us, hl with | [_], _ => rfl
  let T : Tab K mg := ⟨_, _, F0, b0, PySem.W.mg_of X G a0, _, _, F1, b1, PySem.W.mg_of X G a1, _, _, F2, b2, PySem.W.mg_of X G a2, _, _, F3, b3, PySem.W.mg_of X G a3, _, _, F4, b4, PySem.W.mg_of X G a4, _, _, F5, b5, PySem.W.mg_of X G a5, _, _, F6, b6, PySem.W.mg_of X G a6, _, _, F7, b7, PySem.W.mg_of X G a7, _, _, F8, b8, PySem.W.mg_of X G a8, _, _, F9, b9, PySem.W.mg_of X G a9, _, _, F10, b10, PySem.W.mg_of X G a10, _, _, F11, b11, PySem.W.mg_of X G a11, PySem.W.mg_none_of X G z_abs, PySem.W.mg_none_of X G z_bool, PySem.W.mg_none_of X G z_int, PySem.W.mg_none_of X G z_isinstance, PySem.W.mg_none_of X G z_len, PySem.W.mg_none_of X G z_list, PySem.W.mg_none_of X G z_max, PySem.W.mg_none_of X G z_min, PySem.W.mg_none_of X G z_range, PySem.W.mg_none_of X G z_sum, PySem.W.mg_none_of X G z_tuple⟩
  exact ⟨PySem.W.fnOf "law" "law" (defArgs s_law) (defBody s_law) (defScope s_law) .none kV11 dc11 pm11 an11 cd11 ct11, fun s v => .of_eq rfl, fun base _ _ => ok_law T⟩
end K13
open PySem PySem.W PyProof.Rows
set_option maxRecDepth 100000 in
set_option maxHeartbeats 0 in
theorem PySem.Challenge.cw_afterleaves_k13_costs_holds : PySem.Challenge.rw_afterleaves_k13_costs.Holds := by
  w_on; o_law; k_head; (case hw => w_witness2)
  k_fill
  refine L2.walk_of (l := PySem.Challenge.rw_afterleaves_k13_costs) (n := 63) (k := 5) (x := "_law_script") (CX := fun _ => L2.CX0) (sp := fun w => K13.sp_law _) rfl (by decide) rfl ⟨rfl, by decide, by decide⟩ (fun w h Y => PySem.W.kIn_of Y) ?F (fun _ _ a ns hl _ hS => ⟨a, ns, rfl, hS, hl, fun _ => rfl⟩) (fun _ _ _ _ _ h => h)
  case F =>
    intro w mg fa h KX G hmg
    refine' K13.all_mk KX G hmg ?a0 ?l0 ?c0 ?k0 ?a1 ?l1 ?c1 ?k1 ?a2 ?l2 ?c2 ?k2 ?a3 ?l3 ?c3 ?k3 ?a4 ?l4 ?c4 ?k4 ?a5 ?l5 ?c5 ?k5 ?a6 ?l6 ?c6 ?k6 ?a7 ?l7 ?c7 ?k7 ?a8 ?l8 ?c8 ?k8 ?a9 ?l9 ?c9 ?k9 ?a10 ?l10 ?c10 ?k10 ?a11 ?l11 ?c11 ?k11 ?z_abs ?z_bool ?z_int ?z_isinstance ?z_len ?z_list ?z_max ?z_min ?z_range ?z_sum ?z_tuple
    (case a0 => k_is)
    (case l0 => k_is)
    (case c0 => k_is)
    (case k0 => k_is)
    (case a1 => k_is)
    (case l1 => k_is)
    (case c1 => k_is)
    (case k1 => k_is)
    (case a2 => k_is)
    (case l2 => k_is)
    (case c2 => k_is)
    (case k2 => k_is)
    (case a3 => k_is)
    (case l3 => k_is)
    (case c3 => k_is)
    (case k3 => k_is)
    (case a4 => k_is)
    (case l4 => k_is)
    (case c4 => k_is)
    (case k4 => k_is)
    (case a5 => k_is)
    (case l5 => k_is)
    (case c5 => k_is)
    (case k5 => k_is)
    (case a6 => k_is)
    (case l6 => k_is)
    (case c6 => k_is)
    (case k6 => k_is)
    (case a7 => k_is)
    (case l7 => k_is)
    (case c7 => k_is)
    (case k7 => k_is)
    (case a8 => k_is)
    (case l8 => k_is)
    (case c8 => k_is)
    (case k8 => k_is)
    (case a9 => k_is)
    (case l9 => k_is)
    (case c9 => k_is)
    (case k9 => k_is)
    (case a10 => k_is)
    (case l10 => k_is)
    (case c10 => k_is)
    (case k10 => k_is)
    (case a11 => k_is)
    (case l11 => k_is)
    (case c11 => k_is)
    (case k11 => k_is)
    (case z_abs => k_is)
    (case z_bool => k_is)
    (case z_int => k_is)
    (case z_isinstance => k_is)
    (case z_len => k_is)
    (case z_list => k_is)
    (case z_max => k_is)
    (case z_min => k_is)
    (case z_range => k_is)
    (case z_sum => k_is)
    (case z_tuple => k_is)

import PyProof.Rows.All
import Wide.All
import OpenK.AllK
import Wide.FinOn
import HandS.ForMost
import HandS.Codes
import HandS.IsInst
import HandS.Walk
import PySem.Challenge.RW_afterleaves_k12_widths
set_option Elab.async false
set_option linter.all false
set_option maxRecDepth 100000
set_option maxHeartbeats 4000000
namespace K12
open PySem PySem.Spec PyProof.Rows L2
/-! ### the text -/
def topS (i : Nat) : Stmt := PySem.Challenge.pw_afterleaves_k12_widths.main.body.getD i (.Pass ⟨0, 0, 0, 0⟩)
abbrev s_token_width : Stmt := topS 1
abbrev N_token_width : List Str := ["token"]
theorem sc_token_width : FnScope N_token_width ["token"] (defScope s_token_width) := ⟨rfl, rfl, rfl, by decide +kernel, rfl, by decide +kernel, by decide +kernel⟩
abbrev s_row_width : Stmt := topS 2
abbrev N_row_width : List Str := ["row"]
theorem sc_row_width : FnScope N_row_width ["row"] (defScope s_row_width) := ⟨rfl, rfl, rfl, by decide +kernel, rfl, by decide +kernel, by decide +kernel⟩
abbrev s_source : Stmt := topS 4
abbrev N_source : List Str := ["_law_script", "_law_k", "_law_cell", "_law_number", "_law_great"]
theorem sc_source : FnScope N_source ["_law_script", "_law_k"] (defScope s_source) := ⟨rfl, rfl, rfl, by decide +kernel, rfl, by decide +kernel, by decide +kernel⟩
abbrev s_pick : Stmt := topS 5
abbrev N_pick : List Str := ["_law_source_here", "_law_many", "_law_taken"]
theorem sc_pick : FnScope N_pick ["_law_source_here", "_law_many"] (defScope s_pick) := ⟨rfl, rfl, rfl, by decide +kernel, rfl, by decide +kernel, by decide +kernel⟩
abbrev s_is_integer : Stmt := topS 6
abbrev N_is_integer : List Str := ["_law_actual"]
theorem sc_is_integer : FnScope N_is_integer ["_law_actual"] (defScope s_is_integer) := ⟨rfl, rfl, rfl, by decide +kernel, rfl, by decide +kernel, by decide +kernel⟩
abbrev s_signs : Stmt := topS 7
abbrev N_signs : List Str := ["_law_signs_here"]
theorem sc_signs : FnScope N_signs [] (defScope s_signs) := ⟨rfl, rfl, rfl, by decide +kernel, rfl, by decide +kernel, by decide +kernel⟩
abbrev s_token : Stmt := topS 8
abbrev N_token : List Str := ["_law_source_here", "_law_signs_here", "_law_way", "_law_size", "_law_token_here", "_law_step"]
theorem sc_token : FnScope N_token ["_law_source_here"] (defScope s_token) := ⟨rfl, rfl, rfl, by decide +kernel, rfl, by decide +kernel, by decide +kernel⟩
abbrev s_row_of : Stmt := topS 9
abbrev N_row_of : List Str := ["_law_source_here", "_law_size", "_law_step"]
theorem sc_row_of : FnScope N_row_of ["_law_source_here"] (defScope s_row_of) := ⟨rfl, rfl, rfl, by decide +kernel, rfl, by decide +kernel, by decide +kernel⟩
abbrev s_due : Stmt := topS 10
abbrev N_due : List Str := ["_law_token_here", "_law_due_here", "_law_sign"]
theorem sc_due : FnScope N_due ["_law_token_here"] (defScope s_due) := ⟨rfl, rfl, rfl, by decide +kernel, rfl, by decide +kernel, by decide +kernel⟩
abbrev s_is : Stmt := topS 11
abbrev N_is : List Str := ["_law_actual", "_law_due_here"]
theorem sc_is : FnScope N_is ["_law_actual", "_law_due_here"] (defScope s_is) := ⟨rfl, rfl, rfl, by decide +kernel, rfl, by decide +kernel, by decide +kernel⟩
abbrev s_right : Stmt := topS 12
abbrev N_right : List Str := ["_law_tokens", "_law_wide", "_law_token_here"]
theorem sc_right : FnScope N_right ["_law_tokens"] (defScope s_right) := ⟨rfl, rfl, rfl, by decide +kernel, rfl, by decide +kernel, by decide +kernel⟩
abbrev s_law : Stmt := topS 13
abbrev N_law : List Str := ["_law_script", "_law_seen", "_law_k", "_law_tokens"]
theorem sc_law : FnScope N_law ["_law_script"] (defScope s_law) := ⟨rfl, rfl, rfl, by decide +kernel, rfl, by decide +kernel, by decide +kernel⟩
structure Tab (K : PySem.W.Frag) (mg : Str → Option Value) where
  f_token_width : Addr
  d_token_width : FuncData
  F_token_width : Fun K "token_width" "token_width" s_token_width f_token_width d_token_width
  b_token_width : Binds K d_token_width ["token"] []
  g_token_width : mg "token_width" = some (.ref f_token_width)
  f_row_width : Addr
  d_row_width : FuncData
  F_row_width : Fun K "row_width" "row_width" s_row_width f_row_width d_row_width
  b_row_width : Binds K d_row_width ["row"] []
  g_row_width : mg "row_width" = some (.ref f_row_width)
  f_source : Addr
  d_source : FuncData
  F_source : Fun K "_law_source" "_law_source" s_source f_source d_source
  b_source : Binds K d_source ["_law_script", "_law_k"] []
  g_source : mg "_law_source" = some (.ref f_source)
  f_pick : Addr
  d_pick : FuncData
  F_pick : Fun K "_law_pick" "_law_pick" s_pick f_pick d_pick
  b_pick : Binds K d_pick ["_law_source_here", "_law_many"] []
  g_pick : mg "_law_pick" = some (.ref f_pick)
  f_is_integer : Addr
  d_is_integer : FuncData
  F_is_integer : Fun K "_law_is_integer" "_law_is_integer" s_is_integer f_is_integer d_is_integer
  b_is_integer : Binds K d_is_integer ["_law_actual"] []
  g_is_integer : mg "_law_is_integer" = some (.ref f_is_integer)
  f_signs : Addr
  d_signs : FuncData
  F_signs : Fun K "_law_signs" "_law_signs" s_signs f_signs d_signs
  b_signs : Binds K d_signs [] []
  g_signs : mg "_law_signs" = some (.ref f_signs)
  f_token : Addr
  d_token : FuncData
  F_token : Fun K "_law_token" "_law_token" s_token f_token d_token
  b_token : Binds K d_token ["_law_source_here"] []
  g_token : mg "_law_token" = some (.ref f_token)
  f_row_of : Addr
  d_row_of : FuncData
  F_row_of : Fun K "_law_row_of" "_law_row_of" s_row_of f_row_of d_row_of
  b_row_of : Binds K d_row_of ["_law_source_here"] []
  g_row_of : mg "_law_row_of" = some (.ref f_row_of)
  f_due : Addr
  d_due : FuncData
  F_due : Fun K "_law_due" "_law_due" s_due f_due d_due
  b_due : Binds K d_due ["_law_token_here"] []
  g_due : mg "_law_due" = some (.ref f_due)
  f_is : Addr
  d_is : FuncData
  F_is : Fun K "_law_is" "_law_is" s_is f_is d_is
  b_is : Binds K d_is ["_law_actual", "_law_due_here"] []
  g_is : mg "_law_is" = some (.ref f_is)
  f_right : Addr
  d_right : FuncData
  F_right : Fun K "_law_right" "_law_right" s_right f_right d_right
  b_right : Binds K d_right ["_law_tokens"] []
  g_right : mg "_law_right" = some (.ref f_right)
  f_law : Addr
  d_law : FuncData
  F_law : Fun K "law" "law" s_law f_law d_law
  b_law : Binds K d_law ["_law_script"] []
  g_law : mg "law" = some (.ref f_law)
  m_abs : mg "abs" = none
  m_bool : mg "bool" = none
  m_int : mg "int" = none
  m_isinstance : mg "isinstance" = none
  m_len : mg "len" = none
  m_max : mg "max" = none
  m_min : mg "min" = none
  m_range : mg "range" = none
  m_sum : mg "sum" = none
/-! ### heaps and sources -/
theorem same_upd {H : Hp} {p : Addr} {o : HO} (h : H p = none) : Same H (upd H p o) := fun b x e => by
  rw [upd_ne (ne_of_none e h)]
  exact e
/-- all but a stand as they stood -/
def But (a : Addr) (H H' : Hp) : Prop := ∀ b o, b ≠ a → H b = some o → H' b = some o
theorem But.refl (a : Addr) (H : Hp) : But a H H := fun _ _ _ e => e
theorem But.trans {a : Addr} {H H1 H2 : Hp} (x : But a H H1) (y : But a H1 H2) : But a H H2 := fun b o n e => y b o n (x b o n e)
theorem But.of {a : Addr} {H H1 : Hp} (x : Same H H1) : But a H H1 := fun b o _ e => x b o e
theorem But.upd {a : Addr} {H : Hp} (o : HO) : But a H (upd H a o) := fun b u n e => by
  rw [upd_ne n]
  exact e
/-- what changes is not there at first -/
theorem But.same {a : Addr} {H0 H H' : Hp} (n : H0 a = none) (s : Same H0 H) (x : But a H H') : Same H0 H' := fun b o e => x b o (ne_of_none e n) (s b o e)
/-- a source of numbers: three ints -/
def Src (H : Hp) (a : Addr) : Prop := ∃ g x c : Int, H a = some (.lst [.int g, .int x, .int c])
theorem cut_map (ns : List Int) (lo hi : Option Int) : ∃ ms : List Int, cutV (ns.map V.int) lo hi = ms.map V.int := by
  unfold cutV
  exact ⟨_, by rw [← List.map_drop, ← List.map_take]⟩
theorem at_of' {α : Type} {xs : List α} {z : Int} {j : Nat} {v : α} (e : z = (j : Int)) (h : xs[j]? = some v) : atI xs z = some v := by
  subst e
  exact atI_nat h
theorem str_len_snoc (z : Str) (c : Nat) : (z ++ (⟨#[c]⟩ : Str)).length = z.length + 1 := by
  show (z.cps ++ #[c]).size = z.cps.size + 1
  rw [Array.size_append]
  rfl
theorem But.none {a D : Addr} {H H3 : Hp} (x : But a H H3) (n : H3 D = .none) (h : D ≠ a) : H D = .none := by
  cases e : H D with
  | none => rfl
  | some o =>
    rw [x D o h e] at n
    cases n
theorem But.put {a D : Addr} {H H' : Hp} (x : But a H H') (n : H D = .none) (o : HO) : But a H (L2.upd H' D o) := fun b u nb e => by
  rw [upd_ne (ne_of_none e n)]
  exact x b u nb e
theorem Src.put {a D : Addr} {H : Hp} (x : Src H a) (n : a ≠ D) (o : HO) : Src (upd H D o) a := by
  obtain ⟨g, y, c, e⟩ := x
  exact ⟨g, y, c, by rw [upd_ne n]; exact e⟩
theorem Src.ne {a D : Addr} {H : Hp} (x : Src H a) (n : H D = .none) : a ≠ D := by
  obtain ⟨g, y, c, e⟩ := x
  exact ne_of_none e n
theorem get_map {xs : List Str} {i : Nat} {x : V} (h : (xs.map V.str)[i]? = some x) : ∃ z, x = .str z ∧ xs[i]? = some z := by
  rw [List.getElem?_map] at h
  cases e : xs[i]? with
  | none => rw [e] at h; cases h
  | some z => rw [e] at h; exact ⟨z, (Option.some.inj h).symm, rfl⟩
theorem get_mapR {xs : List Addr} {i : Nat} {x : V} (h : (xs.map V.ref)[i]? = some x) : ∃ z, x = .ref z ∧ z ∈ xs := by
  rw [List.getElem?_map] at h
  cases e : xs[i]? with
  | none => rw [e] at h; cases h
  | some z => rw [e] at h; exact ⟨z, (Option.some.inj h).symm, List.mem_of_getElem? e⟩
/-! ### the mathematics -/
def widL (l : List Nat) : Int := (l.length : Int) + cnt 109 l + cnt 119 l
def wid (z : Str) : Int := widL z.cps.toList
theorem wid_of (z : Str) : (z.length : Int) + Txt.count z "m" + Txt.count z "w" = wid z := by
  rw [show ("m" : Str) = ⟨#[109]⟩ from rfl, show ("w" : Str) = ⟨#[119]⟩ from rfl, count_cnt, count_cnt]
  rfl
theorem widL_snoc (l : List Nat) (c : Nat) : widL (l ++ [c]) = widL l + 1 + (if c = 109 ∨ c = 119 then 1 else 0) := by
  unfold widL
  rw [cnt_append, cnt_append, List.length_append, cnt_cons, cnt_cons, cnt_nil, cnt_nil]
  simp only [List.length_cons, List.length_nil]
  by_cases h1 : c = 109
  · subst h1; simp; omega
  · by_cases h2 : c = 119
    · subst h2; simp; omega
    · simp [h1, h2]; omega
def sumW : List Str → Int
  | [] => 0
  | z :: r => wid z + sumW r
theorem sumW_snoc (zs : List Str) (z : Str) : sumW (zs ++ [z]) = sumW zs + wid z := by
  induction zs with
  | nil => show wid z + 0 = 0 + wid z; omega
  | cons y r ih => show wid y + sumW (r ++ [z]) = wid y + sumW r + wid z; rw [ih]; omega
theorem widL_app (a b : List Nat) : widL (a ++ b) = widL a + widL b := by
  unfold widL
  rw [cnt_append, cnt_append, List.length_append]
  omega
theorem wid_app (a b : Str) : wid (a ++ b) = wid a + wid b := by
  unfold wid
  rw [show (a ++ b).cps.toList = a.cps.toList ++ b.cps.toList from cps_toList_append a b, widL_app]
theorem join_cc (sep x y : Str) (r : List Str) : Txt.join sep (x :: y :: r) = x ++ sep ++ Txt.join sep (y :: r) := by
  unfold Txt.join
  rw [StrLaws.glued_eq_join, StrLaws.glued_eq_join]
  rfl
theorem wid_join : ∀ zs : List Str, zs ≠ [] → wid (Txt.join " " zs) = sumW zs + (zs.length : Int) - 1
  | [], h => absurd rfl h
  | [x], _ => by
    show wid x = wid x + 0 + 1 - 1
    omega
  | x :: y :: r, _ => by
    have ih := wid_join (y :: r) (List.cons_ne_nil _ _)
    have e : Txt.join " " (x :: y :: r) = x ++ " " ++ Txt.join " " (y :: r) := join_cc " " x y r
    rw [e, wid_app, wid_app, ih]
    have e1 : wid " " = 1 := by decide +kernel
    rw [e1]
    show wid x + 1 + (sumW (y :: r) + ((y :: r).length : Int) - 1) = wid x + sumW (y :: r) + ((r.length + 1 + 1 : Nat) : Int) - 1
    simp only [List.length_cons]
    omega
theorem join_len : ∀ zs : List Str, (∀ z ∈ zs, z.length ≤ 20) → (Txt.join " " zs).length ≤ 21 * zs.length
  | [], _ => by decide +kernel
  | [x], h => by
    have := h x (List.mem_singleton.mpr rfl)
    show x.length ≤ 21 * 1
    omega
  | x :: y :: r, h => by
    have ih := join_len (y :: r) (fun z hz => h z (List.mem_cons_of_mem _ hz))
    have hx := h x (List.mem_cons_self ..)
    have e : Txt.join " " (x :: y :: r) = x ++ " " ++ Txt.join " " (y :: r) := join_cc " " x y r
    have l : ∀ a b : Str, (a ++ b).length = a.length + b.length := fun a b => by
      show (a.cps ++ b.cps).size = _
      rw [Array.size_append]; rfl
    rw [e, l, l]
    have e1 : (" " : Str).length = 1 := by decide +kernel
    rw [e1]
    simp only [List.length_cons] at ih ⊢
    omega
theorem sum_le (zs : List Str) (h : ∀ z ∈ zs, z.length ≤ 20) : (zs.map (·.length)).sum ≤ 20 * zs.length := by
  induction zs with
  | nil => exact Nat.le_refl _
  | cons z r ih =>
    have h1 := h z (List.mem_cons_self ..)
    have h2 := ih fun y hy => h y (List.mem_cons_of_mem _ hy)
    simp only [List.map_cons, List.sum_cons, List.length_cons]
    omega
section
variable {P : Program} {w : World} {K : PySem.W.Frag} {mg : Str → Option Value} {base : Heap}
/-! ### the promises -/
def sp_token_width (K : PySem.W.Frag) : Sp := fun vs H Q _ => ∃ z : Str, vs = [.str z] ∧ z.length ≤ sizeLine ∧ Q (.int (wid z)) H
def sp_row_width (K : PySem.W.Frag) : Sp := fun vs H Q _ => ∃ z : Str, vs = [.str z] ∧ z.length ≤ sizeLine ∧ Q (.int (wid z)) H
def sp_source (K : PySem.W.Frag) : Sp := fun vs H Q _ => ∃ (a : Addr) (ns : List Int) (k : Nat), vs = [.ref a, .int k] ∧ SqL K H a (ns.map V.int) ∧ ∀ p H', Same H H' → H p = none → Src H' p → Q (.ref p) H'
def sp_pick (K : PySem.W.Frag) : Sp := fun vs H Q _ => ∃ (a : Addr) (m : Int), vs = [.ref a, .int m] ∧ Src H a ∧ 1 ≤ m ∧ m ≤ 1000000 ∧ ∀ r H', Src H' a → But a H H' → 0 ≤ r → r < m → Q (.int r) H'
def sp_is_integer (K : PySem.W.Frag) : Sp := fun vs H Q _ => ∃ i : Int, vs = [.int i] ∧ Q (.bl true) H
def sp_signs (K : PySem.W.Frag) : Sp := fun vs H Q _ => vs = [] ∧ ∀ z : Str, 1 ≤ z.length → z.length ≤ 100 → Q (.str z) H
def sp_token (K : PySem.W.Frag) : Sp := fun vs H Q _ => ∃ a : Addr, vs = [.ref a] ∧ Src H a ∧ ∀ (z : Str) H', Src H' a → But a H H' → z.length ≤ 20 → Q (.str z) H'
/-- a row of tokens -/
def Row (zs : List Str) : Prop := zs ≠ [] ∧ zs.length ≤ 30 ∧ ∀ z ∈ zs, z.length ≤ 20
def sp_row_of (K : PySem.W.Frag) : Sp := fun vs H Q _ => ∃ a : Addr, vs = [.ref a] ∧ Src H a ∧ ∀ (zs : List Str) p H', H p = none → But a H H' → H' p = some (.lst (zs.map V.str)) → Row zs → Q (.ref p) H'
def sp_due (K : PySem.W.Frag) : Sp := fun vs H Q _ => ∃ z : Str, vs = [.str z] ∧ Q (.int (wid z)) H
def sp_is (K : PySem.W.Frag) : Sp := fun vs H Q _ => ∃ i j : Int, vs = [.int i, .int j] ∧ Q (.bl (decide (i = j))) H
def sp_right (K : PySem.W.Frag) : Sp := fun vs H Q _ => ∃ (a : Addr) (zs : List Str), vs = [.ref a] ∧ SqL K H a (zs.map V.str) ∧ Row zs ∧ Q (.bl true) H
def sp_law (K : PySem.W.Frag) : Sp := fun vs H Q _ => ∃ (a : Addr) (ns : List Int), vs = [.ref a] ∧ SqL K H a (ns.map V.int) ∧ ns.length ≤ 63 ∧ ∀ H', Q (.bl true) H'
theorem ok_token_width (T : Tab K mg) : FnOk P w K mg base CX0 1 T.f_token_width T.d_token_width ["token"] (sp_token_width K) := by
  refine T.F_token_width.ok sc_token_width (fun vs H Q E h => ?_) (fun cdv A outer s H vs Q E hr h => ?_)
  · obtain ⟨z, rfl, _⟩ := h
    rfl
  · obtain ⟨z, rfl, hz, q⟩ := h
    refine ⟨_, (pss_one (ps_ret (pe_op op_add (pe_op op_add (pe_callB call_len_str (by rfl) T.m_len PySem.boot_len (pa_cons (pv 0) pa_nil)) (pe_m1 PySem.F.slot_str_count PySem.F.type_str_count mt_count (pv 0) pe_str)) (pe_m1 PySem.F.slot_str_count PySem.F.type_str_count mt_count (pv 0) pe_str)))), ?_⟩
    refine ⟨_, rfl, _, rfl, hz, _, rfl, ⟨_, rfl⟩, _, _, rfl, rfl, _, _, rfl, rfl, _, rfl, ⟨_, rfl⟩, _, _, rfl, rfl, _, _, rfl, rfl, ?_⟩
    rw [← wid_of] at q
    exact q
theorem ok_row_width (T : Tab K mg) : FnOk P w K mg base CX0 2 T.f_row_width T.d_row_width ["row"] (sp_row_width K) := by
  refine T.F_row_width.ok sc_row_width (fun vs H Q E h => ?_) (fun cdv A outer s H vs Q E hr h => ?_)
  · obtain ⟨z, rfl, _⟩ := h
    rfl
  · obtain ⟨z, rfl, hz, q⟩ := h
    refine ⟨_, (pss_one (ps_ret (pe_call (ok_token_width T) (hr.mono (by decide)) (by rfl) T.g_token_width T.F_token_width.kp T.b_token_width .nil pass0 (pa_cons (pv 0) pa_nil)))), ?_⟩
    exact ⟨_, rfl, z, rfl, hz, q⟩
theorem ok_source (T : Tab K mg) : FnOk P w K mg base CX0 1 T.f_source T.d_source ["_law_script", "_law_k"] (sp_source K) := by
  refine T.F_source.ok sc_source (fun vs H Q E h => ?_) (fun cdv A outer s H vs Q E hr h => ?_)
  · obtain ⟨a, ns, k, rfl, _⟩ := h
    rfl
  · obtain ⟨a, ns, k, rfl, hS, q⟩ := h
    refine ⟨_, (C8.pss_cut (ps_set (i := 2) sc_source.nd rfl (.inl rfl) (pe_ifExp (pt_cmpR op_lt (pv 1) (pe_callB call_len_seq (by rfl) T.m_len PySem.boot_len (pa_cons (pv 0) pa_nil)) (nomark _)) (pe_ix ix_list (pv 0) (pv 1) (fun _ _ => rfl)) (pe_op op_add (pe_op op_mod (pe_callTy call_int1 (by rfl) T.m_int (by decide +kernel) (pa_cons (pe_op op_add (pe_callB (cr_sum rfl) (by rfl) T.m_sum (by decide +kernel) (pa_cons (pe_slice sl_list (pv 0) po_none (po_some pe_int)) pa_nil)) (pe_op op_mul pe_int (pe_callB (cr_sum rfl) (by rfl) T.m_sum (by decide +kernel) (pa_cons (pe_slice sl_list (pv 0) (po_some pe_int) (po_some pe_int)) pa_nil)))) pa_nil)) pe_int) (pe_op op_mul pe_int (pv 1)))))
      (pss_cons (ps_set (i := 3) sc_source.nd rfl (.inl rfl) (pe_callB call_abs (by rfl) T.m_abs (by decide +kernel) (pa_cons (pv 2) pa_nil)))
      (C8.pss_cut (ps_set (i := 4) sc_source.nd rfl (.inl rfl) (pe_ifExp (pt_cmpR op_ge (pv 3) pe_int (nomark _)) (pv 3) pe_int))
      (pss_one (ps_ret (pe_lst (pa_cons (pv 4) (pa_cons (pe_op op_mod (pe_callTy call_int1 (by rfl) T.m_int (by decide +kernel) (pa_cons (pe_op op_add (pe_op op_add (pe_op op_add (pe_op op_mul (pv 3) pe_int) (pe_callTy call_int1 (by rfl) T.m_int (by decide +kernel) (pa_cons (pe_cmpR op_lt (pv 2) pe_int (nomark _)) pa_nil))) (pe_op op_mul pe_int (pv 1))) pe_int) pa_nil)) pe_int) (pa_cons pe_int pa_nil))))))))), ?_⟩
    refine ⟨fun σ' H' => ∃ c : Int, σ' = [some (.ref a), some (.int k), some (.int c), none, none] ∧ Same H H', ?_, ?_⟩
    · refine ⟨_, rfl, _, rfl, _, _, rfl, .inl hS, _, _, rfl, rfl, _, rfl, ite2 (fun e => ?_) (fun e => ?_)⟩
      · have e1 : (k : Int) < ((ns.map V.int).length : Int) := of_decide_eq_true e
        rw [List.length_map] at e1
        have hk : k < ns.length := by omega
        have g : (ns.map V.int)[k]? = some (.int ns[k]) := by
          rw [List.getElem?_map, List.getElem?_eq_getElem hk]
          rfl
        exact ⟨_, rfl, _, rfl, _, _, _, _, rfl, rfl, hS, atI_nat g, _, rfl, Same.refl H⟩
      · refine ⟨_, rfl, 1, rfl, _, _, rfl, hS, fun p1 n1 => ?_⟩
        obtain ⟨m1, c1⟩ := cut_map ns none (some 1)
        rw [c1]
        have s1 : Same H (upd H p1 (.lst (m1.map V.int))) := same_upd n1
        refine ⟨_, m1, rfl, .inl (.inl upd_same), _, rfl, 1, rfl, 2, rfl, _, _, rfl, s1.seq hS, fun p2 n2 => ?_⟩
        obtain ⟨m2, c2⟩ := cut_map ns (some 1) (some 2)
        rw [c2]
        refine ⟨_, m2, rfl, .inl (.inl upd_same), _, _, rfl, rfl, .inl ⟨by decide, by decide⟩, _, _, rfl, rfl, .inl ⟨_, rfl, _, _, rfl, rfl, (by show (0 : Int) < 1000003; decide), _, rfl, _, _, rfl, rfl, .inl ⟨by decide, by decide⟩, _, _, rfl, rfl, _, rfl, s1.trans (same_upd n2)⟩⟩
    · rintro σ' H1 ⟨c, rfl, s1⟩
      refine ⟨_, rfl, _, rfl, ?_⟩
      refine ⟨fun σ' H' => ∃ n g : Int, σ' = [some (.ref a), some (.int k), some (.int c), some (.int n), some (.int g)] ∧ H' = H1, ?_, ?_⟩
      · refine ⟨_, rfl, _, _, rfl, rfl, _, rfl, ite2 (fun e => ?_) (fun e => ?_)⟩
        · exact ⟨_, rfl, _, _, rfl, rfl⟩
        · exact ⟨_, _, rfl, rfl⟩
      · rintro σ' H' ⟨n, g, rfl, rfl⟩
        refine ⟨_, rfl, _, rfl, _, _, rfl, rfl, .inr ⟨by decide, by decide⟩, _, rfl, _, _, rfl, rfl, .inr ⟨_, rfl, _, _, rfl, rfl, _, rfl, _, _, rfl, rfl, .inl ⟨by decide, by decide⟩, _, _, rfl, rfl, _, _, rfl, rfl, .inl ⟨_, rfl, _, _, rfl, rfl, (by show (0 : Int) < 2147483647; decide), ?_⟩⟩⟩
        refine ⟨(by show 3 ≤ sizeLine; decide), fun p np => ?_⟩
        exact q p _ (s1.trans (same_upd np)) (s1.free np) ⟨_, _, _, upd_same⟩
theorem ok_pick (T : Tab K mg) : FnOk P w K mg base CX0 1 T.f_pick T.d_pick ["_law_source_here", "_law_many"] (sp_pick K) := by
  refine T.F_pick.ok sc_pick (fun vs H Q E h => ?_) (fun cdv A outer s H vs Q E hr h => ?_)
  · obtain ⟨a, m, rfl, _⟩ := h
    rfl
  · obtain ⟨a, m, rfl, ⟨g, x, c, hs⟩, h1, h2, q⟩ := h
    refine ⟨_, (pss_cons (ps_if (pt_cmpR op_lt (pv 1) pe_int (nomark _))
      (pss_one (ps_ret pe_int))
      pss_nil)
      (pss_cons (ps_if (pt_cmpR op_gt (pe_ix ix_list (pv 0) pe_int (fun _ _ => rfl)) pe_int (nomark _))
      (pss_cons (ps_set (i := 2) sc_pick.nd rfl (.inl rfl) (pe_op op_mod (pe_callTy call_int1 (by rfl) T.m_int (by decide +kernel) (pa_cons (pe_ix ix_list (pv 0) pe_int (fun _ _ => rfl)) pa_nil)) (pv 1)))
        (pss_cons (ps_asg (pe_op op_fdiv (pe_ix ix_list (pv 0) pe_int (fun _ _ => rfl)) (pv 1)) (pg_sub (pv 0) pe_int set_list))
        (pss_one (ps_ret (pv 2)))))
      pss_nil)
      (pss_cons (ps_asg (pe_op op_add (pe_ix ix_list (pv 0) pe_int (fun _ _ => rfl)) pe_int) (pg_sub (pv 0) pe_int set_list))
      (pss_cons (ps_asg (pe_op op_mod (pe_callTy call_int1 (by rfl) T.m_int (by decide +kernel) (pa_cons (pe_op op_add (pe_op op_add (pe_op op_mul (pe_ix ix_list (pv 0) pe_int (fun _ _ => rfl)) pe_int) (pe_op op_mul (pe_ix ix_list (pv 0) pe_int (fun _ _ => rfl)) pe_int)) pe_int) pa_nil)) pe_int) (pg_sub (pv 0) pe_int set_list))
      (pss_one (ps_ret (pe_op op_mod (pe_callTy call_int1 (by rfl) T.m_int (by decide +kernel) (pa_cons (pe_op op_fdiv (pe_op op_mod (pe_callTy call_int1 (by rfl) T.m_int (by decide +kernel) (pa_cons (pe_op op_add (pe_op op_add (pe_op op_mul (pe_ix ix_list (pv 0) pe_int (fun _ _ => rfl)) pe_int) (pe_op op_mul (pe_ix ix_list (pv 0) pe_int (fun _ _ => rfl)) pe_int)) pe_int) pa_nil)) pe_int) pe_int) pa_nil)) (pv 1)))))))), ?_⟩
    refine ⟨_, rfl, _, _, rfl, rfl, _, rfl, ite2 (fun e => ?_) (fun e => ?_)⟩
    · exact q 0 H ⟨g, x, c, hs⟩ (But.refl a H) (by decide) (by omega)
    · have hm : ¬ m < 2 := fun z => e (decide_eq_true z)
      refine ⟨_, rfl, _, _, _, _, rfl, rfl, .inl (.inl hs), rfl, _, _, rfl, rfl, _, rfl, ite2 (fun e => ?_) (fun e => ?_)⟩
      · refine ⟨_, rfl, _, _, _, _, rfl, rfl, .inl (.inl hs), rfl, .inl ⟨_, rfl, _, rfl, _, _, rfl, rfl, (by omega), ?_⟩⟩
        refine ⟨_, rfl, _, _, _, _, rfl, rfl, .inl (.inl hs), rfl, _, rfl, _, _, rfl, rfl, ⟨by omega, by omega⟩, ?_⟩
        refine ⟨_, rfl, _, _, _, _, rfl, rfl, hs, rfl, ?_⟩
        refine ⟨_, rfl, ?_⟩
        exact q _ _ ⟨_, _, _, upd_same⟩ (But.upd _) (Int.emod_nonneg _ (by omega)) (Int.emod_lt_of_pos _ (by omega))
      · refine ⟨_, rfl, _, _, _, _, rfl, rfl, .inl (.inl hs), rfl, _, _, rfl, rfl, _, rfl, _, _, _, _, rfl, rfl, hs, rfl, ?_⟩
        refine ⟨_, rfl, _, _, _, _, rfl, rfl, .inl (.inl upd_same), rfl, _, _, rfl, rfl, .inr ⟨by decide, by decide⟩, _, rfl, _, _, _, _, rfl, rfl, .inl (.inl upd_same), rfl, _, _, rfl, rfl, .inr ⟨by decide, by decide⟩, _, _, rfl, rfl, _, _, rfl, rfl, .inl ⟨_, rfl, _, _, rfl, rfl, (by show (0 : Int) < 2147483647; decide), ?_⟩⟩
        refine ⟨_, rfl, _, _, _, _, rfl, rfl, upd_same, rfl, ?_⟩
        refine ⟨_, rfl, _, _, _, _, rfl, rfl, .inl (.inl upd_same), rfl, _, _, rfl, rfl, .inr ⟨by decide, by decide⟩, _, rfl, _, _, _, _, rfl, rfl, .inl (.inl upd_same), rfl, _, _, rfl, rfl, .inr ⟨by decide, by decide⟩, _, _, rfl, rfl, _, _, rfl, rfl, .inl ⟨_, rfl, _, _, rfl, rfl, (by show (0 : Int) < 2147483629; decide), _, _, rfl, rfl, ⟨by decide, by decide⟩, .inl ⟨_, rfl, _, rfl, _, _, rfl, rfl, (by omega), ?_⟩⟩⟩
        exact q _ _ ⟨_, _, _, upd_same⟩ (((But.upd _).trans (But.upd _))) (Int.emod_nonneg _ (by omega)) (Int.emod_lt_of_pos _ (by omega))
theorem ok_is_integer (T : Tab K mg) : FnOk P w K mg base CX0 1 T.f_is_integer T.d_is_integer ["_law_actual"] (sp_is_integer K) := by
  refine T.F_is_integer.ok sc_is_integer (fun vs H Q E h => ?_) (fun cdv A outer s H vs Q E hr h => ?_)
  · obtain ⟨i, rfl, _⟩ := h
    rfl
  · obtain ⟨i, rfl, q⟩ := h
    refine ⟨_, (pss_one (ps_ret (pe_and (pe_callB call_isi (by rfl) T.m_isinstance (by decide +kernel) (pa_cons (pv 0) (pa_cons (pe_bltn (v := .ty "int") (u := .type "int") (by rfl) T.m_int (by decide +kernel) rfl) pa_nil))) (pe_one (pe_not (pe_callB call_isi (by rfl) T.m_isinstance (by decide +kernel) (pa_cons (pv 0) (pa_cons (pe_bltn (v := .ty "bool") (u := .type "bool") (by rfl) T.m_bool (by decide +kernel) rfl) pa_nil)))))))), ?_⟩
    refine ⟨_, rfl, _, _, _, _, _, rfl, .ty "int", .base (.int i), kit_ty (by decide +kernel), true, rfl, iteT ?_⟩
    exact ⟨_, rfl, _, _, _, _, _, rfl, .ty "bool", .base (.int i), kit_ty (r := false) (by decide +kernel), false, rfl, q⟩
theorem ok_signs (T : Tab K mg) : FnOk P w K mg base CX0 1 T.f_signs T.d_signs [] (sp_signs K) := by
  refine T.F_signs.ok sc_signs (fun vs H Q E h => ?_) (fun cdv A outer s H vs Q E hr h => ?_)
  · obtain ⟨rfl, _⟩ := h
    rfl
  · obtain ⟨rfl, q⟩ := h
    refine ⟨_, (pss_cons (ps_set (i := 0) sc_signs.nd rfl (.inl rfl) pe_str)
      (pss_one (ps_ret (pe_op op_add_str (pv 0) pe_str)))), ?_⟩
    refine ⟨_, rfl, _, _, rfl, rfl, (by decide +kernel), q _ (by decide +kernel) (by decide +kernel)⟩
theorem ok_token (T : Tab K mg) : FnOk P w K mg base CX0 2 T.f_token T.d_token ["_law_source_here"] (sp_token K) := by
  refine T.F_token.ok sc_token (fun vs H Q E h => ?_) (fun cdv A outer s H vs Q E hr h => ?_)
  · obtain ⟨a, rfl, _⟩ := h
    rfl
  · obtain ⟨a, rfl, hs, q⟩ := h
    refine ⟨_, (pss_cons (ps_set (i := 1) sc_token.nd rfl (.inl rfl) (pe_call0 (ok_signs T) (hr.mono (by decide)) (by rfl) T.g_signs T.F_signs.kp T.b_signs .nil pass0))
      (pss_cons (ps_set (i := 2) sc_token.nd rfl (.inl rfl) (pe_call (ok_pick T) (hr.mono (by decide)) (by rfl) T.g_pick T.F_pick.kp T.b_pick .nil pass0 (pa_cons (pv 0) (pa_cons pe_int pa_nil))))
      (C8.pss_cut (ps_if (pt_cmpR op_eq (pv 2) pe_int (nomark _))
      (pss_one (ps_set (i := 1) sc_token.nd rfl (.inl rfl) pe_str))
      pss_nil)
      (C8.pss_cut (ps_if (pt_cmpR op_eq (pv 2) pe_int (nomark _))
      (pss_one (ps_set (i := 1) sc_token.nd rfl (.inl rfl) pe_str))
      pss_nil)
      (pss_cons (ps_set (i := 3) sc_token.nd rfl (.inl rfl) (pe_op op_add pe_int (pe_call (ok_pick T) (hr.mono (by decide)) (by rfl) T.g_pick T.F_pick.kp T.b_pick .nil pass0 (pa_cons (pv 0) (pa_cons pe_int pa_nil)))))
      (C8.pss_cut (ps_if (pt_cmpR op_eq (pe_call (ok_pick T) (hr.mono (by decide)) (by rfl) T.g_pick T.F_pick.kp T.b_pick .nil pass0 (pa_cons (pv 0) (pa_cons pe_int pa_nil))) pe_int (nomark _))
      (pss_one (ps_set (i := 3) sc_token.nd rfl (.inl rfl) (pe_op op_add pe_int (pe_call (ok_pick T) (hr.mono (by decide)) (by rfl) T.g_pick T.F_pick.kp T.b_pick .nil pass0 (pa_cons (pv 0) (pa_cons pe_int pa_nil))))))
      pss_nil)
      (pss_cons (ps_set (i := 4) sc_token.nd rfl (.inl rfl) pe_str)
      (pss_cons (ps_for PassesOwn.never rfl (pi_range1 (by rfl) T.m_range (pa_cons (pv 3) pa_nil)) (pg_name (i := 5) sc_token.nd rfl (.inl rfl))
      (pss_one (ps_set (i := 4) sc_token.nd rfl (.inl rfl) (pe_op op_add_str (pv 4) (pe_ix ix_str (pv 1) (pe_call (ok_pick T) (hr.mono (by decide)) (by rfl) T.g_pick T.F_pick.kp T.b_pick .nil pass0 (pa_cons (pv 0) (pa_cons (pe_callB call_len_str (by rfl) T.m_len PySem.boot_len (pa_cons (pv 1) pa_nil)) pa_nil))) (fun _ _ => rfl))))))
      (pss_one (ps_ret (pv 4))))))))))), ?_⟩
    refine ⟨rfl, fun z0 l0 l1 => ?_⟩
    refine ⟨_, rfl, _, _, rfl, hs, by decide, by decide, fun w1 H1 s1 b1 p1 p2 => ?_⟩
    refine ⟨fun σ' H' => ∃ z : Str, σ' = [some (.ref a), some (.str z), some (.int w1), none, none, none] ∧ (1 ≤ z.length ∧ z.length ≤ 100) ∧ H1 = H', ?_, ?_⟩
    · refine ⟨_, rfl, rfl, _, rfl, ite2 (fun e => ?_) (fun e => ?_)⟩
      · exact ⟨_, rfl, by decide +kernel, rfl⟩
      · exact ⟨_, rfl, ⟨l0, l1⟩, rfl⟩
    rintro σ' H' ⟨z1, rfl, lz, rfl⟩
    refine ⟨fun σ' H' => ∃ z : Str, σ' = [some (.ref a), some (.str z), some (.int w1), none, none, none] ∧ (1 ≤ z.length ∧ z.length ≤ 100) ∧ H1 = H', ?_, ?_⟩
    · refine ⟨_, rfl, rfl, _, rfl, ite2 (fun e => ?_) (fun e => ?_)⟩
      · exact ⟨_, rfl, by decide +kernel, rfl⟩
      · exact ⟨_, rfl, lz, rfl⟩
    rintro σ' H' ⟨z2, rfl, lz2, rfl⟩
    refine ⟨_, rfl, _, _, rfl, s1, by decide, by decide, fun w2 H2 s2 b2 p3 p4 => ?_⟩
    refine ⟨_, _, rfl, rfl, ?_⟩
    refine ⟨fun σ' H' => ∃ n : Int, σ' = [some (.ref a), some (.str z2), some (.int w1), some (.int n), none, none] ∧ (1 ≤ n ∧ n ≤ 20) ∧ Src H' a ∧ But a H H', ?_, ?_⟩
    · refine ⟨_, rfl, _, _, rfl, s2, by decide, by decide, fun w3 H3 s3 b3 p5 p6 => ?_⟩
      refine ⟨rfl, _, rfl, ite2 (fun e => ?_) (fun e => ?_)⟩
      · refine ⟨_, rfl, _, _, rfl, s3, by decide, by decide, fun w4 H4 s4 b4 p7 p8 => ?_⟩
        exact ⟨_, _, rfl, rfl, _, rfl, ⟨by omega, by omega⟩, s4, ((b1.trans b2).trans b3).trans b4⟩
      · exact ⟨_, rfl, ⟨by omega, by omega⟩, s3, (b1.trans b2).trans b3⟩
    rintro σ' H3 ⟨n, rfl, hn, s3, b3⟩
    refine ⟨_, rfl, n, rfl, by omega, by omega, for_range (n := n.toNat) (fun i σ' H' => ∃ (z : Str) (y : Option V), σ' = [some (.ref a), some (.str z2), some (.int w1), some (.int n), some (.str z), y] ∧ z.length = i ∧ Src H' a ∧ But a H H') ⟨_, none, rfl, by decide +kernel, s3, b3⟩ ?_ ?_⟩
    · rintro i σ' H' hi ⟨z, y, rfl, lz3, s4, b4⟩
      refine ⟨_, rfl, _, rfl, _, rfl, _, rfl, _, rfl, (by exact Nat.le_of_lt (small1000 (by omega))), _, _, rfl, s4, by omega, by omega, fun w5 H5 s5 b5 p9 p10 => ?_⟩
      have hj : w5.toNat < z2.cps.toList.length := by
        have : z2.length = z2.cps.toList.length := rfl
        omega
      have hat : atI z2.cps.toList w5 = some (z2.cps.toList[w5.toNat]) := at_of' (by omega) (List.getElem?_eq_getElem hj)
      refine ⟨_, _, _, rfl, rfl, (by exact Nat.le_of_lt (small1000 (by omega))), hat, _, _, rfl, rfl, ?_, _, _, rfl, ?_, s5, b4.trans b5⟩
      · rw [lz3]
        exact Nat.le_of_lt (small1000 (by show i + 1 ≤ 1000; omega))
      · rw [str_len_snoc, lz3]
    · rintro σ' H' ⟨z, y, rfl, lz3, s4, b4⟩
      exact ⟨_, rfl, q z H' s4 b4 (by omega)⟩
theorem ok_row_of (T : Tab K mg) : FnOk P w K mg base CX0 3 T.f_row_of T.d_row_of ["_law_source_here"] (sp_row_of K) := by
  refine T.F_row_of.ok sc_row_of (fun vs H Q E h => ?_) (fun cdv A outer s H vs Q E hr h => ?_)
  · obtain ⟨a, rfl, _⟩ := h
    rfl
  · obtain ⟨a, rfl, hs, q⟩ := h
    refine ⟨_, (pss_cons (ps_set (i := 1) sc_row_of.nd rfl (.inl rfl) (pe_op op_add pe_int (pe_call (ok_pick T) (hr.mono (by decide)) (by rfl) T.g_pick T.F_pick.kp T.b_pick .nil pass0 (pa_cons (pv 0) (pa_cons pe_int pa_nil)))))
      (C8.pss_cut (ps_if (pt_cmpR op_eq (pe_call (ok_pick T) (hr.mono (by decide)) (by rfl) T.g_pick T.F_pick.kp T.b_pick .nil pass0 (pa_cons (pv 0) (pa_cons pe_int pa_nil))) pe_int (nomark _))
      (pss_one (ps_set (i := 1) sc_row_of.nd rfl (.inl rfl) (pe_op op_add pe_int (pe_call (ok_pick T) (hr.mono (by decide)) (by rfl) T.g_pick T.F_pick.kp T.b_pick .nil pass0 (pa_cons (pv 0) (pa_cons pe_int pa_nil))))))
      pss_nil)
      (pss_one (ps_ret (pe_lc (own := [("_law_step", 2)]) (g := gName 2) (by rfl) sc_row_of.nd (pi_range1 (by rfl) T.m_range (pa_cons (pv 1) pa_nil)) (blkOk_by (own := [("_law_step", 2)]) (N := N_row_of) (sc := defScope s_row_of) (by decide +kernel)) (fun _ _ _ _ _ => pg_name (i := 2) sc_row_of.nd rfl (.inl rfl)) (fun _ _ _ _ _ => pts_nil) (fun _ _ _ _ _ => (pe_call (ok_token T) (hr.mono (by decide)) (by rfl) T.g_token T.F_token.kp T.b_token .nil pass0 (pa_cons (pv 0) pa_nil)))))))), ?_⟩
    refine ⟨_, rfl, _, _, rfl, hs, by decide, by decide, fun w2 H2 s2 b2 p3 p4 => ?_⟩
    refine ⟨_, _, rfl, rfl, ?_⟩
    refine ⟨fun σ' H' => ∃ n : Int, σ' = [some (.ref a), some (.int n), none] ∧ (1 ≤ n ∧ n ≤ 30) ∧ Src H' a ∧ But a H H', ?_, ?_⟩
    · refine ⟨_, rfl, _, _, rfl, s2, by decide, by decide, fun w3 H3 s3 b3 p5 p6 => ?_⟩
      refine ⟨rfl, _, rfl, ite2 (fun e => ?_) (fun e => ?_)⟩
      · refine ⟨_, rfl, _, _, rfl, s3, by decide, by decide, fun w4 H4 s4 b4 p7 p8 => ?_⟩
        exact ⟨_, _, rfl, rfl, _, rfl, ⟨by omega, by omega⟩, s4, (b2.trans b3).trans b4⟩
      · exact ⟨_, rfl, ⟨by omega, by omega⟩, s3, b2.trans b3⟩
    rintro σ' H3 ⟨n, rfl, hn, s3, b3⟩
    refine ⟨_, rfl, n, rfl, by omega, by omega, fun D nD => ?_⟩
    have nDa : a ≠ D := s3.ne nD
    have nD0 : H D = none := b3.none nD nDa.symm
    refine lc_range (lo := 0) (n := n.toNat) (fun i H' => ∃ zs : List Str, zs.length = i ∧ (∀ z ∈ zs, z.length ≤ 20) ∧ Src H' a ∧ H' D = some (.lst (zs.map V.str)) ∧ But a H H') ⟨[], rfl, (fun _ h => nomatch h), s3.put nDa _, upd_same, b3.put nD0 _⟩ ?_ ?_
    · rintro i H' hi ⟨zs, lz, hz, s4, eD, b4⟩
      refine ⟨rfl, ?_⟩
      refine ⟨_, rfl, _, rfl, s4, fun z H5 s5 b5 lz5 => ?_⟩
      have eD5 : H5 D = some (.lst (zs.map V.str)) := b5 D _ nDa.symm eD
      refine ⟨_, eD5, ?_, zs ++ [z], ?_, ?_, s5.put nDa _, ?_, (b4.trans b5).put nD0 _⟩
      · rw [List.length_map]
        exact small1000 (by omega)
      · rw [List.length_append, lz]; rfl
      · intro y hy
        rcases List.mem_append.mp hy with h | h
        · exact hz y h
        · rw [List.mem_singleton.mp h]; exact lz5
      · rw [upd_same, List.map_append]; rfl
    · rintro H' ⟨zs, lz, hz, s4, eD, b4⟩
      refine q zs D H' nD0 b4 eD ⟨fun e => ?_, by omega, hz⟩
      rw [e] at lz
      have : (0 : Nat) = n.toNat := lz
      omega
theorem ok_due (T : Tab K mg) : FnOk P w K mg base CX0 1 T.f_due T.d_due ["_law_token_here"] (sp_due K) := by
  refine T.F_due.ok sc_due (fun vs H Q E h => ?_) (fun cdv A outer s H vs Q E hr h => ?_)
  · obtain ⟨z, rfl, _⟩ := h
    rfl
  · obtain ⟨z, rfl, q⟩ := h
    refine ⟨_, (pss_cons (ps_set (i := 1) sc_due.nd rfl (.inl rfl) pe_int)
      (pss_cons (ps_for PassesOwn.never rfl (pi_str (pv 0)) (pg_name (i := 2) sc_due.nd rfl (.inl rfl))
      (pss_cons (ps_set (i := 1) sc_due.nd rfl (.inl rfl) (pe_op op_add (pv 1) pe_int))
        (pss_one (ps_if (PW.pt (pw_or (pt_cmpR op_eq (pv 2) pe_str (nomark _)) (pw_or1 (pt_cmpR op_eq (pv 2) pe_str (nomark _)))))
        (pss_one (ps_set (i := 1) sc_due.nd rfl (.inl rfl) (pe_op op_add (pv 1) pe_int)))
        pss_nil))))
      (pss_one (ps_ret (pv 1))))), ?_⟩
    refine ⟨_, rfl, z, rfl, for_it walk_str (fun i σ' H' => ∃ y, σ' = [some (.str z), some (.int (widL (z.cps.toList.take i))), y] ∧ H' = H) ⟨none, rfl, rfl⟩ (fun _ _ _ _ _ => trivial) ?_ ?_⟩
    · rintro i x σ1 H1 H2 hi ⟨y, rfl, rfl⟩ ⟨rfl, c, hc, rfl⟩
      have hc2 : z.cps.toList[i]? = some c := by
        rw [Array.getElem?_toList]; exact hc
      have hw : widL (z.cps.toList.take (i + 1)) = widL (z.cps.toList.take i) + 1 + (if c = 109 ∨ c = 119 then 1 else 0) := by
        rw [List.take_add_one, hc2]
        exact widL_snoc _ _
      refine ⟨_, rfl, _, _, rfl, rfl, ?_⟩
      refine ⟨_, rfl, rfl, _, rfl, ite2 (fun e => ?_) (fun e => ?_)⟩
      · have e1 : c = 109 := by
          have e0 : V.str ⟨#[c]⟩ = V.str "m" := of_decide_eq_true e
          injection e0 with e0
          injection e0 with e0
          exact (List.cons.inj (congrArg Array.toList e0)).1
        refine iteT ⟨_, rfl, _, _, rfl, rfl, some (.str ⟨#[c]⟩), ?_, rfl⟩
        rw [hw, if_pos (.inl e1)]
        rfl
      · have n1 : ¬ c = 109 := fun h => e (by subst h; exact decide_eq_true rfl)
        refine ⟨_, rfl, rfl, _, rfl, ite2 (fun e => ?_) (fun e => ?_)⟩
        · have e1 : c = 119 := by
            have e0 : V.str ⟨#[c]⟩ = V.str "w" := of_decide_eq_true e
            injection e0 with e0
            injection e0 with e0
            exact (List.cons.inj (congrArg Array.toList e0)).1
          refine ⟨_, rfl, _, _, rfl, rfl, some (.str ⟨#[c]⟩), ?_, rfl⟩
          rw [hw, if_pos (.inr e1)]
          rfl
        · have n2 : ¬ c = 119 := fun h => e (by subst h; exact decide_eq_true rfl)
          refine ⟨some (.str ⟨#[c]⟩), ?_, rfl⟩
          rw [hw, if_neg (fun h => h.elim n1 n2), Int.add_zero]
          rfl
    · rintro σ1 H1 ⟨y, rfl, rfl⟩
      have e : z.cps.toList.take z.cps.size = z.cps.toList := List.take_of_length_le (by rw [Array.length_toList]; exact Nat.le_refl _)
      rw [e]
      exact ⟨_, rfl, q⟩
theorem ok_is (T : Tab K mg) : FnOk P w K mg base CX0 2 T.f_is T.d_is ["_law_actual", "_law_due_here"] (sp_is K) := by
  refine T.F_is.ok sc_is (fun vs H Q E h => ?_) (fun cdv A outer s H vs Q E hr h => ?_)
  · obtain ⟨i, j, rfl, _⟩ := h
    rfl
  · obtain ⟨i, j, rfl, q⟩ := h
    refine ⟨_, (pss_one (ps_ret (pe_and (pe_call (ok_is_integer T) (hr.mono (by decide)) (by rfl) T.g_is_integer T.F_is_integer.kp T.b_is_integer .nil pass0 (pa_cons (pv 0) pa_nil)) (pe_one (pe_cmpR op_eq (pv 0) (pv 1) (nomark _)))))), ?_⟩
    refine ⟨_, rfl, i, rfl, true, rfl, iteT ?_⟩
    refine ⟨_, rfl, _, rfl, rfl, ?_⟩
    have e : decide (V.int i = V.int j) = decide (i = j) := by
      by_cases h : i = j
      · subst h; simp
      · simp [h]
    rw [e]
    exact q
theorem ok_right (T : Tab K mg) : FnOk P w K mg base CX0 3 T.f_right T.d_right ["_law_tokens"] (sp_right K) := by
  refine T.F_right.ok sc_right (fun vs H Q E h => ?_) (fun cdv A outer s H vs Q E hr h => ?_)
  · obtain ⟨a, zs, rfl, _⟩ := h
    rfl
  · obtain ⟨a, zs, rfl, hS, ⟨r1, r2, r3⟩, q⟩ := h
    refine ⟨_, (pss_cons (ps_set (i := 1) sc_right.nd rfl (.inl rfl) (pe_op op_sub (pe_callB call_len_seq (by rfl) T.m_len PySem.boot_len (pa_cons (pv 0) pa_nil)) pe_int))
      (pss_cons (ps_for PassesOwn.never rfl (pi_list (pv 0)) (pg_name (i := 2) sc_right.nd rfl (.inl rfl))
      (pss_cons (ps_if (PW.pt (pw_or (pt_not (pt_val (pe_call (ok_is T) (hr.mono (by decide)) (by rfl) T.g_is T.F_is.kp T.b_is .nil pass0 (pa_cons (pe_call (ok_token_width T) (hr.mono (by decide)) (by rfl) T.g_token_width T.F_token_width.kp T.b_token_width .nil pass0 (pa_cons (pv 2) pa_nil)) (pa_cons (pe_call (ok_due T) (hr.mono (by decide)) (by rfl) T.g_due T.F_due.kp T.b_due .nil pass0 (pa_cons (pv 2) pa_nil)) pa_nil))))) (pw_or1 (pt_not (pt_val (pe_call (ok_is T) (hr.mono (by decide)) (by rfl) T.g_is T.F_is.kp T.b_is .nil pass0 (pa_cons (pe_call (ok_row_width T) (hr.mono (by decide)) (by rfl) T.g_row_width T.F_row_width.kp T.b_row_width .nil pass0 (pa_cons (pv 2) pa_nil)) (pa_cons (pe_call (ok_due T) (hr.mono (by decide)) (by rfl) T.g_due T.F_due.kp T.b_due .nil pass0 (pa_cons (pv 2) pa_nil)) pa_nil))))))))
        (pss_one (ps_ret pe_bl))
        pss_nil)
        (pss_one (ps_set (i := 1) sc_right.nd rfl (.inl rfl) (pe_op op_add (pv 1) (pe_call (ok_due T) (hr.mono (by decide)) (by rfl) T.g_due T.F_due.kp T.b_due .nil pass0 (pa_cons (pv 2) pa_nil)))))))
      (pss_one (ps_ret (pe_call (ok_is T) (hr.mono (by decide)) (by rfl) T.g_is T.F_is.kp T.b_is .nil pass0 (pa_cons (pe_call (ok_row_width T) (hr.mono (by decide)) (by rfl) T.g_row_width T.F_row_width.kp T.b_row_width .nil pass0 (pa_cons (pe_join pe_str (pv 0)) pa_nil)) (pa_cons (pv 1) pa_nil))))))), ?_⟩
    refine ⟨_, rfl, _, _, rfl, .inl hS, _, _, rfl, rfl, ?_⟩
    refine ⟨_, rfl, _, rfl, ⟨_, hS⟩, for_list (xs := zs.map V.str) (fun i σ' H' => ∃ y, σ' = [some (.ref a), some (.int (((zs.map V.str).length : Int) - 1 + sumW (zs.take i))), y] ∧ H = H') ⟨none, ?_, rfl⟩ (fun (i : Nat) (σ' : L2.St) (H' : Hp) _ hh => ?_) ?_ ?_⟩
    · show _ = [some (V.ref a), some (V.int (((zs.map V.str).length : Int) - 1 + 0)), none]
      rw [Int.add_zero]
      rfl
    · obtain ⟨_, _, rfl⟩ := hh
      exact hS
    · rintro i x σ' H' hx ⟨y, rfl, rfl⟩
      obtain ⟨z, rfl, hz⟩ := get_map hx
      have hz1 : z.length ≤ 20 := r3 z (List.mem_of_getElem? hz)
      have hz2 : z.length ≤ sizeLine := Nat.le_of_lt (small1000 (by omega))
      refine ⟨_, rfl, z, rfl, hz2, _, rfl, z, rfl, _, _, rfl, _, rfl, ?_⟩
      rw [decide_eq_true rfl]
      refine iteF ⟨_, rfl, z, rfl, hz2, _, rfl, z, rfl, _, _, rfl, _, rfl, ?_⟩
      rw [decide_eq_true rfl]
      refine iteF ?_
      refine ⟨_, rfl, _, rfl, z, rfl, _, _, rfl, rfl, some (.str z), ?_, rfl⟩
      rw [List.take_add_one, hz]
      show _ = [some (V.ref a), some (V.int (((zs.map V.str).length : Int) - 1 + sumW (zs.take i ++ [z]))), some (.str z)]
      rw [sumW_snoc, ← Int.add_assoc]
      rfl
    · rintro σ' H' ⟨y, rfl, rfl⟩
      have e1 : zs.take (zs.map V.str).length = zs := List.take_of_length_le (by rw [List.length_map]; exact Nat.le_refl _)
      rw [e1]
      have hs := sum_le zs r3
      refine ⟨⟨_, rfl⟩, _, rfl, _, _, zs, rfl, rfl, .inl hS, ?_, _, rfl, ?_, _, rfl, _, _, rfl, ?_⟩
      · have e2 : (" " : Str).length = 1 := by decide +kernel
        rw [e2]
        omega
      · have := join_len zs r3
        exact Nat.le_of_lt (small1000 (by omega))
      · rw [wid_join zs r1, List.length_map, decide_eq_true (by omega)]
        exact q
theorem ok_law (T : Tab K mg) : FnOk P w K mg base CX0 4 T.f_law T.d_law ["_law_script"] (sp_law K) := by
  refine T.F_law.ok sc_law (fun vs H Q E h => ?_) (fun cdv A outer s H vs Q E hr h => ?_)
  · obtain ⟨a, ns, rfl, _⟩ := h
    rfl
  · obtain ⟨a, ns, rfl, hS, hlen, q⟩ := h
    refine ⟨_, (pss_cons (ps_set (i := 1) sc_law.nd rfl (.inl rfl) (pe_lst pa_nil))
      (pss_cons (ps_for PassesOwn.never rfl (pi_range1 (by rfl) T.m_range (pa_cons (pe_callB (call_max2 rfl) (by rfl) T.m_max (by decide +kernel) (pa_cons pe_int (pa_cons (pe_callB (call_min2 rfl) (by rfl) T.m_min (by decide +kernel) (pa_cons pe_int (pa_cons (pe_callB call_len_seq (by rfl) T.m_len PySem.boot_len (pa_cons (pv 0) pa_nil)) pa_nil))) pa_nil))) pa_nil)) (pg_name (i := 2) sc_law.nd rfl (.inl rfl))
      (pss_cons (ps_set (i := 3) sc_law.nd rfl (.inl rfl) (pe_call (ok_row_of T) (hr.mono (by decide)) (by rfl) T.g_row_of T.F_row_of.kp T.b_row_of .nil pass0 (pa_cons (pe_call (ok_source T) (hr.mono (by decide)) (by rfl) T.g_source T.F_source.kp T.b_source .nil pass0 (pa_cons (pv 0) (pa_cons (pv 2) pa_nil))) pa_nil)))
        (pss_cons (ps_if (pt_not (pt_val (pe_call (ok_right T) (hr.mono (by decide)) (by rfl) T.g_right T.F_right.kp T.b_right .nil pass0 (pa_cons (pv 3) pa_nil))))
        (pss_one (ps_ret pe_bl))
        pss_nil)
        (pss_one (ps_expr (pe_bm PySem.F.plainAttrs_list PySem.F.slot_list_append PySem.F.type_list_append mt_append (pv 1) (pa_cons (pv 3) pa_nil)))))))
      (pss_cons (ps_for PassesOwn.never rfl (pi_list (pv 1)) (pg_name (i := 3) sc_law.nd rfl (.inl rfl))
      (pss_one (ps_if (pt_not (pt_val (pe_call (ok_right T) (hr.mono (by decide)) (by rfl) T.g_right T.F_right.kp T.b_right .nil pass0 (pa_cons (pv 3) pa_nil))))
        (pss_one (ps_ret pe_bl))
        pss_nil)))
      (pss_one (ps_ret pe_bl))))), ?_⟩
    refine ⟨Nat.zero_le _, fun s ns0 => ?_⟩
    have s0 : Same H (upd H s (.lst [])) := same_upd ns0
    have hn : ((ns.map V.int).length : Int) ≤ 63 := by rw [List.length_map]; omega
    refine ⟨_, rfl, _, _, rfl, .inl (s0.seq hS), _, _, rfl, _, _, rfl, _, rfl, ?_, ?_, for_range (lo := 0) (fun i σ' H' => ∃ (ps : List Addr) (y2 y3 : Option V), σ' = [some (.ref a), some (.ref s), y2, y3] ∧ ps.length = i ∧ Same H H' ∧ H' s = some (.lst (ps.map V.ref)) ∧ ∀ p ∈ ps, p ≠ s ∧ ∃ zs, Row zs ∧ H' p = some (.lst (zs.map V.str))) ⟨[], none, none, rfl, rfl, s0, upd_same, fun _ h => nomatch h⟩ ?_ ?_⟩
    · split <;> split <;> omega
    · split <;> split <;> omega
    · rintro i σ' H' hi ⟨ps, y2, y3, rfl, lp, sm, eS, good⟩
      have hi2 : i < 16 := by
        split at hi <;> split at hi <;> omega
      refine ⟨_, rfl, _, rfl, a, ns, i, ?_, sm.seq hS, fun p0 H1 sm1 n0 src => ?_⟩
      · show [V.ref a, V.int (0 + (i : Int))] = [V.ref a, V.int (i : Int)]
        rw [Int.zero_add]
      refine ⟨p0, rfl, src, fun zs p H2 np b2 e2 row => ?_⟩
      refine ⟨_, rfl, p, zs, rfl, .inl (.inl e2), row, true, rfl, ?_⟩
      have ns0' : s ≠ p0 := ne_of_none eS n0
      have eS2 : H2 s = some (.lst (ps.map V.ref)) := b2 s _ ns0' (sm1 s _ eS)
      refine ⟨_, rfl, .inl ⟨rfl, _, .inl (.inl eS2)⟩, _, rfl, _, _, _, rfl, rfl, eS2, ?_, ?_⟩
      · rw [List.length_map]
        exact small1000 (by omega)
      have nps : p ≠ s := fun e => by
        rw [e, sm1 s _ eS] at np
        cases np
      refine ⟨ps ++ [p], _, _, rfl, ?_, ?_, ?_, ?_⟩
      · rw [List.length_append, lp]; rfl
      · intro b o e
        rw [upd_ne (ne_of_none e ns0)]
        exact b2 b o (ne_of_none (sm b o e) n0) (sm1 b o (sm b o e))
      · rw [upd_same, List.map_append]; rfl
      · intro p' hp
        rcases List.mem_append.mp hp with h | h
        · obtain ⟨h1, zs', h2, h3⟩ := good p' h
          refine ⟨h1, zs', h2, ?_⟩
          rw [upd_ne h1]
          exact b2 p' _ (ne_of_none h3 n0) (sm1 p' _ h3)
        · rw [List.mem_singleton.mp h]
          exact ⟨nps, zs, row, by rw [upd_ne nps]; exact e2⟩
    · rintro σ' H' ⟨ps, y2, y3, rfl, lp, sm, eS, good⟩
      refine ⟨_, rfl, _, rfl, ⟨_, .inl (.inl eS)⟩, for_list (xs := ps.map V.ref) (fun i σ'' H'' => ∃ y, σ'' = [some (.ref a), some (.ref s), y2, y] ∧ H' = H'') ⟨y3, rfl, rfl⟩ (fun (i : Nat) (σ'' : L2.St) (H'' : Hp) _ hh => ?_) ?_ ?_⟩
      · obtain ⟨_, _, rfl⟩ := hh
        exact .inl (.inl eS)
      · rintro i x σ'' H'' hx ⟨y, rfl, rfl⟩
        obtain ⟨p, rfl, hp⟩ := get_mapR hx
        obtain ⟨_, zs, row, e2⟩ := good p hp
        exact ⟨_, rfl, p, zs, rfl, .inl (.inl e2), row, true, rfl, ⟨_, rfl, rfl⟩⟩
      · rintro σ'' H'' ⟨y, rfl, rfl⟩
        exact q _
end
theorem all_mk {l : PySem.W.OpenLaw} {w : World} {K : PySem.W.Frag} {h : Heap} {mg : Str → Option Value} {fa f0 f1 f2 f3 f4 f5 f6 f7 f8 f9 f10 f11 : Addr} (X : K.In h) (G : h.Ns mainGlobals mg) (hfa : mg "law" = some (.ref fa))
    {od0 an0 od1 an1 od2 an2 od3 an3 od4 an4 od5 an5 od6 an6 od7 an7 od8 an8 od9 an9 od10 an10 od11 an11 : Option Addr} {sl0 sl1 sl2 sl3 sl4 sl5 sl6 sl7 sl8 sl9 sl10 sl11 : Array (Option Value)} {oc0 kV0 dc0 pm0 cd0 ct0 oc1 kV1 dc1 pm1 cd1 ct1 oc2 kV2 dc2 pm2 cd2 ct2 oc3 kV3 dc3 pm3 cd3 ct3 oc4 kV4 dc4 pm4 cd4 ct4 oc5 kV5 dc5 pm5 cd5 ct5 oc6 kV6 dc6 pm6 cd6 ct6 oc7 kV7 dc7 pm7 cd7 ct7 oc8 kV8 dc8 pm8 cd8 ct8 oc9 kV9 dc9 pm9 cd9 ct9 oc10 kV10 dc10 pm10 cd10 ct10 oc11 kV11 dc11 pm11 cd11 ct11 : Value}
    (a0 : PySem.W.nsIn K mainGlobals "token_width" = some (some (.ref f0))) (l0 : K.lookup f0 = some ⟨oc0, od0, .func (PySem.W.fnOf "token_width" "token_width" (defArgs s_token_width) (defBody s_token_width) (defScope s_token_width) .none kV0 dc0 pm0 an0 cd0 ct0), sl0⟩) (c0 : PySem.W.codeIn K cd0 "token_width" = true) (k0 : PySem.W.keepIn K (.ref f0) = true)
    (a1 : PySem.W.nsIn K mainGlobals "row_width" = some (some (.ref f1))) (l1 : K.lookup f1 = some ⟨oc1, od1, .func (PySem.W.fnOf "row_width" "row_width" (defArgs s_row_width) (defBody s_row_width) (defScope s_row_width) .none kV1 dc1 pm1 an1 cd1 ct1), sl1⟩) (c1 : PySem.W.codeIn K cd1 "row_width" = true) (k1 : PySem.W.keepIn K (.ref f1) = true)
    (a2 : PySem.W.nsIn K mainGlobals "_law_source" = some (some (.ref f2))) (l2 : K.lookup f2 = some ⟨oc2, od2, .func (PySem.W.fnOf "_law_source" "_law_source" (defArgs s_source) (defBody s_source) (defScope s_source) .none kV2 dc2 pm2 an2 cd2 ct2), sl2⟩) (c2 : PySem.W.codeIn K cd2 "_law_source" = true) (k2 : PySem.W.keepIn K (.ref f2) = true)
    (a3 : PySem.W.nsIn K mainGlobals "_law_pick" = some (some (.ref f3))) (l3 : K.lookup f3 = some ⟨oc3, od3, .func (PySem.W.fnOf "_law_pick" "_law_pick" (defArgs s_pick) (defBody s_pick) (defScope s_pick) .none kV3 dc3 pm3 an3 cd3 ct3), sl3⟩) (c3 : PySem.W.codeIn K cd3 "_law_pick" = true) (k3 : PySem.W.keepIn K (.ref f3) = true)
    (a4 : PySem.W.nsIn K mainGlobals "_law_is_integer" = some (some (.ref f4))) (l4 : K.lookup f4 = some ⟨oc4, od4, .func (PySem.W.fnOf "_law_is_integer" "_law_is_integer" (defArgs s_is_integer) (defBody s_is_integer) (defScope s_is_integer) .none kV4 dc4 pm4 an4 cd4 ct4), sl4⟩) (c4 : PySem.W.codeIn K cd4 "_law_is_integer" = true) (k4 : PySem.W.keepIn K (.ref f4) = true)
    (a5 : PySem.W.nsIn K mainGlobals "_law_signs" = some (some (.ref f5))) (l5 : K.lookup f5 = some ⟨oc5, od5, .func (PySem.W.fnOf "_law_signs" "_law_signs" (defArgs s_signs) (defBody s_signs) (defScope s_signs) .none kV5 dc5 pm5 an5 cd5 ct5), sl5⟩) (c5 : PySem.W.codeIn K cd5 "_law_signs" = true) (k5 : PySem.W.keepIn K (.ref f5) = true)
    (a6 : PySem.W.nsIn K mainGlobals "_law_token" = some (some (.ref f6))) (l6 : K.lookup f6 = some ⟨oc6, od6, .func (PySem.W.fnOf "_law_token" "_law_token" (defArgs s_token) (defBody s_token) (defScope s_token) .none kV6 dc6 pm6 an6 cd6 ct6), sl6⟩) (c6 : PySem.W.codeIn K cd6 "_law_token" = true) (k6 : PySem.W.keepIn K (.ref f6) = true)
    (a7 : PySem.W.nsIn K mainGlobals "_law_row_of" = some (some (.ref f7))) (l7 : K.lookup f7 = some ⟨oc7, od7, .func (PySem.W.fnOf "_law_row_of" "_law_row_of" (defArgs s_row_of) (defBody s_row_of) (defScope s_row_of) .none kV7 dc7 pm7 an7 cd7 ct7), sl7⟩) (c7 : PySem.W.codeIn K cd7 "_law_row_of" = true) (k7 : PySem.W.keepIn K (.ref f7) = true)
    (a8 : PySem.W.nsIn K mainGlobals "_law_due" = some (some (.ref f8))) (l8 : K.lookup f8 = some ⟨oc8, od8, .func (PySem.W.fnOf "_law_due" "_law_due" (defArgs s_due) (defBody s_due) (defScope s_due) .none kV8 dc8 pm8 an8 cd8 ct8), sl8⟩) (c8 : PySem.W.codeIn K cd8 "_law_due" = true) (k8 : PySem.W.keepIn K (.ref f8) = true)
    (a9 : PySem.W.nsIn K mainGlobals "_law_is" = some (some (.ref f9))) (l9 : K.lookup f9 = some ⟨oc9, od9, .func (PySem.W.fnOf "_law_is" "_law_is" (defArgs s_is) (defBody s_is) (defScope s_is) .none kV9 dc9 pm9 an9 cd9 ct9), sl9⟩) (c9 : PySem.W.codeIn K cd9 "_law_is" = true) (k9 : PySem.W.keepIn K (.ref f9) = true)
    (a10 : PySem.W.nsIn K mainGlobals "_law_right" = some (some (.ref f10))) (l10 : K.lookup f10 = some ⟨oc10, od10, .func (PySem.W.fnOf "_law_right" "_law_right" (defArgs s_right) (defBody s_right) (defScope s_right) .none kV10 dc10 pm10 an10 cd10 ct10), sl10⟩) (c10 : PySem.W.codeIn K cd10 "_law_right" = true) (k10 : PySem.W.keepIn K (.ref f10) = true)
    (a11 : PySem.W.nsIn K mainGlobals "law" = some (some (.ref f11))) (l11 : K.lookup f11 = some ⟨oc11, od11, .func (PySem.W.fnOf "law" "law" (defArgs s_law) (defBody s_law) (defScope s_law) .none kV11 dc11 pm11 an11 cd11 ct11), sl11⟩) (c11 : PySem.W.codeIn K cd11 "law" = true) (k11 : PySem.W.keepIn K (.ref f11) = true)
    (z_abs : PySem.W.nsIn K mainGlobals "abs" = some none)
    (z_bool : PySem.W.nsIn K mainGlobals "bool" = some none)
    (z_int : PySem.W.nsIn K mainGlobals "int" = some none)
    (z_isinstance : PySem.W.nsIn K mainGlobals "isinstance" = some none)
    (z_len : PySem.W.nsIn K mainGlobals "len" = some none)
    (z_max : PySem.W.nsIn K mainGlobals "max" = some none)
    (z_min : PySem.W.nsIn K mainGlobals "min" = some none)
    (z_range : PySem.W.nsIn K mainGlobals "range" = some none)
    (z_sum : PySem.W.nsIn K mainGlobals "sum" = some none)
    : ∃ fd : FuncData, (∀ (s : Shared) (v : Value), BindsTo s fd ⟨[v], []⟩ [("_law_script", v)]) ∧ ∀ base : Heap, K.In base → base.Ns mainGlobals mg → FnOk l.prog w K mg base CX0 4 fa fd ["_law_script"] (sp_law K) := by
  have e := hfa.symm.trans (PySem.W.mg_of X G a11)
  cases e
  have F0 := fun_mk (st := s_token_width) l0 c0 k0
  have b0 := F0.binds (ps := ["token"]) fun _ _ _ _ _ _ us hl => match us, hl with | [_], _ => rfl
  have F1 := fun_mk (st := s_row_width) l1 c1 k1
  have b1 := F1.binds (ps := ["row"]) fun _ _ _ _ _ _ us hl => match us, hl with | [_], _ => rfl
  have F2 := fun_mk (st := s_source) l2 c2 k2
  have b2 := F2.binds (ps := ["_law_script", "_law_k"]) fun _ _ _ _ _ _ us hl => match us, hl with | [_, _], _ => rfl
  have F3 := fun_mk (st := s_pick) l3 c3 k3
  have b3 := F3.binds (ps := ["_law_source_here", "_law_many"]) fun _ _ _ _ _ _ us hl => match us, hl with | [_, _], _ => rfl
  have F4 := fun_mk (st := s_is_integer) l4 c4 k4
  have b4 := F4.binds (ps := ["_law_actual"]) fun _ _ _ _ _ _ us hl => match us, hl with | [_], _ => rfl
  have F5 := fun_mk (st := s_signs) l5 c5 k5
  have b5 := F5.binds (ps := []) fun _ _ _ _ _ _ us hl => match us, hl with | [], _ => rfl
  have F6 := fun_mk (st := s_token) l6 c6 k6
  have b6 := F6.binds (ps := ["_law_source_here"]) fun _ _ _ _ _ _ us hl => match us, hl with | [_], _ => rfl
  have F7 := fun_mk (st := s_row_of) l7 c7 k7
  have b7 := F7.binds (ps := ["_law_source_here"]) fun _ _ _ _ _ _ us hl => match us, hl with | [_], _ => rfl
  have F8 := fun_mk (st := s_due) l8 c8 k8
  have b8 := F8.binds (ps := ["_law_token_here"]) fun _ _ _ _ _ _ us hl => match us, hl with | [_], _ => rfl
  have F9 := fun_mk (st := s_is) l9 c9 k9
  have b9 := F9.binds (ps := ["_law_actual", "_law_due_here"]) fun _ _ _ _ _ _ us hl => match us, hl with | [_, _], _ => rfl
  have F10 := fun_mk (st := s_right) l10 c10 k10
  have b10 := F10.binds (ps := ["_law_tokens"]) fun _ _ _ _ _ _ us hl => match us, hl with | [_], _ => rfl
  have F11 := fun_mk (st := s_law) l11 c11 k11
  have b11 := F11.binds (ps := ["_law_script"]) fun _ _ _ _ _ _ us hl => match us, hl with | [_], _ => rfl
  let T : Tab K mg := ⟨_, _, F0, b0, PySem.W.mg_of X G a0, _, _, F1, b1, PySem.W.mg_of X G a1, _, _, F2, b2, PySem.W.mg_of X G a2, _, _, F3, b3, PySem.W.mg_of X G a3, _, _, F4, b4, PySem.W.mg_of X G a4, _, _, F5, b5, PySem.W.mg_of X G a5, _, _, F6, b6, PySem.W.mg_of X G a6, _, _, F7, b7, PySem.W.mg_of X G a7, _, _, F8, b8, PySem.W.mg_of X G a8, _, _, F9, b9, PySem.W.mg_of X G a9, _, _, F10, b10, PySem.W.mg_of X G a10, _, _, F11, b11, PySem.W.mg_of X G a11, PySem.W.mg_none_of X G z_abs, PySem.W.mg_none_of X G z_bool, PySem.W.mg_none_of X G z_int, PySem.W.mg_none_of X G z_isinstance, PySem.W.mg_none_of X G z_len, PySem.W.mg_none_of X G z_max, PySem.W.mg_none_of X G z_min, PySem.W.mg_none_of X G z_range, PySem.W.mg_none_of X G z_sum⟩
  exact ⟨PySem.W.fnOf "law" "law" (defArgs s_law) (defBody s_law) (defScope s_law) .none kV11 dc11 pm11 an11 cd11 ct11, fun s v => .of_eq rfl, fun base _ _ => ok_law T⟩
end K12
open PySem PySem.W PyProof.Rows
set_option maxRecDepth 100000 in
set_option maxHeartbeats 0 in
theorem PySem.Challenge.cw_afterleaves_k12_widths_holds : PySem.Challenge.rw_afterleaves_k12_widths.Holds := by
  w_on; o_law; k_head; (case hw => w_witness2)
  k_fill
  refine L2.walk_of (l := PySem.Challenge.rw_afterleaves_k12_widths) (n := 63) (k := 4) (x := "_law_script") (CX := fun _ => L2.CX0) (sp := fun w => K12.sp_law _) rfl (by decide) rfl ⟨rfl, by decide, by decide⟩ (fun w h Y => PySem.W.kIn_of Y) ?F (fun _ _ a ns hl _ hS => ⟨a, ns, rfl, hS, hl, fun _ => rfl⟩) (fun _ _ _ _ _ h => h)
  case F =>
    intro w mg fa h KX G hmg
    refine' K12.all_mk KX G hmg ?a0 ?l0 ?c0 ?k0 ?a1 ?l1 ?c1 ?k1 ?a2 ?l2 ?c2 ?k2 ?a3 ?l3 ?c3 ?k3 ?a4 ?l4 ?c4 ?k4 ?a5 ?l5 ?c5 ?k5 ?a6 ?l6 ?c6 ?k6 ?a7 ?l7 ?c7 ?k7 ?a8 ?l8 ?c8 ?k8 ?a9 ?l9 ?c9 ?k9 ?a10 ?l10 ?c10 ?k10 ?a11 ?l11 ?c11 ?k11 ?z_abs ?z_bool ?z_int ?z_isinstance ?z_len ?z_max ?z_min ?z_range ?z_sum
    (case a0 => k_is)
    (case l0 => k_is)
    (case c0 => k_is)
    (case k0 => k_is)
    (case a1 => k_is)
    (case l1 => k_is)
    (case c1 => k_is)
    (case k1 => k_is)
    (case a2 => k_is)
    (case l2 => k_is)
    (case c2 => k_is)
    (case k2 => k_is)
    (case a3 => k_is)
    (case l3 => k_is)
    (case c3 => k_is)
    (case k3 => k_is)
    (case a4 => k_is)
    (case l4 => k_is)
    (case c4 => k_is)
    (case k4 => k_is)
    (case a5 => k_is)
    (case l5 => k_is)
    (case c5 => k_is)
    (case k5 => k_is)
    (case a6 => k_is)
    (case l6 => k_is)
    (case c6 => k_is)
    (case k6 => k_is)
    (case a7 => k_is)
    (case l7 => k_is)
    (case c7 => k_is)
    (case k7 => k_is)
    (case a8 => k_is)
    (case l8 => k_is)
    (case c8 => k_is)
    (case k8 => k_is)
    (case a9 => k_is)
    (case l9 => k_is)
    (case c9 => k_is)
    (case k9 => k_is)
    (case a10 => k_is)
    (case l10 => k_is)
    (case c10 => k_is)
    (case k10 => k_is)
    (case a11 => k_is)
    (case l11 => k_is)
    (case c11 => k_is)
    (case k11 => k_is)
    (case z_abs => k_is)
    (case z_bool => k_is)
    (case z_int => k_is)
    (case z_isinstance => k_is)
    (case z_len => k_is)
    (case z_max => k_is)
    (case z_min => k_is)
    (case z_range => k_is)
    (case z_sum => k_is)

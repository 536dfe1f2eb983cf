import PyProof.Rows.All
import Wide.All
import OpenK.AllK
import Wide.FinOn
import HandS.ForMost
import HandS.IsInst
import HandS.TupAny
import HandS.More
import KE.KeyNested
import KE.DataMinMax
import HandS.SortKw
import HandS.Star
import HandS.Zip
import HandS.Conv
import HandS.Deep
import HandS.TryOnly
import HandS.FStr
import HandS.Rev
import HandS.Exc
import HandS.ExcOwn
import HandS.WordsExc
import HandS.RaiseMore
import HandS.CallLocal
import HandS.Flow
import HandS.ExcIs
import PySem.Challenge.RW_quotehall_k11_too_great
set_option Elab.async false
set_option autoImplicit false
set_option maxRecDepth 100000
/-! ## One layer for all laws of the program: terms as data, how the heap bears them, the laws' own helpers -/
namespace Q
open PySem L2
def topS (i : Nat) : Stmt := PySem.Challenge.pw_quotehall_k11_too_great.main.body.getD i (.Pass ⟨0, 0, 0, 0⟩)

/-! ### a def that keeps a promise, as its callers need it -/
structure Cal (P : Program) (w : World) (K : PySem.W.Frag) (mg : Str → Option Value) (base : Heap) (x : Str) (ps : List Str) (k : Nat) (sp : Sp) (f : Addr) (fd : FuncData) : Prop where
  ok : FnOk P w K mg base CX0 k f fd ps sp
  m : mg x = some (.ref f)
  kp : PySem.W.keepIn K (.ref f) = true
  b : Binds K fd ps []

/-- a method that keeps a promise -/
structure CalM (P : Program) (w : World) (K : PySem.W.Frag) (mg : Str → Option Value) (base : Heap) (C : Addr) (x : Str) (ps : List Str) (k : Nat) (sp : Sp) (f : Addr) (fd : FuncData) : Prop where
  ok : FnOk P w K mg base CX0 k f fd ps sp
  m : Meth K C x f
  b : Binds K fd ps []
/-- a class whose objects are made -/
structure CalC (P : Program) (w : World) (K : PySem.W.Frag) (mg : Str → Option Value) (base : Heap) (x : Str) (C : Addr) (ps : List Str) (k : Nat) (sp : Sp) (f : Addr) (fd : FuncData) : Prop where
  mkr : Mk K C f
  ok : FnOk P w K mg base CX0 k f fd ps sp
  m : mg x = some (.ref C)
  b : Binds K fd ps []

/-! ### the built-ins that the text calls -/
structure Txt (mg : Str → Option Value) : Prop where
  ValueError : mg "ValueError" = none
  int : mg "int" = none
  isinstance : mg "isinstance" = none
  len : mg "len" = none
  list : mg "list" = none
  max : mg "max" = none
  min : mg "min" = none
  range : mg "range" = none
  reversed : mg "reversed" = none
  sum : mg "sum" = none
  tuple : mg "tuple" = none
  zip : mg "zip" = none
  g_RECKONED_BY : ∃ t, mg "RECKONED_BY" = some (.int 1000003 t)
  g_MOST_TERMS : ∃ t, mg "MOST_TERMS" = some (.int 2000 t)
  g_DEEPEST : ∃ t, mg "DEEPEST" = some (.int 30 t)

/-! ### heaps -/
theorem same_new {H : Hp} {p : Addr} (h : H p = none) (o : HO) : Same H (upd H p o) := fun b u q => by rw [upd_ne (ne_of_none q h)]; exact q
/-- all that was tracked but the object at st is as it was -/
def But (st : Addr) (H H' : Hp) : Prop := ∀ b o, b ≠ st → H b = some o → H' b = some o
theorem But.refl (st : Addr) (H : Hp) : But st H H := fun _ _ _ h => h
theorem But.trans {st : Addr} {H H1 H2 : Hp} (a : But st H H1) (b : But st H1 H2) : But st H H2 := fun c o n h => b c o n (a c o n h)
theorem But.of_same {st : Addr} {H H' : Hp} (h : Same H H') : But st H H' := fun b o _ q => h b o q
theorem But.put (st : Addr) (H : Hp) (o : HO) : But st H (upd H st o) := fun b u n q => by rw [upd_ne n]; exact q
theorem But.new {st : Addr} {H H' : Hp} {p : Addr} {o : HO} (h : But st H H') (n : H' p = none) : But st H (upd H' p o) := h.trans (.of_same (same_new n o))
theorem But.seqL {K : PySem.W.Frag} {st : Addr} {H H' : Hp} {a : Addr} {xs : List V} (e : But st H H') (n : a ≠ st) (h : SqL K H a xs) : SqL K H' a xs := by
  rcases h with (h | ⟨o, h⟩) | h
  · exact .inl (.inl (e _ _ n h))
  · exact .inl (.inr ⟨o, e _ _ n h⟩)
  · exact .inr h
theorem small {n : Nat} (h : n ≤ 1000) : n ≤ sizeLine := Nat.le_of_lt (small1000 h)
theorem atI_n {α : Type} {xs : List α} {k : Int} {n : Nat} {v : α} (e : k = (n : Int)) (h : xs[n]? = some v) : atI xs k = some v := by
  subst e
  exact atI_nat h

/-! ### what a test, an expression, a statement leaves, said once -/
section
variable {X : Cx}
def tKt (t : TT) : TT := fun σ H Q => ∃ R : Bool → Hp → Prop, t σ H R ∧ ∀ b H', R b H' → Q b H'
theorem pt_k {e : Expr} {t : TT} (h : PT X e t) : PT X e (tKt t) := ⟨fun pins s σ H Q I ⟨R, q, m⟩ => thn (h.run pins s σ H R I q) fun _ _ ⟨H', I', r⟩ => ⟨H', I', m _ _ r⟩⟩
def tKe (t : TE) : TE := fun σ H Q => ∃ R : V → Hp → Prop, t σ H R ∧ ∀ v H', R v H' → Q v H'
theorem pe_k {e : Expr} {t : TE} (h : PE X e t) : PE X e (tKe t) := ⟨fun pins s σ H Q I ⟨R, q, m⟩ => thn (h.run pins s σ H R I q) fun _ _ ⟨v, H', I', rv, r⟩ => ⟨v, H', I', rv, m _ _ r⟩⟩
def tCut (t u : TS) : TS := fun D σ H => ∃ Mid : L2.St → Hp → Prop, t { D with nx := Mid } σ H ∧ ∀ σ' H', Mid σ' H' → u D σ' H'
theorem pss_cut {st : Stmt} {rest : List Stmt} {t u : TS} (h1 : PS X st t) (h2 : PSs X rest u) : PSs X (st :: rest) (tCut t u) := by
  refine ⟨fun pins s σ H D I h => ?_⟩
  obtain ⟨Mid, hm, hu⟩ := h
  refine wpAny_execs_cons (thn (h1.run pins s σ H { D with nx := Mid } I hm) fun f s1 q => ?_)
  cases f with
  | next =>
    obtain ⟨σ', H', I', q⟩ := q
    exact h2.run pins s1 σ' H' D I' (hu σ' H' q)
  | ret v => exact q
  | brk => exact q
  | cont => exact q
end

/-! ### cells, draws -/
/-- the script: a list of ints that nobody writes -/
def Ints (K : PySem.W.Frag) (H : Hp) (a : Addr) : Prop := ∃ ns : List Int, ns.length ≤ 63 ∧ ((∃ o, H a = some (.frz o (.lst (ns.map V.int)))) ∨
  ∃ (o : Obj) (its : Array Value) (n : Nat), K.lookup a = some o ∧ o.cls = .type "list" ∧ o.dict = none ∧ o.data = .seq its n ∧ its.size ≤ sizeLine ∧ Vals (ns.map V.int) its.toList)
theorem Ints.sq {K : PySem.W.Frag} {H : Hp} {a : Addr} (h : Ints K H a) : ∃ ns : List Int, SqL K H a (ns.map V.int) ∧ ns.length ≤ 63 := by
  obtain ⟨ns, h63, ⟨o, h⟩ | h⟩ := h
  · exact ⟨ns, .inl (.inr ⟨o, h⟩), h63⟩
  · exact ⟨ns, .inr h, h63⟩
theorem Ints.same {K : PySem.W.Frag} {H H' : Hp} {a : Addr} (h : Ints K H a) (e : Same H H') : Ints K H' a := by
  obtain ⟨ns, h63, ⟨o, h⟩ | h⟩ := h
  · exact ⟨ns, h63, .inl ⟨o, e _ _ h⟩⟩
  · exact ⟨ns, h63, .inr h⟩
theorem Ints.but {K : PySem.W.Frag} {H H' : Hp} {a st : Addr} {ys : List V} (h : Ints K H a) (hs : H st = some (.lst ys)) (e : But st H H') : Ints K H' a := by
  obtain ⟨ns, h63, ⟨o, h⟩ | h⟩ := h
  · exact ⟨ns, h63, .inl ⟨o, e _ _ (ne_of h hs (by intro z; cases z)) h⟩⟩
  · exact ⟨ns, h63, .inr h⟩
theorem Ints.of {K : PySem.W.Frag} {H : Hp} {a : Addr} {ns : List Int} (hO : Only H) (h : SqL K H a (ns.map V.int)) (h63 : ns.length ≤ 63) : Ints K H a := by
  rcases h with (h | ⟨o, h⟩) | h
  · rcases hO a with z | ⟨o, xs, z⟩
    · rw [z] at h
      cases h
    · rw [z] at h
      cases h
  · exact ⟨ns, h63, .inl ⟨o, h⟩⟩
  · exact ⟨ns, h63, .inr h⟩
def spCellAt (K : PySem.W.Frag) : Sp := fun vs H Q _ => ∃ (a : Addr) (k : Int), vs = [.ref a, .int k] ∧ Ints K H a ∧ 0 ≤ k ∧ ∀ c : Int, Q (.int c) H
def spMixed (K : PySem.W.Frag) : Sp := fun vs H Q _ => ∃ (a : Addr) (k : Int), vs = [.ref a, .int k] ∧ Ints K H a ∧ 0 ≤ k ∧ ∀ c : Int, 0 ≤ c → c < 2147483629 → Q (.int c) H
abbrev s_cell_at : Stmt := topS 77
theorem sc_cell_at : FnScope ["_law_script", "_law_k"] ["_law_script", "_law_k"] (defScope s_cell_at) := ⟨rfl, rfl, rfl, by decide +kernel, rfl, by decide +kernel, by decide +kernel⟩
abbrev s_mixed : Stmt := topS 78
theorem sc_mixed : FnScope ["_law_script", "_law_k", "_law_number_here"] ["_law_script", "_law_k"] (defScope s_mixed) := ⟨rfl, rfl, rfl, by decide +kernel, rfl, by decide +kernel, by decide +kernel⟩
section
variable {P : Program} {w : World} {K : PySem.W.Frag} {mg : Str → Option Value} {base : Heap} {f f1 f2 f3 f4 f5 f6 f7 f8 : Addr} {fd fd1 fd2 fd3 fd4 fd5 fd6 fd7 fd8 : FuncData}
theorem ok_cell_at (F : Fun K "_law_cell_at" "_law_cell_at" s_cell_at f fd) (T : Txt mg) : FnOk P w K mg base CX0 1 f fd ["_law_script", "_law_k"] (spCellAt K) := by
  refine F.ok sc_cell_at (fun vs H Q E h => ?_) (fun cdv A outer s H vs Q E hr h => ?_)
  · obtain ⟨a, k, rfl, _⟩ := h
    rfl
  obtain ⟨a, k, rfl, hI, h0, q⟩ := h
  obtain ⟨ns, hS, h63⟩ := hI.sq
  refine ⟨_, (pss_cons (ps_if (pt_cmpR op_lt (pv 1) (pe_callB call_len_seq (by rfl) T.len PySem.boot_len (pa_cons (pv 0) pa_nil)) (nomark _)) (pss_one (ps_ret (pe_ix ix_list (pv 0) (pv 1) (fun _ _ => rfl)))) pss_nil)
      (pss_one (ps_ret pe_int))), ?_⟩
  refine ⟨_, rfl, _, rfl, a, _, rfl, .inl hS, _, _, rfl, rfl, _, rfl, ?_⟩
  refine ite2 (fun c => ?_) (fun c => ?_)
  · have c' : k < (((ns.map V.int).length : Nat) : Int) := of_decide_eq_true c
    rw [List.length_map] at c'
    have hk : k.toNat < ns.length := by omega
    exact ⟨_, rfl, _, rfl, a, _, _, .int (ns[k.toNat]), rfl, rfl, hS, atI_n (n := k.toNat) (by omega) (by rw [List.getElem?_map, List.getElem?_eq_getElem hk]; rfl), q _⟩
  · exact q 0
theorem mixed_lt (x : Int) : 0 ≤ x % 2147483629 ∧ x % 2147483629 < 2147483629 := ⟨Int.emod_nonneg _ (by decide), Int.emod_lt_of_pos _ (by decide)⟩
theorem mixed_lt2 (x : Int) : 0 ≤ x % 2147483647 ∧ x % 2147483647 < 2147483647 := ⟨Int.emod_nonneg _ (by decide), Int.emod_lt_of_pos _ (by decide)⟩
theorem ok_mixed (F : Fun K "_law_mixed" "_law_mixed" s_mixed f fd) (T : Txt mg) (C_law_cell_at : Cal P w K mg base "_law_cell_at" ["_law_script", "_law_k"] 1 (spCellAt K) f1 fd1) : FnOk P w K mg base CX0 2 f fd ["_law_script", "_law_k"] (spMixed K) := by
  refine F.ok sc_mixed (fun vs H Q E h => ?_) (fun cdv A outer s H vs Q E hr h => ?_)
  · obtain ⟨a, k, rfl, _⟩ := h
    rfl
  obtain ⟨a, k, rfl, hS, h0, q⟩ := h
  refine ⟨_, (pss_cons (ps_set (i := 2) sc_mixed.nd rfl (Or.inl rfl) (pe_op op_mod (pe_op op_mul (pe_op op_add (pe_call C_law_cell_at.ok (hr.mono (by first | decide | omega)) rfl C_law_cell_at.m C_law_cell_at.kp C_law_cell_at.b .nil pass0 (pa_cons (pv 0) (pa_cons (pv 1) pa_nil))) (pe_op op_mul pe_int (pv 1))) pe_int) pe_int))
      (pss_one (ps_ret (pe_op op_mod (pe_op op_add (pe_op op_add (pe_op op_mul (pv 2) (pv 2)) (pe_op op_mul pe_int (pv 2))) (pv 1)) pe_int)))), ?_⟩
  refine ⟨_, rfl, _, rfl, a, k, rfl, hS, h0, fun c => ?_⟩
  refine ⟨_, rfl, _, _, rfl, rfl, .inl ⟨by decide, by decide⟩, _, _, rfl, rfl, _, _, rfl, rfl, .inr ⟨by decide, by decide⟩, _, _, rfl, rfl, (by show (0 : Int) < _; decide), ?_⟩
  have b := mixed_lt2 ((c + 7919 * k) * 48271)
  generalize (c + 7919 * k) * 48271 % 2147483647 = n at b ⊢
  refine ⟨_, rfl, _, rfl, _, _, rfl, rfl, .inl ⟨by omega, by omega⟩, _, rfl, _, _, rfl, rfl, .inl ⟨by decide, by decide⟩, _, _, rfl, rfl, _, rfl, _, _, rfl, rfl, _, _, rfl, rfl, (by show (0 : Int) < _; decide), ?_⟩
  exact q _ (mixed_lt _).1 (mixed_lt _).2
end

def Drawn : List Int → List Int → Prop
  | [], [] => True
  | x :: xs, s :: ss => (0 ≤ x ∧ x < s) ∧ Drawn xs ss
  | _, _ => False
theorem Drawn.snoc : ∀ {xs ss : List Int} {x s : Int}, Drawn xs ss → 0 ≤ x → x < s → Drawn (xs ++ [x]) (ss ++ [s])
  | [], [], _, _, _, h0, h1 => ⟨⟨h0, h1⟩, True.intro⟩
  | _ :: _, _ :: _, _, _, ⟨h, t⟩, h0, h1 => ⟨h, Drawn.snoc t h0 h1⟩
  | [], _ :: _, _, _, h, _, _ => h.elim
  | _ :: _, [], _, _, h, _, _ => h.elim
theorem Drawn.len : ∀ {xs ss : List Int}, Drawn xs ss → xs.length = ss.length
  | [], [], _ => rfl
  | _ :: _, _ :: _, ⟨_, t⟩ => congrArg (· + 1) (Drawn.len t)
  | [], _ :: _, h => h.elim
  | _ :: _, [], h => h.elim
/-- an int of a list of ints by its place -/
theorem at_int {ys : List Int} {j : Int} (h0 : 0 ≤ j) (h1 : j < (ys.length : Int)) : ∃ c, c ∈ ys ∧ atI (ys.map V.int) j = some (.int c) := by
  have hk : j.toNat < ys.length := by omega
  exact ⟨ys[j.toNat], List.getElem_mem hk, atI_n (k := j) (n := j.toNat) (by omega) (by rw [List.getElem?_map, List.getElem?_eq_getElem hk]; rfl)⟩
theorem at_str {ys : List Str} {j : Int} (h0 : 0 ≤ j) (h1 : j < (ys.length : Int)) : ∃ c, c ∈ ys ∧ atI (ys.map V.str) j = some (.str c) := by
  have hk : j.toNat < ys.length := by omega
  exact ⟨ys[j.toNat], List.getElem_mem hk, atI_n (k := j) (n := j.toNat) (by omega) (by rw [List.getElem?_map, List.getElem?_eq_getElem hk]; rfl)⟩
theorem at_any {ys : List V} {j : Int} (h0 : 0 ≤ j) (h1 : j < (ys.length : Int)) : ∃ c, c ∈ ys ∧ atI ys j = some c := by
  have hk : j.toNat < ys.length := by omega
  exact ⟨ys[j.toNat], List.getElem_mem hk, atI_n (k := j) (n := j.toNat) (by omega) (List.getElem?_eq_getElem hk)⟩
theorem at_cod {ys : List Nat} {j : Int} (h0 : 0 ≤ j) (h1 : j < (ys.length : Int)) : ∃ c, c ∈ ys ∧ atI ys j = some c := by
  have hk : j.toNat < ys.length := by omega
  exact ⟨ys[j.toNat], List.getElem_mem hk, atI_n (k := j) (n := j.toNat) (by omega) (List.getElem?_eq_getElem hk)⟩
theorem ixN_lt {n : Nat} {j : Int} (h0 : 0 ≤ j) (h1 : j < (n : Int)) : ixN n j = some j.toNat := by
  unfold ixN
  rw [if_pos h0, if_pos h1]
theorem mod_in (x : Int) {n : Int} (h : 0 < n) : 0 ≤ x % n ∧ x % n < n := ⟨Int.emod_nonneg _ (by omega), Int.emod_lt_of_pos _ h⟩
def spDrawn (K : PySem.W.Frag) : Sp := fun vs H Q _ => ∃ (n : Int) (a : Addr) (ss : List Int), vs = [.int n, .ref a] ∧ SqL K H a (ss.map V.int) ∧ ss.length ≤ 63 ∧ (∀ s ∈ ss, 0 < s ∧ s < 1073741824) ∧
  ∀ (xs : List Int) (r : Addr) (H' : Hp), Drawn xs ss → H r = none → Same H H' → H' r = some (.lst (xs.map V.int)) → Q (.ref r) H'
abbrev s_drawn : Stmt := topS 79
theorem sc_drawn : FnScope ["_law_number_here", "_law_sizes", "_law_some", "_law_size"] ["_law_number_here", "_law_sizes"] (defScope s_drawn) := ⟨rfl, rfl, rfl, by decide +kernel, rfl, by decide +kernel, by decide +kernel⟩
/-- the state's first number is the place of the next draw -/
def spNext (K : PySem.W.Frag) : Sp := fun vs H Q _ => ∃ (a st : Addr) (c : Int) (r : List V), vs = [.ref a, .ref st] ∧ Ints K H a ∧ H st = some (.lst (.int c :: r)) ∧ 0 ≤ c ∧
  ∀ n : Int, 0 ≤ n → n < 2147483629 → Q (.int n) (upd H st (.lst (.int (c + 1) :: r)))
abbrev s_next : Stmt := topS 81
theorem sc_next : FnScope ["_law_script", "_law_state"] ["_law_script", "_law_state"] (defScope s_next) := ⟨rfl, rfl, rfl, by decide +kernel, rfl, by decide +kernel, by decide +kernel⟩
def spNumber : Sp := fun vs H Q _ => ∃ n : Int, vs = [.int n] ∧ 0 ≤ n ∧ n < 2147483629 ∧ ∀ (c : Int) (H' : Hp), Same H H' → c.natAbs ≤ 10 ^ 20 → Q (.int c) H'
abbrev s_number : Stmt := topS 82
theorem sc_number : FnScope ["_law_number_here", "_law_some"] ["_law_number_here"] (defScope s_number) := ⟨rfl, rfl, rfl, by decide +kernel, rfl, by decide +kernel, by decide +kernel⟩
section
variable {P : Program} {w : World} {K : PySem.W.Frag} {mg : Str → Option Value} {base : Heap} {f f1 f2 f3 f4 f5 f6 f7 f8 : Addr} {fd fd1 fd2 fd3 fd4 fd5 fd6 fd7 fd8 : FuncData}
theorem ok_drawn (F : Fun K "_law_drawn" "_law_drawn" s_drawn f fd) (T : Txt mg) : FnOk P w K mg base CX0 1 f fd ["_law_number_here", "_law_sizes"] (spDrawn K) := by
  refine F.ok sc_drawn (fun vs H Q E h => ?_) (fun cdv A outer s H vs Q E hr h => ?_)
  · obtain ⟨n, a, ss, rfl, _⟩ := h
    rfl
  obtain ⟨n, a, ss, rfl, hS, h63, hp, q⟩ := h
  refine ⟨_, (pss_cons (ps_set (i := 2) sc_drawn.nd rfl (Or.inl rfl) (pe_lst pa_nil))
      (pss_cons (ps_for PassesOwn.never rfl (pi_list (pv 1)) (pg_name (i := 3) sc_drawn.nd rfl (Or.inl rfl)) (pss_cons (ps_expr (pe_bm PySem.F.plainAttrs_list PySem.F.slot_list_append PySem.F.type_list_append mt_append (pv 2) (pa_cons (pe_op op_mod (pv 0) (pv 3)) pa_nil)))
      (pss_one (ps_set (i := 0) sc_drawn.nd rfl (Or.inl rfl) (pe_op op_fdiv (pv 0) (pv 3))))))
      (pss_one (ps_ret (pv 2))))), ?_⟩
  refine ⟨Nat.zero_le _, fun r hr => ?_⟩
  refine ⟨_, rfl, a, rfl, ⟨_, (same_new hr _).seq hS⟩, for_list (K := K) (a := a) (xs := ss.map V.int) (fun i σ H' => ∃ (m : Int) (xs : List Int) (v : Option V), σ = [some (.int m), some (.ref a), some (.ref r), v] ∧ Same H H' ∧ H' r = some (.lst (xs.map V.int)) ∧ Drawn xs (ss.take i))
    ⟨n, [], none, rfl, same_new hr _, upd_same, by rw [List.take_zero]; exact True.intro⟩ (fun i σ H' _ ⟨_, _, _, _, g, _⟩ => g.seq hS) ?_ ?_⟩
  · rintro i y σ H' hi ⟨m, xs, v, rfl, g, hx, hd⟩
    have hil : i < ss.length := by
      have z := (List.getElem?_eq_some_iff.mp hi).1
      rw [List.length_map] at z
      exact z
    rw [List.getElem?_map, List.getElem?_eq_getElem hil] at hi
    cases hi
    have hs := hp ss[i] (List.getElem_mem hil)
    have hlen : xs.length ≤ 63 := by
      have z := hd.len
      rw [List.length_take] at z
      omega
    refine ⟨_, rfl, .inl ⟨rfl, _, SqL.of hx⟩, _, rfl, _, rfl, _, _, rfl, rfl, hs.1, r, _, _, rfl, rfl, hx, small1000 (by rw [List.length_map]; omega), ?_⟩
    refine ⟨_, rfl, _, rfl, _, _, rfl, rfl, ⟨hs.1, hs.2⟩, ?_⟩
    have h0 := mod_in m hs.1
    refine ⟨m / ss[i], xs ++ [m % ss[i]], _, rfl, fun b o e => ?_, ?_, ?_⟩
    · have nb : b ≠ r := ne_of_none e hr
      rw [upd_ne nb]
      exact g b o e
    · rw [upd_same, List.map_append]
      rfl
    · rw [List.take_succ_eq_append_getElem hil]
      exact hd.snoc h0.1 h0.2
  · rintro σ H' ⟨m, xs, v, rfl, g, hx, hd⟩
    refine ⟨_, rfl, q xs r H' ?_ hr g hx⟩
    rw [List.length_map, List.take_length] at hd
    exact hd
theorem ok_next (F : Fun K "_law_next" "_law_next" s_next f fd) (C_law_mixed : Cal P w K mg base "_law_mixed" ["_law_script", "_law_k"] 2 (spMixed K) f1 fd1) : FnOk P w K mg base CX0 3 f fd ["_law_script", "_law_state"] (spNext K) := by
  refine F.ok sc_next (fun vs H Q E h => ?_) (fun cdv A outer s H vs Q E hr h => ?_)
  · obtain ⟨a, st, c, r, rfl, _⟩ := h
    rfl
  obtain ⟨a, st, c, r, rfl, hI, hst, h0, q⟩ := h
  refine ⟨_, (pss_cons (ps_asg (pe_op op_add (pe_ix ix_list (pv 1) pe_int (fun _ _ => rfl)) pe_int) (pg_sub (pv 1) pe_int set_list))
      (pss_one (ps_ret (pe_call C_law_mixed.ok (hr.mono (by first | decide | omega)) rfl C_law_mixed.m C_law_mixed.kp C_law_mixed.b .nil pass0 (pa_cons (pv 0) (pa_cons (pe_ix ix_list (pv 1) pe_int (fun _ _ => rfl)) pa_nil)))))), ?_⟩
  refine ⟨_, rfl, st, _, _, _, rfl, rfl, SqL.of hst, atI_n (n := 0) rfl rfl, _, _, rfl, rfl, _, rfl, st, _, _, 0, rfl, rfl, hst, ixN_lt (Int.le_refl 0) (by show (0 : Int) < ((r.length + 1 : Nat) : Int); omega), ?_⟩
  refine ⟨_, rfl, _, rfl, st, _, _, _, rfl, rfl, SqL.of upd_same, atI_n (n := 0) rfl rfl, a, c + 1, rfl, hI.but hst (.put _ _ _), by omega, q⟩
theorem ok_number (F : Fun K "_law_number" "_law_number" s_number f fd) : FnOk P w K mg base CX0 1 f fd ["_law_number_here"] spNumber := by
  refine F.ok sc_number (fun vs H Q E h => ?_) (fun cdv A outer s H vs Q E hr h => ?_)
  · obtain ⟨n, rfl, _⟩ := h
    rfl
  obtain ⟨n, rfl, h0, h1, q⟩ := h
  refine ⟨_, (pss_cons (ps_set (i := 1) sc_number.nd rfl (Or.inl rfl) (pe_lst (pa_cons (pe_op op_mod (pv 0) pe_int) (pa_cons (pe_op op_mod (pv 0) pe_int) (pa_cons (pe_op op_sub (pe_un un_neg pe_int) (pe_op op_mod (pv 0) pe_int)) (pa_cons (pe_op op_add (pe_op op_mul pe_int (pe_op op_mod (pv 0) pe_int)) (pe_op op_mod (pv 0) pe_int)) (pa_cons (pe_op op_pow pe_int pe_int) pa_nil)))))))
      (pss_one (ps_ret (pe_ix ix_list (pe_op op_cat (pv 1) (pe_lst (pa_cons (pe_un un_neg (pv 0)) pa_nil))) (pe_op op_mod (pe_op op_fdiv (pv 0) pe_int) pe_int) (fun _ _ => rfl))))), ?_⟩
  refine ⟨_, rfl, _, _, rfl, rfl, (by show (0 : Int) < _; decide), _, rfl, _, _, rfl, rfl, (by show (0 : Int) < _; decide), _, rfl, _, rfl, _, _, rfl, rfl, (by show (0 : Int) < _; decide), _, _, rfl, rfl, ?_⟩
  refine ⟨_, rfl, _, _, rfl, rfl, (by show (0 : Int) < _; decide), _, _, rfl, rfl, .inl ⟨by decide, by decide⟩, _, rfl, _, _, rfl, rfl, (by show (0 : Int) < _; decide), _, _, rfl, rfl, _, _, rfl, rfl, ⟨by decide, by decide, by decide⟩, ?_⟩
  refine ⟨by show 5 ≤ sizeLine; decide, fun p1 hp1 => ?_⟩
  refine ⟨_, rfl, _, rfl, _, rfl, by show 1 ≤ sizeLine; decide, fun p2 hp2 => ?_⟩
  have g1 := same_new hp1 (.lst [V.int (n % 3), .int (n % 1000), .int (-1 - n % 9), .int (1000003 * (n % 2) + n % 5), .int (10 ^ 20)])
  refine ⟨p1, p2, _, _, rfl, rfl, same_new hp2 _ _ _ upd_same, upd_same, by show 6 ≤ sizeLine; decide, fun p3 hp3 => ?_⟩
  refine ⟨_, rfl, _, _, rfl, rfl, ⟨by decide, by decide⟩, _, _, rfl, rfl, (by show (0 : Int) < _; decide), ?_⟩
  have hj := mod_in (n / 1000) (n := 6) (by decide)
  have e3 := mod_in n (n := 3) (by decide)
  have e1 := mod_in n (n := 1000) (by decide)
  have e9 := mod_in n (n := 9) (by decide)
  have e2 := mod_in n (n := 2) (by decide)
  have e5 := mod_in n (n := 5) (by decide)
  obtain ⟨c, hc, ha⟩ := at_int (ys := [n % 3, n % 1000, -1 - n % 9, 1000003 * (n % 2) + n % 5, 10 ^ 20, -n]) hj.1 hj.2
  refine ⟨p3, _, _, _, rfl, rfl, SqL.of upd_same, ha, q c _ (g1.trans ((same_new hp2 _).trans (same_new hp3 _))) ?_⟩
  simp only [List.mem_cons, List.not_mem_nil, or_false] at hc
  rcases hc with rfl | rfl | rfl | rfl | rfl | rfl <;> omega
end

def spName (K : PySem.W.Frag) : Sp := fun vs H Q _ => ∃ (a : Addr) (k : Int), vs = [.ref a, .int k] ∧ Ints K H a ∧ ∀ (x : Str) (H' : Hp), Same H H' → PyData.strOk x = true → Q (.str x) H'
abbrev s_name : Stmt := topS 80
theorem sc_name : FnScope ["_law_script", "_law_which", "_law_letters", "_law_number_here", "_law_some", "_law_size", "_law_at", "_law_k"] ["_law_script", "_law_which"] (defScope s_name) := ⟨rfl, rfl, rfl, by decide +kernel, rfl, by decide +kernel, by decide +kernel⟩
section
variable {P : Program} {w : World} {K : PySem.W.Frag} {mg : Str → Option Value} {base : Heap} {f f1 f2 f3 f4 f5 f6 f7 f8 : Addr} {fd fd1 fd2 fd3 fd4 fd5 fd6 fd7 fd8 : FuncData}
theorem abc_len : (("abcdefghijklmnopqrstuvwxyz" : Str).cps.toList.length : Int) = 26 := by decide +kernel
theorem abc_line : ("abcdefghijklmnopqrstuvwxyz" : Str).length ≤ sizeLine := by decide +kernel
theorem abc_ok : ∀ c ∈ ("abcdefghijklmnopqrstuvwxyz" : Str).cps.toList, PyData.strOk ⟨#[c]⟩ = true := by decide +kernel
theorem abc_at (x : Int) : ∃ c, PyData.strOk ⟨#[c]⟩ = true ∧ atI ("abcdefghijklmnopqrstuvwxyz" : Str).cps.toList (x % 26) = some c := by
  have h := mod_in x (n := 26) (by decide)
  obtain ⟨c, hc, e⟩ := at_cod (ys := ("abcdefghijklmnopqrstuvwxyz" : Str).cps.toList) h.1 (by rw [abc_len]; exact h.2)
  exact ⟨c, abc_ok c hc, e⟩
theorem ok_app {x y : Str} (hx : PyData.strOk x = true) (hy : PyData.strOk y = true) : PyData.strOk (x ++ y) = true := by
  unfold PyData.strOk at hx hy ⊢
  show (x.cps ++ y.cps).all _ = true
  rw [Array.all_append, hx, hy]
  rfl
theorem ok_join {y : Str} (hy : PyData.strOk y = true) : ∀ xs : List Str, (∀ x ∈ xs, PyData.strOk x = true) → PyData.strOk (Txt.join y xs) = true := by
  have main : ∀ xs : List Str, (∀ x ∈ xs, PyData.strOk x = true) → PyData.strOk (Str.join y xs) = true := by
    intro xs
    induction xs with
    | nil => intro _; exact (show PyData.strOk Str.empty = true by decide +kernel)
    | cons a r ih =>
      intro h
      cases r with
      | nil => exact h a List.mem_cons_self
      | cons b r => exact ok_app (ok_app (h a List.mem_cons_self) hy) (ih fun x hx => h x (List.mem_cons_of_mem _ hx))
  intro xs h
  rw [TL.join_eq]
  exact main xs h
theorem words_ok : ∀ y ∈ (["num", "name", "let", "quote", "hole", "run", "use", "lift"] : List Str), PyData.strOk y = true := by decide +kernel
theorem sum_ones : ∀ ys : List Str, (∀ y ∈ ys, y.length = 1) → (ys.map (·.length)).sum = ys.length
  | [], _ => rfl
  | y :: r, h => by
    rw [List.map_cons, List.sum_cons, sum_ones r fun z hz => h z (List.mem_cons_of_mem _ hz), h y List.mem_cons_self, List.length_cons]
    omega
theorem ok_name (F : Fun K "_law_name" "_law_name" s_name f fd) (T : Txt mg) (C_law_mixed : Cal P w K mg base "_law_mixed" ["_law_script", "_law_k"] 2 (spMixed K) f1 fd1) : FnOk P w K mg base CX0 3 f fd ["_law_script", "_law_which"] (spName K) := by
  refine F.ok sc_name (fun vs H Q E h => ?_) (fun cdv A outer s H vs Q E hr h => ?_)
  · obtain ⟨a, k, rfl, _⟩ := h
    rfl
  obtain ⟨a, k, rfl, hI, q⟩ := h
  refine ⟨_, (pss_cons (ps_set (i := 2) sc_name.nd rfl (Or.inr rfl) pe_str)
      (pss_cons (ps_set (i := 3) sc_name.nd rfl (Or.inr rfl) (pe_call C_law_mixed.ok (hr.mono (by first | decide | omega)) rfl C_law_mixed.m C_law_mixed.kp C_law_mixed.b .nil pass0 (pa_cons (pv 0) (pa_cons pe_int pa_nil))))
      (pss_cons (ps_if (pt_k (PW.pt (pw_and (pt_cmpR op_eq (pe_op op_mod (pv 3) pe_int) pe_int (nomark _)) (pw_and1 (pt_cmpR op_eq (pe_op op_mod (pe_op op_fdiv (pv 3) pe_int) pe_int) pe_int (nomark _)))))) (pss_cons (ps_set (i := 4) sc_name.nd rfl (Or.inl rfl) (pe_lst (pa_cons pe_str (pa_cons pe_str (pa_cons pe_str (pa_cons pe_str (pa_cons pe_str (pa_cons pe_str (pa_cons pe_str (pa_cons pe_str pa_nil))))))))))
      (pss_one (ps_ret (pe_ix ix_list (pv 4) (pe_op op_mod (pe_op op_add (pe_op op_fdiv (pv 3) pe_int) (pv 1)) pe_int) (fun _ _ => rfl))))) pss_nil)
      (pss_cons (ps_set (i := 5) sc_name.nd rfl (Or.inl rfl) (pe_op op_add pe_int (pe_op op_mod (pv 3) pe_int)))
      (pss_cons (ps_setLc (i := 4) (own := [("_law_k", 7)]) (g := (gName 7)) (tt := tYes) (by rfl) sc_name.nd rfl rfl (sw_true rfl rfl rfl (by decide +kernel)) (pi_range1 (by rfl) T.range (pa_cons (pv 5) pa_nil)) (blkOk_by (own := [("_law_k", 7)]) (N := ["_law_script", "_law_which", "_law_letters", "_law_number_here", "_law_some", "_law_size", "_law_at", "_law_k"]) (sc := defScope s_name) (by decide +kernel)) (fun _ _ _ _ _ => (pg_name (i := 7) sc_name.nd rfl (Or.inl rfl))) (fun _ _ _ _ _ => pts_nil) (fun _ _ _ _ _ => (pe_ix ix_str (pv 2) (pe_op op_mod (pe_op op_add (pe_op op_fdiv (pv 3) pe_int) (pe_op op_mul pe_int (pv 7))) pe_int) (fun _ _ => rfl))))
      (pss_cons (ps_set (i := 6) sc_name.nd rfl (Or.inl rfl) (pe_op op_mod (pe_op op_fdiv (pv 3) pe_int) (pv 5)))
      (pss_cons (ps_asg (pe_ix ix_str (pv 2) (pe_op op_mod (pe_op op_add (pe_op op_add (pe_op op_fdiv (pv 3) pe_int) (pe_op op_mul pe_int (pv 6))) (pv 1)) pe_int) (fun _ _ => rfl)) (pg_sub (pv 4) (pv 6) set_list))
      (pss_one (ps_ret (pe_join pe_str (pv 4))))))))))), ?_⟩
  refine ⟨_, rfl, a, 0, rfl, hI, Int.le_refl 0, fun n h0 h1 => ?_⟩
  refine ⟨fun _ H' => H = H', ?_, ?_⟩
  · refine ⟨_, rfl, _, _, rfl, rfl, (by show (0 : Int) < _; decide), rfl, _, rfl, ?_⟩
    exact ite2 (fun _ => ⟨_, rfl, _, _, rfl, rfl, ⟨by decide, by decide⟩, _, _, rfl, rfl, (by show (0 : Int) < _; decide), rfl, _, rfl, rfl⟩) fun _ => rfl
  rintro b _ rfl
  cases b with
  | true =>
    refine iteT ⟨by show 8 ≤ sizeLine; decide, fun p hp => ?_⟩
    obtain ⟨c, hc, e⟩ := at_str (ys := ["num", "name", "let", "quote", "hole", "run", "use", "lift"]) (mod_in (n / 16 + k) (n := 8) (by decide)).1 (mod_in (n / 16 + k) (n := 8) (by decide)).2
    exact ⟨_, rfl, _, rfl, _, _, rfl, rfl, ⟨by decide, by decide⟩, _, rfl, _, _, rfl, rfl, _, _, rfl, rfl, (by show (0 : Int) < _; decide), p, _, _, _, rfl, rfl, SqL.of upd_same, e, q _ _ (same_new hp _) (words_ok c hc)⟩
  | false =>
    refine iteF ?_
    refine ⟨_, rfl, _, _, rfl, rfl, (by show (0 : Int) < _; decide), _, _, rfl, rfl, ?_⟩
    have h8 := mod_in n (n := 8) (by decide)
    refine ⟨_, rfl, 1 + n % 8, rfl, by omega, by omega, fun D hD => ?_⟩
    refine lc_range (lo := 0) (n := (1 + n % 8).toNat) (fun i H' => Same H H' ∧ ∃ ys : List Str, H' D = some (.lst (ys.map V.str)) ∧ ys.length = i ∧ ∀ y ∈ ys, y.length = 1 ∧ PyData.strOk y = true) ⟨same_new hD _, [], upd_same, rfl, fun _ h => by cases h⟩ ?_ ?_
    · rintro i H' hi ⟨g, ys, hy, hl, h1⟩
      obtain ⟨c, ho, e⟩ := abc_at (n / 64 + 5 * (0 + (i : Int)))
      refine ⟨rfl, ?_⟩
      refine ⟨_, rfl, _, rfl, _, _, rfl, rfl, ⟨by decide, by decide⟩, _, rfl, _, _, rfl, rfl, .inl ⟨by decide, by decide⟩, _, _, rfl, rfl, _, _, rfl, rfl, (by show (0 : Int) < _; decide), _, _, _, rfl, rfl, abc_line, e, ?_⟩
      refine ⟨_, hy, small1000 (by rw [List.length_map]; omega), fun b o q => ?_, ys ++ [⟨#[c]⟩], ?_, by rw [List.length_append, hl]; rfl, fun y hy => ?_⟩
      · rw [upd_ne (ne_of_none q hD)]
        exact g b o q
      · rw [upd_same, List.map_append]
        rfl
      · rcases List.mem_append.mp hy with z | z
        · exact h1 y z
        · rw [List.mem_singleton.mp z]
          exact ⟨rfl, ho⟩
    · rintro H' ⟨g, ys, hy, hl, h1⟩
      refine ⟨_, rfl, _, _, rfl, rfl, ⟨by decide, by decide⟩, _, rfl, _, _, rfl, rfl, (by show (0 : Int) < _; omega), ?_⟩
      have hm := mod_in (n / 8) (n := 1 + n % 8) (by omega)
      obtain ⟨c, ho, e⟩ := abc_at (n / 64 + 5 * (n / 8 % (1 + n % 8)) + k)
      refine ⟨_, rfl, _, rfl, _, _, rfl, rfl, ⟨by decide, by decide⟩, _, rfl, _, _, rfl, rfl, .inl ⟨by decide, by decide⟩, _, _, rfl, rfl, _, rfl, _, _, rfl, rfl, _, _, rfl, rfl, (by show (0 : Int) < _; decide), _, _, _, rfl, rfl, abc_line, e, ?_⟩
      refine ⟨_, rfl, _, rfl, D, _, _, (n / 8 % (1 + n % 8)).toNat, rfl, rfl, hy, ixN_lt hm.1 (by rw [List.length_map]; omega), ?_⟩
      have h2 : ∀ y ∈ ys.set (n / 8 % (1 + n % 8)).toNat ⟨#[c]⟩, y.length = 1 ∧ PyData.strOk y = true := fun y hy => by
        rcases List.mem_or_eq_of_mem_set hy with z | z
        · exact h1 y z
        · rw [z]
          exact ⟨rfl, ho⟩
      refine ⟨⟨_, rfl⟩, _, rfl, _, D, ys.set (n / 8 % (1 + n % 8)).toNat ⟨#[c]⟩, rfl, rfl, .inl (SqL.of (by rw [upd_same, List.map_set])), ?_, q _ _ (fun b o z => by rw [upd_ne (ne_of_none z hD)]; exact g b o z) (ok_join (by decide +kernel) _ fun y hy => (h2 y hy).2)⟩
      rw [sum_ones _ fun y hy => (h2 y hy).1, List.length_set, show ("" : Str).length = 0 by decide +kernel]
      omega
end

/-! ### terms as data -/
inductive Bin where
  | sum | product | less
  deriving DecidableEq
inductive Un where
  | quote | hole | lift | run
  deriving DecidableEq
def Bin.word : Bin → Str
  | .sum => "sum"
  | .product => "product"
  | .less => "less"
def Un.word : Un → Str
  | .quote => "quote"
  | .hole => "hole"
  | .lift => "lift"
  | .run => "run"
/-- number (false), piece (true) -/
def kindS : Bool → Str
  | false => "number"
  | true => "piece"
inductive Tm where
  | num (n : Int)
  | name (x : Str)
  | bin (o : Bin) (a b : Tm)
  | cond (c a b : Tm)
  | letx (x : Str) (a b : Tm)
  | turns (n : Int) (x : Str) (a b : Tm)
  | deff (f x : Str) (k : Bool) (a b : Tm)
  | use (f : Str) (a : Tm)
  | un (o : Un) (a : Tm)
def Tm.head : Tm → List V
  | .num n => [.str "num", .int n]
  | .name x => [.str "name", .str x]
  | .bin o _ _ => [.str o.word]
  | .cond _ _ _ => [.str "when"]
  | .letx x _ _ => [.str "let", .str x]
  | .turns n x _ _ => [.str "turns", .int n, .str x]
  | .deff f x k _ _ => [.str "def", .str f, .str x, .str (kindS k)]
  | .use f _ => [.str "use", .str f]
  | .un o _ => [.str o.word]
def Tm.parts : Tm → List Tm
  | .num _ => []
  | .name _ => []
  | .bin _ a b => [a, b]
  | .cond c a b => [c, a, b]
  | .letx _ a b => [a, b]
  | .turns _ _ a b => [a, b]
  | .deff _ _ _ a b => [a, b]
  | .use _ a => [a]
  | .un _ a => [a]
def Tm.size : Tm → Nat
  | .num _ => 1
  | .name _ => 1
  | .bin _ a b => 1 + (a.size + b.size)
  | .cond c a b => 1 + (c.size + (a.size + b.size))
  | .letx _ a b => 1 + (a.size + b.size)
  | .turns _ _ a b => 1 + (a.size + b.size)
  | .deff _ _ _ a b => 1 + (a.size + b.size)
  | .use _ a => 1 + a.size
  | .un _ a => 1 + a.size
def Tm.deep : Tm → Nat
  | .num _ => 1
  | .name _ => 1
  | .bin _ a b => 1 + max a.deep b.deep
  | .cond c a b => 1 + max c.deep (max a.deep b.deep)
  | .letx _ a b => 1 + max a.deep b.deep
  | .turns _ _ a b => 1 + max a.deep b.deep
  | .deff _ _ _ a b => 1 + max a.deep b.deep
  | .use _ a => 1 + a.deep
  | .un _ a => 1 + a.deep
/-- turns from 0 to 9, names of signs -/
def Tm.Ok : Tm → Prop
  | .num _ => True
  | .name x => PyData.strOk x = true
  | .bin _ a b => a.Ok ∧ b.Ok
  | .cond c a b => c.Ok ∧ a.Ok ∧ b.Ok
  | .letx x a b => PyData.strOk x = true ∧ a.Ok ∧ b.Ok
  | .turns n x a b => ((0 ≤ n ∧ n ≤ 9) ∧ PyData.strOk x = true) ∧ a.Ok ∧ b.Ok
  | .deff f x _ a b => (PyData.strOk f = true ∧ PyData.strOk x = true) ∧ a.Ok ∧ b.Ok
  | .use f a => PyData.strOk f = true ∧ a.Ok
  | .un _ a => a.Ok
/-- the heap bears the term at v -/
def TmAt (H : Hp) : Tm → V → Prop
  | .num n, v => ∃ p, v = .ref p ∧ H p = some (.tup [.str "num", .int n])
  | .name x, v => ∃ p, v = .ref p ∧ H p = some (.tup [.str "name", .str x])
  | .bin o a b, v => ∃ p x y, v = .ref p ∧ H p = some (.tup [.str o.word, x, y]) ∧ TmAt H a x ∧ TmAt H b y
  | .cond c a b, v => ∃ p x y z, v = .ref p ∧ H p = some (.tup [.str "when", x, y, z]) ∧ TmAt H c x ∧ TmAt H a y ∧ TmAt H b z
  | .letx n a b, v => ∃ p x y, v = .ref p ∧ H p = some (.tup [.str "let", .str n, x, y]) ∧ TmAt H a x ∧ TmAt H b y
  | .turns k n a b, v => ∃ p x y, v = .ref p ∧ H p = some (.tup [.str "turns", .int k, .str n, x, y]) ∧ TmAt H a x ∧ TmAt H b y
  | .deff f n k a b, v => ∃ p x y, v = .ref p ∧ H p = some (.tup [.str "def", .str f, .str n, .str (kindS k), x, y]) ∧ TmAt H a x ∧ TmAt H b y
  | .use f a, v => ∃ p x, v = .ref p ∧ H p = some (.tup [.str "use", .str f, x]) ∧ TmAt H a x
  | .un o a, v => ∃ p x, v = .ref p ∧ H p = some (.tup [.str o.word, x]) ∧ TmAt H a x
/-- tuples stay -/
def Tups (H H' : Hp) : Prop := ∀ b xs, H b = some (.tup xs) → H' b = some (.tup xs)
theorem Tups.of_same {H H' : Hp} (h : Same H H') : Tups H H' := fun b _ q => h b _ q
theorem Tups.of_but {H H' : Hp} {st : Addr} {ys : List V} (h : But st H H') (hs : H st = some (.lst ys)) : Tups H H' := fun b _ q => h b _ (ne_of q hs (by intro z; cases z)) q
theorem Tups.trans {H H1 H2 : Hp} (a : Tups H H1) (b : Tups H1 H2) : Tups H H2 := fun c xs h => b c xs (a c xs h)
theorem TmAt.mono {H H' : Hp} (e : Tups H H') : ∀ {t : Tm} {v : V}, TmAt H t v → TmAt H' t v
  | .num _, _, ⟨p, h, q⟩ => ⟨p, h, e _ _ q⟩
  | .name _, _, ⟨p, h, q⟩ => ⟨p, h, e _ _ q⟩
  | .bin _ _ _, _, ⟨p, x, y, h, q, a, b⟩ => ⟨p, x, y, h, e _ _ q, TmAt.mono e a, TmAt.mono e b⟩
  | .cond _ _ _, _, ⟨p, x, y, z, h, q, a, b, c⟩ => ⟨p, x, y, z, h, e _ _ q, TmAt.mono e a, TmAt.mono e b, TmAt.mono e c⟩
  | .letx _ _ _, _, ⟨p, x, y, h, q, a, b⟩ => ⟨p, x, y, h, e _ _ q, TmAt.mono e a, TmAt.mono e b⟩
  | .turns _ _ _ _, _, ⟨p, x, y, h, q, a, b⟩ => ⟨p, x, y, h, e _ _ q, TmAt.mono e a, TmAt.mono e b⟩
  | .deff _ _ _ _ _, _, ⟨p, x, y, h, q, a, b⟩ => ⟨p, x, y, h, e _ _ q, TmAt.mono e a, TmAt.mono e b⟩
  | .use _ _, _, ⟨p, x, h, q, a⟩ => ⟨p, x, h, e _ _ q, TmAt.mono e a⟩
  | .un _ _, _, ⟨p, x, h, q, a⟩ => ⟨p, x, h, e _ _ q, TmAt.mono e a⟩
/-- the parts of a term, one by one -/
def TmsAt (H : Hp) : List Tm → List V → Prop
  | [], [] => True
  | t :: ts, v :: vs => TmAt H t v ∧ TmsAt H ts vs
  | _, _ => False
theorem TmsAt.mono {H H' : Hp} (e : Tups H H') : ∀ {ts : List Tm} {vs : List V}, TmsAt H ts vs → TmsAt H' ts vs
  | [], [], _ => True.intro
  | _ :: _, _ :: _, ⟨h, r⟩ => ⟨h.mono e, TmsAt.mono e r⟩
  | [], _ :: _, h => h.elim
  | _ :: _, [], h => h.elim
theorem TmsAt.len {H : Hp} : ∀ {ts : List Tm} {vs : List V}, TmsAt H ts vs → vs.length = ts.length
  | [], [], _ => rfl
  | _ :: _, _ :: _, ⟨_, r⟩ => congrArg (· + 1) (TmsAt.len r)
  | [], _ :: _, h => h.elim
  | _ :: _, [], h => h.elim
/-- a term as a tuple: its head, then its parts -/
theorem TmAt.open {H : Hp} {t : Tm} {v : V} (h : TmAt H t v) : ∃ p vs, v = .ref p ∧ H p = some (.tup (t.head ++ vs)) ∧ TmsAt H t.parts vs := by
  cases t with
  | num n => obtain ⟨p, e, q⟩ := h; exact ⟨p, [], e, q, True.intro⟩
  | name n => obtain ⟨p, e, q⟩ := h; exact ⟨p, [], e, q, True.intro⟩
  | bin o a b => obtain ⟨p, x, y, e, q, ha, hb⟩ := h; exact ⟨p, [x, y], e, q, ha, hb, True.intro⟩
  | cond c a b => obtain ⟨p, x, y, z, e, q, ha, hb, hc⟩ := h; exact ⟨p, [x, y, z], e, q, ha, hb, hc, True.intro⟩
  | letx n a b => obtain ⟨p, x, y, e, q, ha, hb⟩ := h; exact ⟨p, [x, y], e, q, ha, hb, True.intro⟩
  | turns k n a b => obtain ⟨p, x, y, e, q, ha, hb⟩ := h; exact ⟨p, [x, y], e, q, ha, hb, True.intro⟩
  | deff f n k a b => obtain ⟨p, x, y, e, q, ha, hb⟩ := h; exact ⟨p, [x, y], e, q, ha, hb, True.intro⟩
  | use f a => obtain ⟨p, x, e, q, ha⟩ := h; exact ⟨p, [x], e, q, ha, True.intro⟩
  | un o a => obtain ⟨p, x, e, q, ha⟩ := h; exact ⟨p, [x], e, q, ha, True.intro⟩
theorem TmAt.close {H : Hp} {t : Tm} {p : Addr} {vs : List V} (q : H p = some (.tup (t.head ++ vs))) (h : TmsAt H t.parts vs) : TmAt H t (.ref p) := by
  cases t with
  | num n => match vs, h with | [], _ => exact ⟨p, rfl, q⟩
  | name n => match vs, h with | [], _ => exact ⟨p, rfl, q⟩
  | bin o a b => match vs, h with | [x, y], ⟨ha, hb, _⟩ => exact ⟨p, x, y, rfl, q, ha, hb⟩
  | cond c a b => match vs, h with | [x, y, z], ⟨ha, hb, hc, _⟩ => exact ⟨p, x, y, z, rfl, q, ha, hb, hc⟩
  | letx n a b => match vs, h with | [x, y], ⟨ha, hb, _⟩ => exact ⟨p, x, y, rfl, q, ha, hb⟩
  | turns k n a b => match vs, h with | [x, y], ⟨ha, hb, _⟩ => exact ⟨p, x, y, rfl, q, ha, hb⟩
  | deff f n k a b => match vs, h with | [x, y], ⟨ha, hb, _⟩ => exact ⟨p, x, y, rfl, q, ha, hb⟩
  | use f a => match vs, h with | [x], ⟨ha, _⟩ => exact ⟨p, x, rfl, q, ha⟩
  | un o a => match vs, h with | [x], ⟨ha, _⟩ => exact ⟨p, x, rfl, q, ha⟩
theorem sz (n : Nat) (h : n ≤ 1000 := by decide) : n ≤ sizeLine := small h
theorem Tm.deep_le : ∀ t : Tm, t.deep ≤ t.size
  | .num _ => Nat.le_refl _
  | .name _ => Nat.le_refl _
  | .bin _ a b => by have := Tm.deep_le a; have := Tm.deep_le b; simp only [Tm.deep, Tm.size]; omega
  | .cond c a b => by have := Tm.deep_le c; have := Tm.deep_le a; have := Tm.deep_le b; simp only [Tm.deep, Tm.size]; omega
  | .letx _ a b => by have := Tm.deep_le a; have := Tm.deep_le b; simp only [Tm.deep, Tm.size]; omega
  | .turns _ _ a b => by have := Tm.deep_le a; have := Tm.deep_le b; simp only [Tm.deep, Tm.size]; omega
  | .deff _ _ _ a b => by have := Tm.deep_le a; have := Tm.deep_le b; simp only [Tm.deep, Tm.size]; omega
  | .use _ a => by have := Tm.deep_le a; simp only [Tm.deep, Tm.size]; omega
  | .un _ a => by have := Tm.deep_le a; simp only [Tm.deep, Tm.size]; omega

/-! ### the words -/
inductive W where
  | num | name | sum | product | less | «when» | «let» | turns | «def» | use | quote | hole | lift | run
  deriving DecidableEq
def W.str : W → Str
  | .num => "num"
  | .name => "name"
  | .sum => "sum"
  | .product => "product"
  | .less => "less"
  | .when => "when"
  | .let => "let"
  | .turns => "turns"
  | .def => "def"
  | .use => "use"
  | .quote => "quote"
  | .hole => "hole"
  | .lift => "lift"
  | .run => "run"
theorem W.inj : ∀ {a b : W}, a.str = b.str → a = b := by
  intro a b
  cases a <;> cases b <;> first | (intro _; rfl) | (intro h; exact absurd h (by decide +kernel))
def Bin.w : Bin → W
  | .sum => .sum
  | .product => .product
  | .less => .less
def Un.w : Un → W
  | .quote => .quote
  | .hole => .hole
  | .lift => .lift
  | .run => .run
def Tm.w : Tm → W
  | .num _ => .num
  | .name _ => .name
  | .bin o _ _ => o.w
  | .cond _ _ _ => .when
  | .letx _ _ _ => .let
  | .turns _ _ _ _ => .turns
  | .deff _ _ _ _ _ => .def
  | .use _ _ => .use
  | .un o _ => o.w
theorem Bin.word_eq (o : Bin) : o.word = o.w.str := by cases o <;> rfl
theorem Un.word_eq (o : Un) : o.word = o.w.str := by cases o <;> rfl
theorem Tm.head_eq (t : Tm) : t.head = .str t.w.str :: t.head.tail := by
  cases t with
  | bin o _ _ => show [V.str o.word] = [V.str o.w.str]; rw [o.word_eq]
  | un o _ => show [V.str o.word] = [V.str o.w.str]; rw [o.word_eq]
  | _ => rfl
theorem w_num {t : Tm} (h : t.w = .num) : ∃ n, t = .num n := by
  cases t with
  | num n => exact ⟨_, rfl⟩
  | bin o _ _ => cases o <;> cases h
  | un o _ => cases o <;> cases h
  | _ => cases h
theorem w_name {t : Tm} (h : t.w = .name) : ∃ x, t = .name x := by
  cases t with
  | name x => exact ⟨_, rfl⟩
  | bin o _ _ => cases o <;> cases h
  | un o _ => cases o <;> cases h
  | _ => cases h
theorem w_let {t : Tm} (h : t.w = .let) : ∃ x a b, t = .letx x a b := by
  cases t with
  | letx x a b => exact ⟨_, _, _, rfl⟩
  | bin o _ _ => cases o <;> cases h
  | un o _ => cases o <;> cases h
  | _ => cases h
theorem w_turns {t : Tm} (h : t.w = .turns) : ∃ n x a b, t = .turns n x a b := by
  cases t with
  | turns n x a b => exact ⟨_, _, _, _, rfl⟩
  | bin o _ _ => cases o <;> cases h
  | un o _ => cases o <;> cases h
  | _ => cases h
theorem w_def {t : Tm} (h : t.w = .def) : ∃ f x k a b, t = .deff f x k a b := by
  cases t with
  | deff f x k a b => exact ⟨_, _, _, _, _, rfl⟩
  | bin o _ _ => cases o <;> cases h
  | un o _ => cases o <;> cases h
  | _ => cases h
theorem w_use {t : Tm} (h : t.w = .use) : ∃ f a, t = .use f a := by
  cases t with
  | use f a => exact ⟨_, _, rfl⟩
  | bin o _ _ => cases o <;> cases h
  | un o _ => cases o <;> cases h
  | _ => cases h
theorem w_when {t : Tm} (h : t.w = .when) : ∃ c a b, t = .cond c a b := by
  cases t with
  | cond c a b => exact ⟨_, _, _, rfl⟩
  | bin o _ _ => cases o <;> cases h
  | un o _ => cases o <;> cases h
  | _ => cases h
/-- a word as it is asked for -/
theorem str_w {t : Tm} (u : W) (h : decide (V.str t.w.str = V.str u.str) = true) : t.w = u := W.inj (V.str.inj (of_decide_eq_true h))
theorem str_nw {t : Tm} (u : W) (h : ¬ decide (V.str t.w.str = V.str u.str) = true) : t.w ≠ u := fun e => h (by rw [e]; exact decide_eq_true rfl)
theorem eqV_str (a b : Str) : eqV (.str a) (.str b) = true ↔ a = b := by
  show (a == b) = true ↔ a = b
  exact ⟨fun h => eq_of_beq h, fun h => by rw [h]; exact beq_self_eq_true b⟩
/-- a text among written texts -/
theorem inV_str {x : Str} : ∀ {ys : List Str}, inV (.str x) (ys.map V.str) = true ↔ x ∈ ys
  | [] => by constructor <;> intro h <;> cases h
  | y :: r => by
    have ih := inV_str (x := x) (ys := r)
    unfold inV at ih ⊢
    rw [List.map_cons, List.any_cons, Bool.or_eq_true, ih, eqV_str, List.mem_cons]
    exact ⟨fun h => h.elim (fun e => .inl e.symm) .inr, fun h => h.elim (fun e => .inl e.symm) .inr⟩
/-- t[k:] and t[:k] of a tuple -/
theorem slA_from {K : PySem.W.Frag} {H : Hp} {a : Addr} {xs : List V} {k : Nat} {Q : VK} (h : H a = some (.tup xs)) (hk : k ≤ xs.length) (q : ∀ p H', Same H H' → H' p = some (.tup (xs.drop k)) → Q (.ref p) H') : rSlA K (.ref a) (some (k : Int)) none H Q := by
  have e1 : HT.sIx xs.length 0 (some (k : Int)) = k := by rw [HT.sIx_nat]; exact Nat.min_eq_left hk
  have e2 : HT.sIx xs.length xs.length none = xs.length := rfl
  refine ⟨a, xs, rfl, SqT.of h, fun z => ?_, fun _ p hp => ?_⟩
  · have k0 : k = 0 := by rw [e1] at z; exact z.1
    exact q a H (Same.refl H) (by rw [k0]; exact h)
  · refine q p _ (same_new hp _) ?_
    rw [upd_same]
    unfold cutV
    rw [e1, e2, List.take_of_length_le (by rw [List.length_drop]; omega)]
theorem slA_to {K : PySem.W.Frag} {H : Hp} {a : Addr} {xs : List V} {k : Nat} {Q : VK} (h : H a = some (.tup xs)) (hk : k ≤ xs.length) (q : ∀ p H', Same H H' → H' p = some (.tup (xs.take k)) → Q (.ref p) H') : rSlA K (.ref a) none (some (k : Int)) H Q := by
  have e1 : HT.sIx xs.length xs.length (some (k : Int)) = k := by rw [HT.sIx_nat]; exact Nat.min_eq_left hk
  have e2 : HT.sIx xs.length 0 none = 0 := rfl
  refine ⟨a, xs, rfl, SqT.of h, fun z => ?_, fun _ p hp => ?_⟩
  · have k0 : k = xs.length := by rw [e1] at z; exact z.2
    exact q a H (Same.refl H) (by rw [k0, List.take_length]; exact h)
  · refine q p _ (same_new hp _) ?_
    rw [upd_same]
    unfold cutV
    rw [e1, e2, List.drop_zero, Nat.sub_zero]
theorem sqT_len {K : PySem.W.Frag} {H : Hp} {a : Addr} {xs ys : List V} (e : xs = ys) (h : SqT K H a xs) : SqT K H a ys := e ▸ h
theorem Tm.len_parts (t : Tm) : t.parts.length ≤ 3 := by
  cases t <;> simp only [Tm.parts, List.length_cons, List.length_nil] <;> omega
theorem same_sqT {K : PySem.W.Frag} {H H' : Hp} {a : Addr} {xs : List V} (e : Same H H') (h : SqT K H a xs) : SqT K H' a xs := by
  rcases h with (h | ⟨o, h⟩) | h
  · exact .inl (.inl (e _ _ h))
  · exact .inl (.inr ⟨o, e _ _ h⟩)
  · exact .inr h

/-! ### terms as plain data: == of two of them -/
def kindD (k : Bool) : PyData := .str (kindS k)
def Tm.data : Tm → PyData
  | .num n => .tuple [.str W.num.str, .int n]
  | .name x => .tuple [.str W.name.str, .str x]
  | .bin o a b => .tuple [.str o.w.str, a.data, b.data]
  | .cond c a b => .tuple [.str W.when.str, c.data, a.data, b.data]
  | .letx x a b => .tuple [.str W.let.str, .str x, a.data, b.data]
  | .turns n x a b => .tuple [.str W.turns.str, .int n, .str x, a.data, b.data]
  | .deff f x k a b => .tuple [.str W.def.str, .str f, .str x, .str (kindS k), a.data, b.data]
  | .use f a => .tuple [.str W.use.str, .str f, a.data]
  | .un o a => .tuple [.str o.w.str, a.data]
theorem W.ok : ∀ u : W, PyData.strOk u.str = true := by intro u; cases u <;> decide +kernel
theorem kindS_ok : ∀ k : Bool, PyData.strOk (kindS k) = true := by intro k; cases k <;> decide +kernel
theorem kindS_inj : ∀ {k l : Bool}, kindS k = kindS l → k = l := by
  intro k l
  cases k <;> cases l <;> first | (intro _; rfl) | (intro h; exact absurd h (by decide +kernel))
theorem Tm.data_w (t : Tm) : ∃ r, t.data = .tuple (.str t.w.str :: r) := by
  cases t <;> exact ⟨_, rfl⟩
theorem Tm.data_lay : ∀ t : Tm, t.Ok → t.data.canLay0 = true
  | .num _, _ => by simp only [Tm.data, PyData.canLay0, PyData.canLayAll0, W.ok, Bool.and_self]
  | .name _, h => by simp only [Tm.data, PyData.canLay0, PyData.canLayAll0, W.ok, show PyData.strOk _ = true from h, Bool.and_self]
  | .bin _ a b, h => by simp only [Tm.data, PyData.canLay0, PyData.canLayAll0, W.ok, Tm.data_lay a h.1, Tm.data_lay b h.2, Bool.and_self]
  | .cond c a b, h => by simp only [Tm.data, PyData.canLay0, PyData.canLayAll0, W.ok, Tm.data_lay c h.1, Tm.data_lay a h.2.1, Tm.data_lay b h.2.2, Bool.and_self]
  | .letx _ a b, h => by simp only [Tm.data, PyData.canLay0, PyData.canLayAll0, W.ok, h.1, Tm.data_lay a h.2.1, Tm.data_lay b h.2.2, Bool.and_self]
  | .turns _ _ a b, h => by simp only [Tm.data, PyData.canLay0, PyData.canLayAll0, W.ok, h.1.2, Tm.data_lay a h.2.1, Tm.data_lay b h.2.2, Bool.and_self]
  | .deff _ _ _ a b, h => by simp only [Tm.data, PyData.canLay0, PyData.canLayAll0, W.ok, kindS_ok, h.1.1, h.1.2, Tm.data_lay a h.2.1, Tm.data_lay b h.2.2, Bool.and_self]
  | .use _ a, h => by simp only [Tm.data, PyData.canLay0, PyData.canLayAll0, W.ok, h.1, Tm.data_lay a h.2, Bool.and_self]
  | .un _ a, h => by simp only [Tm.data, PyData.canLay0, PyData.canLayAll0, W.ok, Tm.data_lay a h, Bool.and_self]
theorem Tm.data_deep : ∀ t : Tm, t.data.depth ≤ t.deep
  | .num _ => by simp [Tm.data, Tm.deep, PyData.depth, PyData.depthAll]
  | .name _ => by simp [Tm.data, Tm.deep, PyData.depth, PyData.depthAll]
  | .bin _ a b => by have := Tm.data_deep a; have := Tm.data_deep b; simp only [Tm.data, Tm.deep, PyData.depth, PyData.depthAll]; omega
  | .cond c a b => by have := Tm.data_deep a; have := Tm.data_deep b; have := Tm.data_deep c; simp only [Tm.data, Tm.deep, PyData.depth, PyData.depthAll]; omega
  | .letx _ a b => by have := Tm.data_deep a; have := Tm.data_deep b; simp only [Tm.data, Tm.deep, PyData.depth, PyData.depthAll]; omega
  | .turns _ _ a b => by have := Tm.data_deep a; have := Tm.data_deep b; simp only [Tm.data, Tm.deep, PyData.depth, PyData.depthAll]; omega
  | .deff _ _ _ a b => by have := Tm.data_deep a; have := Tm.data_deep b; simp only [Tm.data, Tm.deep, PyData.depth, PyData.depthAll]; omega
  | .use _ a => by have := Tm.data_deep a; simp only [Tm.data, Tm.deep, PyData.depth, PyData.depthAll]; omega
  | .un _ a => by have := Tm.data_deep a; simp only [Tm.data, Tm.deep, PyData.depth, PyData.depthAll]; omega
theorem w_bin {t : Tm} {o : Bin} (h : t.w = o.w) : ∃ a b, t = .bin o a b := by
  cases t with
  | bin o' a b => cases o <;> cases o' <;> first | exact ⟨_, _, rfl⟩ | cases h
  | un o' _ => cases o <;> cases o' <;> cases h
  | _ => cases o <;> cases h
theorem w_un {t : Tm} {o : Un} (h : t.w = o.w) : ∃ a, t = .un o a := by
  cases t with
  | un o' a => cases o <;> cases o' <;> first | exact ⟨_, rfl⟩ | cases h
  | bin o' _ _ => cases o <;> cases o' <;> cases h
  | _ => cases o <;> cases h
theorem data_weq {t u : Tm} (h : PyData.eqv t.data u.data = true) : t.w = u.w := by
  obtain ⟨r, e⟩ := t.data_w
  obtain ⟨r', e'⟩ := u.data_w
  rw [e, e'] at h
  simp only [PyData.eqv, PyData.eqvAll, Bool.and_eq_true, beq_iff_eq] at h
  exact W.inj h.1
theorem Tm.data_eq : ∀ t u : Tm, PyData.eqv t.data u.data = true → t = u := by
  intro t
  induction t with
  | num n =>
    intro u h
    obtain ⟨m, rfl⟩ := w_num (data_weq h).symm
    simp only [Tm.data, PyData.eqv, PyData.eqvAll, Bool.and_eq_true, beq_iff_eq] at h
    rw [h.2.1]
  | name n =>
    intro u h
    obtain ⟨m, rfl⟩ := w_name (data_weq h).symm
    simp only [Tm.data, PyData.eqv, PyData.eqvAll, Bool.and_eq_true, beq_iff_eq] at h
    rw [h.2.1]
  | bin o a b iha ihb =>
    intro u h
    obtain ⟨a', b', rfl⟩ := w_bin (o := o) (data_weq h).symm
    simp only [Tm.data, PyData.eqv, PyData.eqvAll, Bool.and_eq_true, beq_iff_eq] at h
    rw [iha _ h.2.1, ihb _ h.2.2.1]
  | cond c a b ihc iha ihb =>
    intro u h
    obtain ⟨c', a', b', rfl⟩ := w_when (data_weq h).symm
    simp only [Tm.data, PyData.eqv, PyData.eqvAll, Bool.and_eq_true, beq_iff_eq] at h
    rw [ihc _ h.2.1, iha _ h.2.2.1, ihb _ h.2.2.2.1]
  | letx x a b iha ihb =>
    intro u h
    obtain ⟨x', a', b', rfl⟩ := w_let (data_weq h).symm
    simp only [Tm.data, PyData.eqv, PyData.eqvAll, Bool.and_eq_true, beq_iff_eq] at h
    rw [h.2.1, iha _ h.2.2.1, ihb _ h.2.2.2.1]
  | turns n x a b iha ihb =>
    intro u h
    obtain ⟨n', x', a', b', rfl⟩ := w_turns (data_weq h).symm
    simp only [Tm.data, PyData.eqv, PyData.eqvAll, Bool.and_eq_true, beq_iff_eq] at h
    rw [h.2.1, h.2.2.1, iha _ h.2.2.2.1, ihb _ h.2.2.2.2.1]
  | deff f x k a b iha ihb =>
    intro u h
    obtain ⟨f', x', k', a', b', rfl⟩ := w_def (data_weq h).symm
    simp only [Tm.data, PyData.eqv, PyData.eqvAll, Bool.and_eq_true, beq_iff_eq] at h
    rw [h.2.1, h.2.2.1, kindS_inj h.2.2.2.1, iha _ h.2.2.2.2.1, ihb _ h.2.2.2.2.2.1]
  | use f a iha =>
    intro u h
    obtain ⟨f', a', rfl⟩ := w_use (data_weq h).symm
    simp only [Tm.data, PyData.eqv, PyData.eqvAll, Bool.and_eq_true, beq_iff_eq] at h
    rw [h.2.1, iha _ h.2.2.1]
  | un o a iha =>
    intro u h
    obtain ⟨a', rfl⟩ := w_un (o := o) (data_weq h).symm
    simp only [Tm.data, PyData.eqv, PyData.eqvAll, Bool.and_eq_true, beq_iff_eq] at h
    rw [iha _ h.2.1]
theorem Tm.data_self (t : Tm) (h : t.Ok) : PyData.eqv t.data t.data = true := SeqAt.eqv_refl _ (t.data_lay h)
theorem Tm.shaped {t : Tm} (h : t.Ok) (hd : t.deep ≤ 60) : SeqAt.shaped t.data = true := by
  unfold SeqAt.shaped
  rw [t.data_lay h, decide_eq_true (by have := t.data_deep; omega)]
  rfl
theorem TmAt.dp {K : PySem.W.Frag} {H : Hp} : ∀ {t : Tm} {v : V}, TmAt H t v → Dp K H v t.data
  | .num _, _, ⟨p, e, q⟩ => by rw [e]; exact .tup (SqT.of q) (.cons (.str _) (.cons (.int _) .nil))
  | .name _, _, ⟨p, e, q⟩ => by rw [e]; exact .tup (SqT.of q) (.cons (.str _) (.cons (.str _) .nil))
  | .bin o _ _, _, ⟨p, x, y, e, q, a, b⟩ => by rw [e]; rw [o.word_eq] at q; exact .tup (SqT.of q) (.cons (.str _) (.cons (TmAt.dp a) (.cons (TmAt.dp b) .nil)))
  | .cond _ _ _, _, ⟨p, x, y, z, e, q, a, b, c⟩ => by rw [e]; exact .tup (SqT.of q) (.cons (.str _) (.cons (TmAt.dp a) (.cons (TmAt.dp b) (.cons (TmAt.dp c) .nil))))
  | .letx _ _ _, _, ⟨p, x, y, e, q, a, b⟩ => by rw [e]; exact .tup (SqT.of q) (.cons (.str _) (.cons (.str _) (.cons (TmAt.dp a) (.cons (TmAt.dp b) .nil))))
  | .turns _ _ _ _, _, ⟨p, x, y, e, q, a, b⟩ => by rw [e]; exact .tup (SqT.of q) (.cons (.str _) (.cons (.int _) (.cons (.str _) (.cons (TmAt.dp a) (.cons (TmAt.dp b) .nil)))))
  | .deff _ _ _ _ _, _, ⟨p, x, y, e, q, a, b⟩ => by rw [e]; exact .tup (SqT.of q) (.cons (.str _) (.cons (.str _) (.cons (.str _) (.cons (.str _) (.cons (TmAt.dp a) (.cons (TmAt.dp b) .nil))))))
  | .use _ _, _, ⟨p, x, e, q, a⟩ => by rw [e]; exact .tup (SqT.of q) (.cons (.str _) (.cons (.str _) (.cons (TmAt.dp a) .nil)))
  | .un o _, _, ⟨p, x, e, q, a⟩ => by rw [e]; rw [o.word_eq] at q; exact .tup (SqT.of q) (.cons (.str _) (.cons (TmAt.dp a) .nil))

/-! ### sizes of the parts -/
def sizes : List Tm → Nat
  | [] => 0
  | t :: r => t.size + sizes r
theorem sizes_snoc (t : Tm) : ∀ r : List Tm, sizes (r ++ [t]) = sizes r + t.size
  | [] => by show t.size + 0 = 0 + t.size; omega
  | a :: r => by show a.size + sizes (r ++ [t]) = a.size + sizes r + t.size; rw [sizes_snoc t r]; omega
theorem sizes_take : ∀ (r : List Tm) (i : Nat), sizes (r.take i) ≤ sizes r
  | [], i => by rw [List.take_nil]; exact Nat.le_refl _
  | a :: r, 0 => Nat.zero_le _
  | a :: r, i + 1 => by show a.size + sizes (r.take i) ≤ a.size + sizes r; exact Nat.add_le_add_left (sizes_take r i) _
theorem Tm.size_parts (t : Tm) : t.size = 1 + sizes t.parts := by
  cases t <;> simp only [Tm.size, Tm.parts, sizes] <;> omega
theorem Tm.Ok.part {t u : Tm} (h : t.Ok) (m : u ∈ t.parts) : u.Ok := by
  cases t with
  | num n => cases m
  | name n => cases m
  | bin o a b =>
    simp only [Tm.parts, List.mem_cons, List.not_mem_nil, or_false] at m
    rcases m with rfl | rfl
    · exact h.1
    · exact h.2
  | cond c a b =>
    simp only [Tm.parts, List.mem_cons, List.not_mem_nil, or_false] at m
    rcases m with rfl | rfl | rfl
    · exact h.1
    · exact h.2.1
    · exact h.2.2
  | letx x a b =>
    simp only [Tm.parts, List.mem_cons, List.not_mem_nil, or_false] at m
    rcases m with rfl | rfl
    · exact h.2.1
    · exact h.2.2
  | turns n x a b =>
    simp only [Tm.parts, List.mem_cons, List.not_mem_nil, or_false] at m
    rcases m with rfl | rfl
    · exact h.2.1
    · exact h.2.2
  | deff f x k a b =>
    simp only [Tm.parts, List.mem_cons, List.not_mem_nil, or_false] at m
    rcases m with rfl | rfl
    · exact h.2.1
    · exact h.2.2
  | use f a =>
    simp only [Tm.parts, List.mem_cons, List.not_mem_nil, or_false] at m
    subst m
    exact h.2
  | un o a =>
    simp only [Tm.parts, List.mem_cons, List.not_mem_nil, or_false] at m
    subst m
    exact h
theorem sizes_mem {r : List Tm} {u : Tm} : u ∈ r → u.size ≤ sizes r := by
  intro h
  induction r with
  | nil => cases h
  | cons t r ih =>
    show u.size ≤ t.size + sizes r
    rcases List.mem_cons.mp h with rfl | h
    · omega
    · have := ih h
      omega
theorem Tm.part_size {t u : Tm} (h : u ∈ t.parts) : u.size ≤ t.size := by
  have := sizes_mem h
  have := t.size_parts
  omega
theorem sizes_sum : ∀ r : List Tm, sizes r = (r.map Tm.size).sum
  | [] => rfl
  | t :: r => by show t.size + sizes r = _; rw [sizes_sum r]; rfl
theorem TmsAt.get {H : Hp} : ∀ {ts : List Tm} {vs : List V} {i : Nat} {t : Tm}, TmsAt H ts vs → ts[i]? = some t → ∃ v, vs[i]? = some v ∧ TmAt H t v
  | [], [], _, _, _, e => by simp at e
  | t :: ts, v :: vs, 0, _, ⟨h, _⟩, e => by
    simp only [List.getElem?_cons_zero, Option.some.injEq] at e
    subst e
    exact ⟨v, rfl, h⟩
  | t :: ts, v :: vs, i + 1, _, ⟨_, r⟩, e => by
    simp only [List.getElem?_cons_succ] at e
    obtain ⟨u, h1, h2⟩ := TmsAt.get r e
    exact ⟨u, by simpa using h1, h2⟩
  | [], _ :: _, _, _, h, _ => h.elim
  | _ :: _, [], _, _, h, _ => h.elim
theorem TmsAt.snoc {H : Hp} {t : Tm} {v : V} (h : TmAt H t v) : ∀ {ts : List Tm} {vs : List V}, TmsAt H ts vs → TmsAt H (ts ++ [t]) (vs ++ [v])
  | [], [], _ => ⟨h, True.intro⟩
  | _ :: _, _ :: _, ⟨a, b⟩ => ⟨a, TmsAt.snoc h b⟩
  | [], _ :: _, h => h.elim
  | _ :: _, [], h => h.elim
/-- another list is written: the terms stay -/
theorem Tups.put {H : Hp} {S : Addr} {ys zs : List V} (hS : H S = some (.lst ys)) : Tups H (upd H S (.lst zs)) := fun b xs q => by
  rw [upd_ne (ne_of q hS (by intro z; cases z))]
  exact q
theorem fn_none {P : Program} {w : World} {K : PySem.W.Frag} {mg : Str → Option Value} {base : Heap} {f : Addr} {fd : FuncData} {k : Nat} {ps : List Str} {sp : Sp} (no : ∀ vs H Q E, ¬ sp vs H Q E) : FnOk P w K mg base CX0 k f fd ps sp :=
  ⟨fun vs H Q E h => absurd h (no vs H Q E), fun A outer s H args us vs Q E _ _ _ _ h => absurd h (no vs H Q E)⟩

/-! ### a dict whose keys are tuples of any depth, its values objects: d.setdefault(k, v) -/
mutual
inductive KAt (H : Hp) : NestedKey → V → Prop
  | int (i : Int) : KAt H (.num i) (.int i)
  | str (x : Str) : KAt H (.text x) (.str x)
  | tup {a : Addr} {xs : List V} {ks : List NestedKey} : H a = some (.tup xs) → KAll H ks xs → KAt H (.tup ks) (.ref a)
inductive KAll (H : Hp) : List NestedKey → List V → Prop
  | nil : KAll H [] []
  | cons {k : NestedKey} {v : V} {ks : List NestedKey} {vs : List V} : KAt H k v → KAll H ks vs → KAll H (k :: ks) (v :: vs)
end
mutual
theorem KAt.mono {H H' : Hp} (e : Tups H H') : ∀ (k : NestedKey) (v : V), KAt H k v → KAt H' k v
  | .num _, _, h => by cases h; exact .int _
  | .text _, _, h => by cases h; exact .str _
  | .tup ks, _, h => by
    cases h with
    | tup ha hk => exact .tup (e _ _ ha) (KAll.mono e ks _ hk)
  | .none, _, h => by cases h
theorem KAll.mono {H H' : Hp} (e : Tups H H') : ∀ (ks : List NestedKey) (vs : List V), KAll H ks vs → KAll H' ks vs
  | [], _, h => by cases h; exact .nil
  | k :: ks, _, h => by
    cases h with
    | cons h1 h2 => exact .cons (KAt.mono e k _ h1) (KAll.mono e ks _ h2)
end
theorem KAll.snoc {H : Hp} {k : NestedKey} {v : V} (hk : KAt H k v) : ∀ {ks : List NestedKey} {vs : List V}, KAll H ks vs → KAll H (ks ++ [k]) (vs ++ [v])
  | _, _, .nil => .cons hk .nil
  | _, _, .cons h1 h2 => .cons h1 (KAll.snoc hk h2)
section
variable {X : Cx} {pins : List (Addr × Obj)} {σ : L2.St} {H : Hp} {s : Shared}
mutual
theorem KAt.is (I : Inv X pins σ H s) : ∀ (k : NestedKey) (v : V) (u : Value), KAt H k v → RelV v u → NestedIs s.heap k u
  | .num _, _, _, h, r => by
    cases h
    obtain ⟨t, rfl⟩ := r
    exact .int _ t
  | .text _, _, _, h, r => by
    cases h
    obtain ⟨t, rfl⟩ := r
    exact .text _ t
  | .tup ks, _, _, h, r => by
    cases h with
    | tup ha hk =>
      obtain rfl := r
      obtain ⟨its, rv, ⟨o, ho, hc, n, hd⟩, _⟩ := I.tuple (SqT.of ha)
      exact .tup ho hc hd (KAll.is I ks _ _ hk rv)
  | .none, _, _, h, _ => by cases h
theorem KAll.is (I : Inv X pins σ H s) : ∀ (ks : List NestedKey) (vs : List V) (us : List Value), KAll H ks vs → Vals vs us → NestedAll s.heap ks us
  | [], _, _, h, r => by
    cases h
    cases r
    exact .nil
  | k :: ks, _, _, h, r => by
    cases h with
    | cons h1 h2 =>
      cases r with
      | cons r1 r2 => exact .cons (KAt.is I k _ _ h1 r1) (KAll.is I ks _ _ h2 r2)
end
end
/-- an entry: its key, where the key's tuple stands, where the value stands -/
abbrev NE := List (NestedKey × Addr × Addr)
def valN (x : NestedKey × Addr × Addr) : NestedKey × Addr × Value := (x.1, x.2.1, .ref x.2.2)
def rawD (P : Program) (w : World) (d : Addr) (xs : NE) : HO := .ext fun h => (d == sysModules) = false ∧ xs.length ≤ sizeLine ∧ (xs.map (·.1)).Nodup ∧
  ∃ o es ep, h.get? d = some o ∧ o.ExactDict ∧ o.data = .dict es ep ∧ es.toList = (xs.map valN).map (entryOfKey (nestedKind P w))
/-- the dict at d has the entries xs -/
def IsNx (P : Program) (w : World) (H : Hp) (d : Addr) (xs : NE) : Prop := H d = some (rawD P w d xs) ∨ (H d = some (.dK []) ∧ xs = [])
def tNSetd (P : Program) (w : World) (td ty tx : TE) : TE := fun σ H Q => td σ H fun x H1 => ∃ d, x = .ref d ∧ (∃ xs, IsNx P w H1 d xs) ∧ ty σ H1 fun y H2 => tx σ H2 fun z H3 => ∃ (xs : NE) (k : NestedKey) (a b : Addr), IsNx P w H3 d xs ∧ y = .ref a ∧ z = .ref b ∧
  KAt H3 k y ∧ k.depth ≤ 8 ∧ (∀ e ∈ xs, KAt H3 e.1 (.ref e.2.1) ∧ e.1.depth ≤ 8) ∧ xs.length < sizeLine ∧ (∀ c b', (k, c, b') ∈ xs → Q (.ref b') H3) ∧ Q z (upd H3 d (rawD P w d (xs ++ [(k, a, b)])))
section
variable {X : Cx} {pins : List (Addr × Obj)} {σ : L2.St} {H : Hp} {s : Shared} {d : Addr} {xs : NE} {A : Around} {E : Value → Shared → Prop}
theorem isN_at (I : Inv X pins σ H s) (h : IsNx X.prog X.w H d xs) : (d == sysModules) = false ∧ xs.length ≤ sizeLine ∧ (xs.map (·.1)).Nodup ∧
    ∃ o es ep, s.heap.get? d = some o ∧ o.ExactDict ∧ o.data = .dict es ep ∧ es.toList = (xs.map valN).map (entryOfKey (nestedKind X.prog X.w)) := by
  rcases h with h | ⟨h, rfl⟩
  · exact (I.hok d _ h).1
  · obtain ⟨_, hd, vs, rel, o, es, ep, ho, he, hdat, hes, q1, q2⟩ := I.hok d _ h
    cases rel
    refine ⟨hd, Nat.zero_le _, List.Pairwise.nil, o, es, ep, ho, he, hdat, ?_⟩
    generalize es.toList = l at q1
    cases q1
    rfl
theorem isN_dict (I : Inv X pins σ H s) (h : IsNx X.prog X.w H d xs) (hk : ∀ e ∈ xs, KAt H e.1 (.ref e.2.1) ∧ e.1.depth ≤ 8) : s.heap.DictOfH (nestedKind X.prog X.w) d (xs.map valN) := by
  obtain ⟨_, _, nd, o, es, ep, ho, he, hdat, hes⟩ := isN_at I h
  refine ⟨o, es, ep, ho, he, hdat, hes, fun x hx => ?_, by rw [List.map_map]; exact nd⟩
  obtain ⟨e, he', rfl⟩ := List.mem_map.mp hx
  exact ⟨KAt.is I _ _ _ (hk e he').1 rfl, (hk e he').2⟩
theorem isN_mut (h : IsNx X.prog X.w H d xs) : Mut (H d) := by
  rcases h with h | ⟨h, _⟩ <;> rw [h] <;> exact True.intro
theorem n_setd {k : NestedKey} {a b : Addr} {Q : Value → Shared → Prop} (I : Inv X pins σ H s) (e : IsNx X.prog X.w H d xs) (hk : KAt H k (.ref a)) (hd : k.depth ≤ 8) (hks : ∀ e ∈ xs, KAt H e.1 (.ref e.2.1) ∧ e.1.depth ≤ 8) (hl : xs.length < sizeLine) (hu : A.in1.units + 8 < cLine)
    (h1 : ∀ c b', (k, c, b') ∈ xs → ∀ s' : Shared, Inv X pins σ H s' → Q (.ref b') s') (h2 : ∀ s' : Shared, Inv X pins σ (upd H d (rawD X.prog X.w d (xs ++ [(k, a, b)]))) s' → Q (.ref b) s') :
    wpAny (model X.prog X.w) A (call (.builtin "dict.setdefault") [.ref d, .ref a, .ref b]) Q E s := by
  obtain ⟨hsy, _, nd, _⟩ := isN_at I e
  refine call_setdefault_heap (knd := nestedKind X.prog X.w) (k := k) (xs := xs.map valN) hu ⟨KAt.is I _ _ _ hk rfl, hd⟩ hsy (isN_dict I e hks) (fun p hp => ?_) (fun hn h' dd hs => ?_) (by rw [List.length_map]; exact Nat.le_of_lt hl)
  · unfold atKey at hp
    cases hf : (xs.map valN).find? (fun x => decide (x.1 = k)) with
    | none =>
      rw [hf] at hp
      cases hp
    | some x =>
      rw [hf] at hp
      have hp' : x.2 = p := Option.some.inj hp
      have hx1 : x.1 = k := of_decide_eq_true (List.find?_some (p := fun x : NestedKey × Addr × Value => decide (x.1 = k)) hf)
      obtain ⟨y, hy, rfl⟩ := List.mem_map.mp (List.mem_of_find?_eq_some hf)
      rw [← hp']
      refine h1 y.2.1 y.2.2 ?_ _ (I.tok _)
      rw [← hx1]
      exact hy
  · rw [storedH_new hn] at dd
    obtain ⟨o, es, ep, ho, he, hdat, hes, _, nd'⟩ := dd
    have e1 : xs.map valN ++ [(k, a, Value.ref b)] = (xs ++ [(k, a, b)]).map valN := by rw [List.map_append]; rfl
    rw [e1] at hes nd'
    have new : ObjOk X.prog X.w (upd H d (rawD X.prog X.w d (xs ++ [(k, a, b)]))) h' d (rawD X.prog X.w d (xs ++ [(k, a, b)])) := by
      refine ⟨⟨hsy, by rw [List.length_append]; exact hl, by rw [List.map_map] at nd'; exact nd', o, es, ep, ho, he, hdat, hes⟩, ⟨o, ho⟩, ?_⟩
      rintro g1 g2 ⟨p1, p2, p3, o1, es1, ep1, q1, q⟩ kp
      exact ⟨p1, p2, p3, o1, es1, ep1, kp _ q1, q⟩
    exact h2 _ (d_write (t' := s.toks + (nestedKind X.prog X.w).draws k) I (isN_mut e) hs ⟨o, ho⟩ new)
theorem pe_nsetd {o e f : Expr} {td ty tx : TE} {apos cpos : Pos} (hu : X.A.units + 64 < cLine) (ho : PE X o td) (he : PE X e ty) (hf : PE X f tx) (m : M2 X o "setdefault" apos e f cpos) : PE X (.Call (.Attribute o "setdefault" apos) [e, f] [] cpos) (tNSetd X.prog X.w td ty tx) := by
  refine ⟨fun pins s σ H Q I h => ?_⟩
  refine wpAny_Call_method m.base m.few m.line PySem.F.plainAttrs_dict PySem.F.slot_dict_setdefault PySem.F.type_dict_setdefault (thn (ho.run pins s σ H _ I h) fun u s1 ⟨x, H1, I1, rx, d, ex, ⟨xs0, hd⟩, q1⟩ => ?_)
  subst ex
  obtain rfl : u = Value.ref d := rx
  obtain ⟨_, _, _, ob, es, ep, h1, h2, h3, _⟩ := isN_at I1 hd
  refine ⟨⟨ob, h1, h2.1⟩, fun b q => ?_, ?_⟩
  · cases q
    exact ⟨ob, h1, h2.2.1⟩
  rw [m.trees]
  refine Calls.callWith_builtin rfl (Calls.evalArgs_plain (Calls.spliced_cons (thn (he.run pins s1 σ H1 _ I1 q1) fun iv s2 ⟨y, H2, I2, ry, q2⟩ =>
    Calls.spliced_cons (thn (hf.run pins s2 σ H2 _ I2 q2) fun fv s3 ⟨z, H3, I3, rz, xs, k, a, b, hx, ey, ez, hk, hkd, hks, hl, q3, q4⟩ => Calls.spliced_nil ?_))))
  subst ey ez
  obtain rfl : iv = Value.ref a := ry
  obtain rfl : fv = Value.ref b := rz
  exact n_setd I3 hx hk hkd hks hl (by show _ + 1 + 8 < _; omega) (fun c b' hm s4 I4 => ⟨.ref b', _, I4, rfl, q3 c b' hm⟩) fun s4 I4 => ⟨.ref b, _, I4, rfl, q4⟩
end

/-! ### heads and parts by the program's table -/
def W.pos : W → Nat
  | .num => 2
  | .name => 2
  | .sum => 1
  | .product => 1
  | .less => 1
  | .when => 1
  | .let => 2
  | .turns => 3
  | .def => 4
  | .use => 2
  | .quote => 1
  | .hole => 1
  | .lift => 1
  | .run => 1
theorem Tm.head_len (t : Tm) : t.head.length = t.w.pos := by
  cases t with
  | bin o _ _ => cases o <;> rfl
  | un o _ => cases o <;> rfl
  | _ => rfl
structure KParts (K : PySem.W.Frag) (w : World) (mg : Str → Option Value) (pa : Addr) : Prop where
  m : mg "PARTS_AT" = some (.ref pa)
  is : ∀ u : W, KDct K w pa u.str (.int (u.pos : Int))
/-- head_of, parts_of -/
def spHead : Sp := fun vs H Q _ => ∃ (t : Tm) (v : V), vs = [v] ∧ TmAt H t v ∧ ∀ (r : Addr) (H' : Hp), Same H H' → H' r = some (.tup t.head) → Q (.ref r) H'
def spPartsOf : Sp := fun vs H Q _ => ∃ (t : Tm) (v : V), vs = [v] ∧ TmAt H t v ∧ ∀ (r : Addr) (ws : List V) (H' : Hp), Same H H' → H' r = some (.tup ws) → TmsAt H' t.parts ws → Q (.ref r) H'
abbrev s_head_of : Stmt := topS 13
theorem sc_head_of : FnScope ["term"] ["term"] (defScope s_head_of) := ⟨rfl, rfl, rfl, by decide +kernel, rfl, by decide +kernel, by decide +kernel⟩
abbrev s_parts_of : Stmt := topS 14
theorem sc_parts_of : FnScope ["term"] ["term"] (defScope s_parts_of) := ⟨rfl, rfl, rfl, by decide +kernel, rfl, by decide +kernel, by decide +kernel⟩
section
variable {P : Program} {w : World} {K : PySem.W.Frag} {mg : Str → Option Value} {base : Heap} {pa f f1 f2 f3 f4 f5 f6 f7 f8 : Addr} {fd fd1 fd2 fd3 fd4 fd5 fd6 fd7 fd8 : FuncData}
theorem ok_head_of (F : Fun K "head_of" "head_of" s_head_of f fd) (Z : KParts K w mg pa) : FnOk P w K mg base CX0 1 f fd ["term"] spHead := by
  refine F.ok sc_head_of (fun vs H Q E h => ?_) (fun cdv A outer s H vs Q E hr h => ?_)
  · obtain ⟨t, v, rfl, _⟩ := h
    rfl
  obtain ⟨t, v, rfl, ht, q⟩ := h
  obtain ⟨p, vs, rfl, hp, hvs⟩ := ht.open
  refine ⟨_, (pss_one (ps_ret (pe_slice sl_tupA (pv 0) po_none (po_some (pe_ix ix_kdict (pe_glob (v := V.ref pa) rfl Z.m rfl) (pe_ix ix_tup (pv 0) pe_int (fun _ _ => rfl)) (fun _ _ => rfl)))))), ?_⟩
  refine ⟨_, rfl, ?_⟩
  unfold tNoPart
  have hp' := hp
  rw [t.head_eq] at hp'
  refine ⟨_, rfl, p, _, _, _, rfl, rfl, SqT.of hp', atI_n (n := 0) rfl rfl, pa, _, _, rfl, rfl, Z.is t.w, _, rfl, ?_⟩
  rw [← t.head_len]
  show rSlA K (V.ref p) none (some ((t.head.length : Nat) : Int)) _ _
  refine slA_to hp (by rw [List.length_append]; omega) fun r H' e hr => q r H' e ?_
  rw [hr, List.take_left]
theorem ok_parts_of (F : Fun K "parts_of" "parts_of" s_parts_of f fd) (Z : KParts K w mg pa) : FnOk P w K mg base CX0 1 f fd ["term"] spPartsOf := by
  refine F.ok sc_parts_of (fun vs H Q E h => ?_) (fun cdv A outer s H vs Q E hr h => ?_)
  · obtain ⟨t, v, rfl, _⟩ := h
    rfl
  obtain ⟨t, v, rfl, ht, q⟩ := h
  obtain ⟨p, vs, rfl, hp, hvs⟩ := ht.open
  refine ⟨_, (pss_one (ps_ret (pe_slice sl_tupA (pv 0) (po_some (pe_ix ix_kdict (pe_glob (v := V.ref pa) rfl Z.m rfl) (pe_ix ix_tup (pv 0) pe_int (fun _ _ => rfl)) (fun _ _ => rfl))) po_none))), ?_⟩
  refine ⟨_, rfl, ?_⟩
  have hp' := hp
  rw [t.head_eq] at hp'
  refine ⟨_, rfl, p, _, _, _, rfl, rfl, SqT.of hp', atI_n (n := 0) rfl rfl, pa, _, _, rfl, rfl, Z.is t.w, _, rfl, ?_⟩
  unfold tNoPart
  rw [← t.head_len]
  show rSlA K (V.ref p) (some ((t.head.length : Nat) : Int)) none _ _
  refine slA_from hp (by rw [List.length_append]; omega) fun r H' e hr => q r vs H' e ?_ (hvs.mono (.of_same e))
  rw [hr, List.drop_left]
end

/-! ### the key of a term -/
def vk : V → NestedKey
  | .int i => .num i
  | .str x => .text x
  | _ => .none
theorem Tm.head_key (H : Hp) (t : Tm) : KAll H (t.head.map vk) t.head := by
  cases t with
  | num n => exact .cons (.str _) (.cons (.int _) .nil)
  | name n => exact .cons (.str _) (.cons (.str _) .nil)
  | bin o a b => exact .cons (.str _) .nil
  | cond c a b => exact .cons (.str _) .nil
  | letx n a b => exact .cons (.str _) (.cons (.str _) .nil)
  | turns k n a b => exact .cons (.str _) (.cons (.int _) (.cons (.str _) .nil))
  | deff f n k a b => exact .cons (.str _) (.cons (.str _) (.cons (.str _) (.cons (.str _) .nil)))
  | use f a => exact .cons (.str _) (.cons (.str _) .nil)
  | un o a => exact .cons (.str _) .nil
theorem Tm.head_flat (t : Tm) : NestedKey.depthAll (t.head.map vk) = 0 := by
  cases t <;> rfl
theorem depthAll_snoc (k : NestedKey) : ∀ ks : List NestedKey, NestedKey.depthAll (ks ++ [k]) = max (NestedKey.depthAll ks) k.depth
  | [] => by show max k.depth 0 = max 0 k.depth; omega
  | a :: ks => by
    show max a.depth (NestedKey.depthAll (ks ++ [k])) = max (max a.depth (NestedKey.depthAll ks)) k.depth
    rw [depthAll_snoc k ks]
    omega
theorem Tm.part_deep {t u : Tm} (h : u ∈ t.parts) : u.deep < t.deep := by
  cases t <;> simp only [Tm.parts, List.mem_cons, List.not_mem_nil, or_false] at h <;> simp only [Tm.deep]
  all_goals first
    | exact h.elim
    | (rcases h with rfl | rfl | rfl <;> omega)
    | (rcases h with rfl | rfl <;> omega)
    | (subst h; omega)
theorem TmsAt.at {H : Hp} : ∀ {ts : List Tm} {vs : List V} {i : Nat} {v : V}, TmsAt H ts vs → vs[i]? = some v → ∃ t, ts[i]? = some t ∧ TmAt H t v
  | [], [], _, _, _, e => by simp at e
  | t :: ts, v :: vs, 0, _, ⟨h, _⟩, e => by
    simp only [List.getElem?_cons_zero, Option.some.injEq] at e
    subst e
    exact ⟨t, rfl, h⟩
  | t :: ts, v :: vs, i + 1, _, ⟨_, r⟩, e => by
    simp only [List.getElem?_cons_succ] at e
    obtain ⟨u, h1, h2⟩ := TmsAt.at r e
    exact ⟨u, by simpa using h1, h2⟩
  | [], _ :: _, _, _, h, _ => h.elim
  | _ :: _, [], _, _, h, _ => h.elim
theorem TmsAt.side {H : Hp} {ts : List Tm} {vs : List V} {side : Int} (h : TmsAt H ts vs) (ne : vs ≠ []) (hs : side = 0 ∨ side = -1) : ∃ u v, u ∈ ts ∧ atI vs side = some v ∧ TmAt H u v := by
  have hl : 0 < vs.length := List.length_pos_iff.mpr ne
  rcases hs with rfl | rfl
  · obtain ⟨t, e, ht⟩ := h.at (i := 0) (List.getElem?_eq_getElem hl)
    exact ⟨t, _, List.mem_of_getElem? e, atI_n (n := 0) rfl (List.getElem?_eq_getElem hl), ht⟩
  · have hk : vs.length - 1 < vs.length := by omega
    obtain ⟨t, e, ht⟩ := h.at (i := vs.length - 1) (List.getElem?_eq_getElem hk)
    refine ⟨t, _, List.mem_of_getElem? e, ?_, ht⟩
    unfold atI ixN
    rw [if_neg (by decide), if_pos (by omega), show (-1 + (vs.length : Int)).toNat = vs.length - 1 by omega]
    exact List.getElem?_eq_getElem hk
def spEdge : Sp := fun vs H Q _ => ∃ (t : Tm) (v : V) (side : Int), vs = [v, .int side] ∧ (side = 0 ∨ side = -1) ∧ TmAt H t v ∧ t.deep ≤ 60 ∧ ∀ (r : Addr) (H' : Hp) (k : NestedKey), Same H H' → KAt H' k (.ref r) → k.depth ≤ 2 → Q (.ref r) H'
def spEnds : Sp := fun vs H Q _ => ∃ (t : Tm) (v : V), vs = [v] ∧ TmAt H t v ∧ t.deep ≤ 60 ∧ ∀ (r : Addr) (H' : Hp) (k : NestedKey), Same H H' → KAt H' k (.ref r) → k.depth ≤ 8 → Q (.ref r) H'
abbrev s_edge_of : Stmt := topS 18
theorem sc_edge_of : FnScope ["term", "side", "heads", "parts"] ["term", "side"] (defScope s_edge_of) := ⟨rfl, rfl, rfl, by decide +kernel, rfl, by decide +kernel, by decide +kernel⟩
abbrev s_ends_of : Stmt := topS 17
theorem sc_ends_of : FnScope ["term"] ["term"] (defScope s_ends_of) := ⟨rfl, rfl, rfl, by decide +kernel, rfl, by decide +kernel, by decide +kernel⟩
section
variable {P : Program} {w : World} {K : PySem.W.Frag} {mg : Str → Option Value} {base : Heap} {pa f f1 f2 f3 f4 f5 f6 f7 f8 : Addr} {fd fd1 fd2 fd3 fd4 fd5 fd6 fd7 fd8 : FuncData}
theorem ok_edge_of (F : Fun K "edge_of" "edge_of" s_edge_of f fd) (T : Txt mg) (C_head_of : Cal P w K mg base "head_of" ["term"] 1 spHead f1 fd1) (C_parts_of : Cal P w K mg base "parts_of" ["term"] 1 spPartsOf f2 fd2) :
    FnOk P w K mg base CX0 2 f fd ["term", "side"] spEdge := by
  refine F.ok sc_edge_of (fun vs H Q E h => ?_) (fun cdv A outer s H vs Q E hr h => ?_)
  · obtain ⟨t, v, side, rfl, _⟩ := h
    rfl
  obtain ⟨t, v, side, rfl, hside, ht, h60, q⟩ := h
  refine ⟨_, (pss_cons (ps_set (i := 2) sc_edge_of.nd rfl (Or.inl rfl) (pe_lst (pa_cons (pe_call C_head_of.ok (hr.mono (by first | decide | omega)) rfl C_head_of.m C_head_of.kp C_head_of.b .nil pass0 (pa_cons (pv 0) pa_nil)) pa_nil)))
      (pss_cons (ps_set (i := 3) sc_edge_of.nd rfl (Or.inl rfl) (pe_call C_parts_of.ok (hr.mono (by first | decide | omega)) rfl C_parts_of.m C_parts_of.kp C_parts_of.b .nil pass0 (pa_cons (pv 0) pa_nil)))
      (pss_cons (ps_while PassesOwn.never (pt_truth (pv 3) (by intro _; rfl)) (pss_cons (ps_expr (pe_bm PySem.F.plainAttrs_list PySem.F.slot_list_append PySem.F.type_list_append mt_append (pv 2) (pa_cons (pe_call C_head_of.ok (hr.mono (by first | decide | omega)) rfl C_head_of.m C_head_of.kp C_head_of.b .nil pass0 (pa_cons (pe_ix ix_tup (pv 3) (pv 1) (fun _ _ => rfl)) pa_nil)) pa_nil)))
      (pss_one (ps_set (i := 3) sc_edge_of.nd rfl (Or.inl rfl) (pe_call C_parts_of.ok (hr.mono (by first | decide | omega)) rfl C_parts_of.m C_parts_of.kp C_parts_of.b .nil pass0 (pa_cons (pe_ix ix_tup (pv 3) (pv 1) (fun _ _ => rfl)) pa_nil))))))
      (pss_one (ps_ret (pe_callTy call_tuple_of (by rfl) T.tuple (by decide +kernel) (pa_cons (pv 2) pa_nil))))))), ?_⟩
  refine ⟨_, rfl, t, v, rfl, ht, fun r1 H1 e1 h1 => ⟨sz 1, fun l nl => ?_⟩⟩
  have l0 : H l = none := e1.free nl
  have s1 := same_new nl (.lst [V.ref r1])
  refine ⟨_, rfl, t, v, rfl, ht.mono (.of_same (e1.trans s1)), fun r2 ws H2 e2 h2 hws => ?_⟩
  refine ⟨fun m σ H' => ∃ (u : Tm) (ws : List V) (pr : Addr) (hs : List V) (ks : List NestedKey), σ = [some v, some (.int side), some (.ref l), some (.ref pr)] ∧ Same H H' ∧ H' l = some (.lst hs) ∧ KAll H' ks hs ∧ NestedKey.depthAll ks ≤ 1 ∧
      H' pr = some (.tup ws) ∧ TmsAt H' u.parts ws ∧ m = u.deep ∧ hs.length + u.deep ≤ 61, ?_, ?_⟩
  · refine ⟨_, t, ws, r2, [.ref r1], [.tup (t.head.map vk)], rfl, e1.trans (s1.trans e2), e2 _ _ upd_same, .cons (.tup (e2 _ _ (s1 _ _ h1)) (t.head_key _)) .nil, ?_, h2, hws, rfl, by show 1 + t.deep ≤ 61; omega⟩
    show max (NestedKey.depthAll (t.head.map vk) + 1) 0 ≤ 1
    rw [t.head_flat]
    decide
  rintro m σ H' ⟨u, us, pr, hs, ks, rfl, g, hl, hk, hd, hp, hu, rfl, hz⟩
  refine ⟨_, rfl, _, .inr (.inl ⟨us, SqT.of hp, rfl⟩), ite2 (fun c => ?_) fun c => ?_⟩
  · have ne : us ≠ [] := fun z => by rw [z] at c; cases c
    obtain ⟨u1, v1, hm, ha, hv⟩ := hu.side ne hside
    have dp := Tm.part_deep hm
    refine ⟨fun σ' H' => ∃ m', m' < u.deep ∧ ∃ (u : Tm) (ws : List V) (pr : Addr) (hs : List V) (ks : List NestedKey), σ' = [some v, some (.int side), some (.ref l), some (.ref pr)] ∧ Same H H' ∧ H' l = some (.lst hs) ∧ KAll H' ks hs ∧ NestedKey.depthAll ks ≤ 1 ∧
      H' pr = some (.tup ws) ∧ TmsAt H' u.parts ws ∧ m' = u.deep ∧ hs.length + u.deep ≤ 61, fun _ _ z => z, ?_⟩
    refine ⟨_, rfl, .inl ⟨rfl, _, SqL.of hl⟩, _, rfl, _, rfl, pr, _, _, v1, rfl, rfl, SqT.of hp, ha, u1, v1, rfl, hv, fun r3 H3 e3 h3 => ?_⟩
    refine ⟨l, _, _, rfl, rfl, e3 _ _ hl, small1000 (by omega), ?_⟩
    have g3 : Same H (upd H3 l (.lst (hs ++ [V.ref r3]))) := fun b o z => by
      rw [upd_ne (ne_of_none z l0)]
      exact e3 _ _ (g _ _ z)
    have t3 : Tups H3 (upd H3 l (.lst (hs ++ [V.ref r3]))) := fun b xs z => by
      rw [upd_ne (ne_of z (e3 _ _ hl) (by intro y; cases y))]
      exact z
    have t4 : Tups H' (upd H3 l (.lst (hs ++ [V.ref r3]))) := (Tups.of_same e3).trans t3
    have l3 : upd H3 l (.lst (hs ++ [V.ref r3])) l = some (.lst (hs ++ [V.ref r3])) := upd_same
    generalize upd H3 l (.lst (hs ++ [V.ref r3])) = H4 at g3 t3 t4 l3 ⊢
    refine ⟨_, rfl, _, rfl, pr, _, _, v1, rfl, rfl, SqT.of (t4 _ _ hp), ha, u1, v1, rfl, hv.mono t4, fun r5 ws5 H5 e5 h5 hw5 => ?_⟩
    refine ⟨_, dp, u1, ws5, r5, _, ks ++ [.tup (u1.head.map vk)], rfl, g3.trans e5, e5 _ _ l3, KAll.snoc (.tup (e5 _ _ (t3 _ _ h3)) (u1.head_key _)) (KAll.mono (t4.trans (.of_same e5)) _ _ hk), ?_, h5, hw5, rfl, ?_⟩
    · rw [depthAll_snoc]
      show max _ (NestedKey.depthAll (u1.head.map vk) + 1) ≤ 1
      rw [u1.head_flat]
      omega
    · rw [List.length_append, List.length_singleton]
      omega
  · refine ⟨_, rfl, l, _, rfl, .inl ⟨SqL.of hl, fun r nr => ?_⟩⟩
    have sr := same_new nr (.tup hs)
    refine q r _ (.tup ks) (g.trans sr) (.tup upd_same (KAll.mono (.of_same sr) _ _ hk)) ?_
    show NestedKey.depthAll ks + 1 ≤ 2
    omega
theorem ok_ends_of (F : Fun K "ends_of" "ends_of" s_ends_of f fd) (C_edge_of : Cal P w K mg base "edge_of" ["term", "side"] 2 spEdge f1 fd1) : FnOk P w K mg base CX0 3 f fd ["term"] spEnds := by
  refine F.ok sc_ends_of (fun vs H Q E h => ?_) (fun cdv A outer s H vs Q E hr h => ?_)
  · obtain ⟨t, v, rfl, _⟩ := h
    rfl
  obtain ⟨t, v, rfl, ht, h60, q⟩ := h
  refine ⟨_, (pss_one (ps_ret (pe_tup (pa_cons (pe_call C_edge_of.ok (hr.mono (by first | decide | omega)) rfl C_edge_of.m C_edge_of.kp C_edge_of.b .nil pass0 (pa_cons (pv 0) (pa_cons pe_int pa_nil))) (pa_cons (pe_call C_edge_of.ok (hr.mono (by first | decide | omega)) rfl C_edge_of.m C_edge_of.kp C_edge_of.b .nil pass0 (pa_cons (pv 0) (pa_cons (pe_un un_neg pe_int) pa_nil))) pa_nil))))), ?_⟩
  refine ⟨_, rfl, t, v, 0, rfl, .inl rfl, ht, h60, fun r1 H1 k1 e1 h1 d1 => ?_⟩
  refine ⟨_, rfl, _, rfl, t, v, -1, rfl, .inr rfl, ht.mono (.of_same e1), h60, fun r2 H2 k2 e2 h2 d2 => ⟨sz 2, fun r nr => ?_⟩⟩
  have sr := same_new nr (.tup [V.ref r1, .ref r2])
  refine q r _ (.tup [k1, k2]) (e1.trans (e2.trans sr)) (.tup upd_same (.cons (KAt.mono (.of_same (e2.trans sr)) _ _ h1) (.cons (KAt.mono (.of_same sr) _ _ h2) .nil))) ?_
  show max k1.depth (max k2.depth 0) + 1 ≤ 8
  omega
end

/-! ### the table of rows: what holds of it between two calls -/
def nats (ps : List Nat) : List V := ps.map fun (n : Nat) => V.int (n : Int)
theorem nats_snoc (ps : List Nat) (k : Nat) : nats ps ++ [.int (k : Int)] = nats (ps ++ [k]) := by
  unfold nats
  rw [List.map_append]
  rfl
/-- for each part the place of its row, ahead of i -/
def PlacesOf (ts : List Tm) (i : Nat) : List Tm → List Nat → Prop
  | [], [] => True
  | t :: r, p :: ps => (p < i ∧ ts[p]? = some t) ∧ PlacesOf ts i r ps
  | _, _ => False
theorem PlacesOf.mono {ts more : List Tm} {i j : Nat} (h : i ≤ j) : ∀ {r : List Tm} {ps : List Nat}, PlacesOf ts i r ps → PlacesOf (ts ++ more) j r ps
  | [], [], _ => True.intro
  | _ :: _, _ :: _, ⟨⟨a, b⟩, c⟩ => ⟨⟨Nat.lt_of_lt_of_le a h, List.getElem?_append_left (List.getElem?_eq_some_iff.mp b).1 ▸ b⟩, PlacesOf.mono h c⟩
  | [], _ :: _, h => h.elim
  | _ :: _, [], h => h.elim
theorem PlacesOf.snoc {ts : List Tm} {i p : Nat} {t : Tm} (h1 : p < i) (h2 : ts[p]? = some t) : ∀ {r : List Tm} {ps : List Nat}, PlacesOf ts i r ps → PlacesOf ts i (r ++ [t]) (ps ++ [p])
  | [], [], _ => ⟨⟨h1, h2⟩, True.intro⟩
  | _ :: _, _ :: _, ⟨a, c⟩ => ⟨a, PlacesOf.snoc h1 h2 c⟩
  | [], _ :: _, h => h.elim
  | _ :: _, [], h => h.elim
theorem PlacesOf.len {ts : List Tm} {i : Nat} : ∀ {r : List Tm} {ps : List Nat}, PlacesOf ts i r ps → ps.length = r.length
  | [], [], _ => rfl
  | _ :: _, _ :: _, ⟨_, c⟩ => congrArg (· + 1) (PlacesOf.len c)
  | [], _ :: _, h => h.elim
  | _ :: _, [], h => h.elim
theorem rk_ : ¬ (("rows" : Str) = "known") := by decide +kernel
theorem kr_ : ¬ (("known" : Str) = "rows") := by decide +kernel
def pf (R D : Addr) : List (Str × V) := putF "known" (.ref D) (putF "rows" (.ref R) [])
theorem pf_rows (R D : Addr) : (pf R D).lookup ("rows" : Str) = some (.ref R) := by
  unfold pf
  rw [lookup_putF, if_neg rk_, lookup_putF, if_pos rfl]
theorem pf_known (R D : Addr) : (pf R D).lookup ("known" : Str) = some (.ref D) := by
  unfold pf
  rw [lookup_putF, if_pos rfl]
theorem pf_no (R D : Addr) {m : Str} (h1 : ¬ m = "known") (h2 : ¬ m = "rows") : (pf R D).lookup m = none := by
  unfold pf
  rw [lookup_putF, if_neg h1, lookup_putF, if_neg h2]
  all_goals rfl
/-- rows of the terms ts in the list at R; the lists of places are among Ps -/
def RowsAt (H : Hp) (R : Addr) (ts : List Tm) (Ps : List Addr) : Prop := ∃ rs : List V, H R = some (.lst rs) ∧ rs.length = ts.length ∧ ∀ (i : Nat) (t : Tm), ts[i]? = some t →
  ∃ (r h pl : Addr) (ps : List Nat), rs[i]? = some (.ref r) ∧ H r = some (.tup [.ref h, .ref pl]) ∧ H h = some (.tup t.head) ∧ H pl = some (.lst (nats ps)) ∧ pl ∈ Ps ∧ PlacesOf ts i t.parts ps
/-- a list of pairs of a term and its place -/
def AlikeAt (H : Hp) (L : Addr) (ts : List Tm) : Prop := ∃ items : List V, H L = some (.lst items) ∧ items.length ≤ ts.length ∧ ∀ it ∈ items, ∃ (q : Addr) (v : V) (k : Nat) (t : Tm), it = .ref q ∧ H q = some (.tup [v, .int (k : Int)]) ∧ TmAt H t v ∧ t.Ok ∧ t.deep ≤ 60 ∧ ts[k]? = some t
structure Tab (P : Program) (w : World) (C : Addr) (H : Hp) (tb R D : Addr) (ts : List Tm) (Ls Ps : List Addr) (cnt : Nat) : Prop where
  ins : ∃ dx, H tb = some (.ins C dx (pf R D))
  rows : RowsAt H R ts Ps
  dict : ∃ xs : NE, IsNx P w H D xs ∧ xs.length ≤ cnt ∧ ∀ e ∈ xs, (KAt H e.1 (.ref e.2.1) ∧ e.1.depth ≤ 8) ∧ e.2.2 ∈ Ls
  alike : ∀ L ∈ Ls, AlikeAt H L ts
  plist : ∀ p ∈ Ps, ∃ ys, H p = some (.lst ys)
  nRL : R ∉ Ls
  nRP : R ∉ Ps
  nLP : ∀ L ∈ Ls, L ∉ Ps
/-- tuples stay, and the table's own lists -/
def Keeps (R : Addr) (Ls Ps : List Addr) (H H' : Hp) : Prop := ∀ b o, H b = some o → (b = R ∨ b ∈ Ls ∨ b ∈ Ps ∨ ∃ ys, o = .tup ys) → H' b = some o
section
variable {P : Program} {w : World} {C : Addr} {H H' H1 : Hp} {tb R D : Addr} {ts ts' : List Tm} {Ls Ps Ls' Ps' : List Addr} {cnt : Nat}
theorem Keeps.tups (e : Keeps R Ls Ps H H') : Tups H H' := fun b xs h => e b _ h (.inr (.inr (.inr ⟨_, rfl⟩)))
theorem AlikeAt.keep {L : Addr} (e : Keeps R Ls Ps H H') (hL : L ∈ Ls) (h : AlikeAt H L ts) : AlikeAt H' L ts := by
  obtain ⟨items, h1, h2, h3⟩ := h
  refine ⟨items, e _ _ h1 (.inr (.inl hL)), h2, fun it hit => ?_⟩
  obtain ⟨q, v, k, t, a, b, c, d⟩ := h3 it hit
  exact ⟨q, v, k, t, a, e.tups _ _ b, c.mono e.tups, d⟩
theorem RowsAt.keep (e : Keeps R Ls Ps H H') (h : RowsAt H R ts Ps) : RowsAt H' R ts Ps := by
  obtain ⟨rs, h1, h2, h3⟩ := h
  refine ⟨rs, e _ _ h1 (.inl rfl), h2, fun i t hi => ?_⟩
  obtain ⟨r, hh, pl, ps, a, b, c, d, m, p⟩ := h3 i t hi
  exact ⟨r, hh, pl, ps, a, e.tups _ _ b, e.tups _ _ c, e _ _ d (.inr (.inr (.inl m))), m, p⟩
theorem IsNx.keep {xs : NE} (h : IsNx P w H D xs) (e : ∀ o, H D = some o → H' D = some o) : IsNx P w H' D xs := by
  rcases h with h | ⟨h, z⟩
  · exact .inl (e _ h)
  · exact .inr ⟨e _ h, z⟩
theorem IsNx.some {xs : NE} (h : IsNx P w H D xs) : ∃ o, H D = some o ∧ (∀ ys, o ≠ .lst ys) ∧ (∀ ys, o ≠ .tup ys) ∧ ∀ c d f, o ≠ .ins c d f := by
  rcases h with h | ⟨h, _⟩
  · exact ⟨_, h, fun ys z => (by unfold rawD at z; cases z), fun ys z => (by unfold rawD at z; cases z), fun c d f z => (by unfold rawD at z; cases z)⟩
  · exact ⟨_, h, fun ys z => (by cases z), fun ys z => (by cases z), fun c d f z => (by cases z)⟩
theorem Tab.keep (e : Keeps R Ls Ps H H') (i : ∀ o, H tb = some o → H' tb = some o) (d : ∀ o, H D = some o → H' D = some o) (h : Tab P w C H tb R D ts Ls Ps cnt) : Tab P w C H' tb R D ts Ls Ps cnt := by
  obtain ⟨⟨dx, hi⟩, hr, ⟨xs, hd, hl, hx⟩, ha, hp, n1, n2, n3⟩ := h
  refine ⟨⟨dx, i _ hi⟩, hr.keep e, ⟨xs, hd.keep d, hl, fun x hm => ⟨⟨KAt.mono e.tups _ _ (hx x hm).1.1, (hx x hm).1.2⟩, (hx x hm).2⟩⟩, fun L hL => (ha L hL).keep e hL, fun p hm => ?_, n1, n2, n3⟩
  obtain ⟨ys, q⟩ := hp p hm
  exact ⟨ys, e _ _ q (.inr (.inr (.inl hm)))⟩
theorem Tab.more {c : Nat} (h : Tab P w C H tb R D ts Ls Ps cnt) (l : cnt ≤ c) : Tab P w C H tb R D ts Ls Ps c := by
  obtain ⟨hi, hr, ⟨xs, hd, hl, hx⟩, ha, hp, n1, n2, n3⟩ := h
  exact ⟨hi, hr, ⟨xs, hd, Nat.le_trans hl l, hx⟩, ha, hp, n1, n2, n3⟩
theorem Keeps.of_same (e : Same H H') : Keeps R Ls Ps H H' := fun b o h _ => e b o h
theorem Tab.same (e : Same H H') (h : Tab P w C H tb R D ts Ls Ps cnt) : Tab P w C H' tb R D ts Ls Ps cnt := h.keep (.of_same e) (fun o q => e _ o q) fun o q => e _ o q
/-- a list that is none of the table's is written -/
theorem Keeps.put {x : Addr} {ys zs : List V} (hx : H x = some (.lst ys)) (n1 : x ≠ R) (n2 : x ∉ Ls) (n3 : x ∉ Ps) : Keeps R Ls Ps H (upd H x (.lst zs)) := fun b o h q => by
  rw [upd_ne ?_]
  · exact h
  · rintro rfl
    rw [hx] at h
    cases h
    rcases q with q | q | q | q
    · exact n1 q
    · exact n2 q
    · exact n3 q
    · obtain ⟨_, z⟩ := q
      cases z
/-- behind some calls: the table has more rows, nothing else has changed but its own lists and dict -/
structure Step (P : Program) (w : World) (C tb R D : Addr) (H H' : Hp) (ts : List Tm) (Ls Ps : List Addr) (ts' : List Tm) (Ls' Ps' : List Addr) (cnt' : Nat) : Prop where
  tab : Tab P w C H' tb R D ts' Ls' Ps' cnt'
  pre : ∃ more, ts' = ts ++ more
  subL : ∀ L ∈ Ls, L ∈ Ls'
  frame : ∀ b o, H b = some o → b ≠ R → b ≠ D → b ∉ Ls → H' b = some o
  newL : ∀ b ∈ Ls', b ∈ Ls ∨ H b = none
  newP : ∀ b ∈ Ps', b ∈ Ps ∨ H b = none
theorem Step.refl (h : Tab P w C H tb R D ts Ls Ps cnt) : Step P w C tb R D H H ts Ls Ps ts Ls Ps cnt := ⟨h, ⟨[], by simp⟩, fun _ h => h, fun _ _ h _ _ _ => h, fun _ h => .inl h, fun _ h => .inl h⟩
/-- what is free behind was free ahead -/
theorem Step.free {x : Addr} (a : Step P w C tb R D H H1 ts Ls Ps ts' Ls' Ps' cnt) (q : H1 x = none) : H x = none := by
  cases e : H x with
  | none => rfl
  | some o =>
    by_cases hx : x ∈ Ls
    · obtain ⟨it, z, _⟩ := a.tab.alike x (a.subL x hx)
      rw [z] at q
      cases q
    by_cases hR : x = R
    · obtain ⟨rs, z, _⟩ := a.tab.rows
      rw [hR, z] at q
      cases q
    by_cases hD : x = D
    · obtain ⟨xs, z, _⟩ := a.tab.dict
      rcases z with z | ⟨z, _⟩ <;> rw [hD, z] at q <;> cases q
    rw [a.frame x o e hR hD hx] at q
    cases q
theorem Step.tups (T : Tab P w C H tb R D ts Ls Ps cnt) {c : Nat} (a : Step P w C tb R D H H1 ts Ls Ps ts' Ls' Ps' c) : Tups H H1 := fun b ys z => a.frame b _ z
  (fun y => by obtain ⟨rs, y1, _⟩ := T.rows; rw [y, y1] at z; cases z)
  (fun y => by obtain ⟨xs, hd, _⟩ := T.dict; obtain ⟨o, y1, _, y2, _⟩ := hd.some; rw [y, y1] at z; exact y2 _ (Option.some.inj z))
  (fun y => by obtain ⟨it, y1, _⟩ := T.alike _ y; rw [y1] at z; cases z)
theorem Step.trans {ts1 : List Tm} {Ls1 Ps1 : List Addr} {c1 c2 : Nat} (a : Step P w C tb R D H H1 ts Ls Ps ts1 Ls1 Ps1 c1) (b : Step P w C tb R D H1 H' ts1 Ls1 Ps1 ts' Ls' Ps' c2) : Step P w C tb R D H H' ts Ls Ps ts' Ls' Ps' c2 where
  tab := b.tab
  pre := by
    obtain ⟨m, e⟩ := a.pre
    obtain ⟨n, e'⟩ := b.pre
    exact ⟨m ++ n, by rw [e', e, List.append_assoc]⟩
  subL := fun L h => b.subL L (a.subL L h)
  frame := fun x o h n1 n2 n3 => b.frame x o (a.frame x o h n1 n2 n3) n1 n2 fun z => (a.newL x z).elim n3 fun q => by rw [h] at q; cases q
  newL := fun x h => (b.newL x h).elim (a.newL x) fun q => .inr (a.free q)
  newP := fun x h => (b.newP x h).elim (a.newP x) fun q => .inr (a.free q)
theorem Step.same (a : Step P w C tb R D H H1 ts Ls Ps ts' Ls' Ps' cnt) (e : Same H1 H') : Step P w C tb R D H H' ts Ls Ps ts' Ls' Ps' cnt :=
  ⟨a.tab.same e, a.pre, a.subL, fun b o h n1 n2 n3 => e _ _ (a.frame b o h n1 n2 n3), a.newL, a.newP⟩
theorem Step.more {c : Nat} (a : Step P w C tb R D H H1 ts Ls Ps ts' Ls' Ps' cnt) (l : cnt ≤ c) : Step P w C tb R D H H1 ts Ls Ps ts' Ls' Ps' c := ⟨a.tab.more l, a.pre, a.subL, a.frame, a.newL, a.newP⟩
/-- a list that is none of the table's and was not there is written -/
theorem Step.put {x : Addr} {ys zs : List V} (a : Step P w C tb R D H H1 ts Ls Ps ts' Ls' Ps' cnt) (hx : H1 x = some (.lst ys)) (h0 : H x = none) (n1 : x ≠ R) (n2 : x ∉ Ls') (n3 : x ∉ Ps') : Step P w C tb R D H (upd H1 x (.lst zs)) ts Ls Ps ts' Ls' Ps' cnt := by
  refine ⟨a.tab.keep (.put hx n1 n2 n3) (fun o q => ?_) (fun o q => ?_), a.pre, a.subL, fun b o h m1 m2 m3 => ?_, a.newL, a.newP⟩
  · obtain ⟨dx, z⟩ := a.tab.ins
    rw [upd_ne (ne_of z hx (by intro y; cases y))]
    exact q
  · obtain ⟨xs, z, _⟩ := a.tab.dict
    obtain ⟨o', z1, z2, _⟩ := z.some
    rw [upd_ne (ne_of z1 hx (z2 _))]
    exact q
  · rw [upd_ne (ne_of_none h h0)]
    exact a.frame b o h m1 m2 m3
end
/-- the terms behind a place_of: n calls, one within another -/
def spPlace (P : Program) (w : World) (C : Addr) (n : Nat) : Sp := fun vs H Q _ => ∃ (tb R D : Addr) (ts : List Tm) (Ls Ps : List Addr) (cnt : Nat) (t : Tm) (v : V), vs = [.ref tb, v] ∧ Tab P w C H tb R D ts Ls Ps cnt ∧ TmAt H t v ∧ t.Ok ∧ t.deep ≤ n ∧ t.deep ≤ 60 ∧
  ts.length + t.size ≤ 900000 ∧ cnt + t.size ≤ 900000 ∧
  ∀ (k : Nat) (ts' : List Tm) (Ls' Ps' : List Addr) (H' : Hp), Step P w C tb R D H H' ts Ls Ps ts' Ls' Ps' (cnt + t.size) → ts'.length ≤ ts.length + t.size → ts'[k]? = some t → (k < ts.length ∨ k + 1 = ts'.length) → (∀ u ∈ ts', u ∈ ts ∨ u.size ≤ t.size) → Q (.int (k : Int)) H'
abbrev s_TermTable_init : Stmt := inClass (topS 16) 0
theorem sc_TermTable_init : FnScope ["self"] ["self"] (defScope s_TermTable_init) := ⟨rfl, rfl, rfl, by decide +kernel, rfl, by decide +kernel, by decide +kernel⟩
abbrev s_TermTable_place_of : Stmt := inClass (topS 16) 1
theorem sc_TermTable_place_of : FnScope ["self", "term", "alike", "other", "place", "places", "part"] ["self", "term"] (defScope s_TermTable_place_of) := ⟨rfl, rfl, rfl, by decide +kernel, rfl, by decide +kernel, by decide +kernel⟩
abbrev s_rows_of : Stmt := topS 15
theorem sc_rows_of : FnScope ["term", "table"] ["term"] (defScope s_rows_of) := ⟨rfl, rfl, rfl, by decide +kernel, rfl, by decide +kernel, by decide +kernel⟩

structure TxtC (K : PySem.W.Frag) (C : Addr) : Prop where
  cl : Cls K C
  nR : NoAttr K C "rows"
  nK : NoAttr K C "known"
def spTabInit (P : Program) (w : World) (C : Addr) : Sp := fun vs H Q _ => ∃ (p dx : Addr), vs = [.ref p] ∧ H p = some (.ins C dx []) ∧
  ∀ (R D : Addr) (H' : Hp), (∀ b o, b ≠ p → H b = some o → H' b = some o) → Tab P w C H' p R D [] [] [] 0 → H R = none → H D = none → Q .non H'
section
variable {P : Program} {w : World} {K : PySem.W.Frag} {mg : Str → Option Value} {base : Heap} {pa C f f1 f2 f3 f4 f5 f6 f7 f8 : Addr} {fd fd1 fd2 fd3 fd4 fd5 fd6 fd7 fd8 : FuncData}
theorem ok_tab_init (F : Fun K "__init__" "TermTable.__init__" s_TermTable_init f fd) (TC : TxtC K C) : FnOk P w K mg base CX0 1 f fd ["self"] (spTabInit P w C) := by
  refine F.ok sc_TermTable_init (fun vs H Q E h => ?_) (fun cdv A outer s H vs Q E hr h => ?_)
  · obtain ⟨p, dx, rfl, _⟩ := h
    rfl
  obtain ⟨p, dx, rfl, hp, q⟩ := h
  refine ⟨_, (pss_cons (ps_fld (pv 0) (pe_lst pa_nil) rfl)
      (pss_one (ps_fld (pv 0) pe_dnewK rfl))), ?_⟩
  refine ⟨Nat.zero_le _, fun R nR => ?_⟩
  have npR : p ≠ R := ne_of_none hp nR
  refine ⟨_, rfl, p, C, dx, [], rfl, (by rw [upd_ne npR]; exact hp), TC.cl, TC.nR, (by show 0 < 1000; decide), fun D nD => ?_⟩
  have npD : p ≠ D := fun z => by rw [z, upd_same] at nD; cases nD
  have nRD : R ≠ D := fun z => by rw [z, upd_ne npD.symm, upd_same] at nD; cases nD
  have nD0 : H D = none := by
    rw [upd_ne npD.symm, upd_ne nRD.symm] at nD
    exact nD
  refine ⟨_, rfl, p, C, dx, _, rfl, (by rw [upd_ne npD]; exact upd_same), TC.cl, TC.nK, (by show 1 < 1000; decide), ?_⟩
  refine q R D _ (fun b o n e => ?_) ?_ nR nD0
  · rw [upd_ne n, upd_ne (ne_of_none e nD0), upd_ne n, upd_ne (ne_of_none e nR)]
    exact e
  · refine ⟨⟨dx, upd_same⟩, ⟨[], ?_, rfl, fun i t h => by simp at h⟩, ⟨[], .inr ⟨?_, rfl⟩, Nat.le_refl _, (fun e h => by cases h)⟩, (fun L h => by cases h), (fun L h => by cases h), (fun h => by cases h), (fun h => by cases h), (fun L h => by cases h)⟩
    · rw [upd_ne npR.symm, upd_ne nRD, upd_ne npR.symm, upd_same]
    · rw [upd_ne npD.symm, upd_same]
theorem ok_place {n : Nat} (F : Fun K "place_of" "TermTable.place_of" s_TermTable_place_of f fd) (T : Txt mg) (TC : TxtC K C)
    (C_ends_of : Cal P w K mg base "ends_of" ["term"] 3 spEnds f1 fd1) (C_head_of : Cal P w K mg base "head_of" ["term"] 1 spHead f2 fd2) (C_parts_of : Cal P w K mg base "parts_of" ["term"] 1 spPartsOf f3 fd3)
    (C_place_of : CalM P w K mg base C "place_of" ["self", "term"] (4 + n) (spPlace P w C n) f fd) : FnOk P w K mg base CX0 (4 + n + 1) f fd ["self", "term"] (spPlace P w C (n + 1)) := by
  refine F.ok sc_TermTable_place_of (fun vs H Q E h => ?_) (fun cdv A outer s H vs Q E hr h => ?_)
  · obtain ⟨tb, R, D, ts, Ls, Ps, cnt, t, v, rfl, _⟩ := h
    rfl
  obtain ⟨tb, R, D, ts, Ls, Ps, cnt, t, v, rfl, hT, ht, hok, hn, h60, hz1, hz2, q⟩ := h
  refine ⟨_, (pss_cut (ps_set (i := 2) sc_TermTable_place_of.nd rfl (Or.inl rfl) (pe_nsetd hr.units (pe_fld (pv 0) rfl) (pe_call C_ends_of.ok (hr.mono (by first | decide | omega)) rfl C_ends_of.m C_ends_of.kp C_ends_of.b .nil pass0 (pa_cons (pv 1) pa_nil)) (pe_lst pa_nil) ⟨rfl, rfl, rfl, rfl⟩))
      (pss_cons (ps_for PassesOwn.never rfl (pi_list (pv 2)) (pg_tup rfl (pgs_cons (pg_name (i := 3) sc_TermTable_place_of.nd rfl (Or.inl rfl)) (pgs_cons (pg_name (i := 4) sc_TermTable_place_of.nd rfl (Or.inl rfl)) pgs_nil))) (pss_one (ps_if (pt_cmpR (op_eqD hr.units) (pv 3) (pv 1) (nomark _)) (pss_one (ps_ret (pv 4))) pss_nil)))
      (pss_cons (ps_setLc (i := 5) (own := [("part", 6)]) (g := (gName 6)) (tt := tYes) (by rfl) sc_TermTable_place_of.nd rfl rfl (sw_true rfl rfl rfl (by decide +kernel)) (pi_tup (pe_call C_parts_of.ok (hr.mono (by first | decide | omega)) rfl C_parts_of.m C_parts_of.kp C_parts_of.b .nil pass0 (pa_cons (pv 1) pa_nil))) (blkOk_by (own := [("part", 6)]) (N := ["self", "term", "alike", "other", "place", "places", "part"]) (sc := defScope s_TermTable_place_of) (by decide +kernel)) (fun _ _ _ _ _ => (pg_name (i := 6) sc_TermTable_place_of.nd rfl (Or.inl rfl))) (fun _ _ _ _ _ => pts_nil) (fun _ _ _ _ _ => (pe_meth (pv 0) TC.cl C_place_of.m C_place_of.ok (hr.mono (by first | decide | omega)) C_place_of.b .nil pass0 (pa_cons (pv 6) pa_nil))))
      (pss_cons (ps_expr (pe_bm PySem.F.plainAttrs_list PySem.F.slot_list_append PySem.F.type_list_append mt_append (pe_fld (pv 0) rfl) (pa_cons (pe_tup (pa_cons (pe_call C_head_of.ok (hr.mono (by first | decide | omega)) rfl C_head_of.m C_head_of.kp C_head_of.b .nil pass0 (pa_cons (pv 1) pa_nil)) (pa_cons (pv 5) pa_nil))) pa_nil)))
      (pss_cons (ps_expr (pe_bm PySem.F.plainAttrs_list PySem.F.slot_list_append PySem.F.type_list_append mt_append (pv 2) (pa_cons (pe_tup (pa_cons (pv 1) (pa_cons (pe_op op_sub (pe_callB call_len_seq (by rfl) T.len PySem.boot_len (pa_cons (pe_fld (pv 0) rfl) pa_nil)) pe_int) pa_nil))) pa_nil)))
      (pss_one (ps_ret (pe_op op_sub (pe_callB call_len_seq (by rfl) T.len PySem.boot_len (pa_cons (pe_fld (pv 0) rfl) pa_nil)) pe_int)))))))), ?_⟩
  obtain ⟨dx, hi⟩ := hT.ins
  obtain ⟨xs, hd, hxl, hx⟩ := hT.dict
  have tpos : 1 ≤ t.size := by cases t <;> simp only [Tm.size] <;> omega
  -- alike = self.known.setdefault(ends_of(term), [])
  refine ⟨fun σ H' => ∃ (al : Addr) (Ls1 : List Addr), σ = [some (.ref tb), some v, some (.ref al), none, none, none, none] ∧ al ∈ Ls1 ∧ Step P w C tb R D H H' ts Ls Ps ts Ls1 Ps (cnt + 1), ?_, ?_⟩
  · refine ⟨_, rfl, tb, C, dx, _, _, rfl, hi, TC.cl, TC.nK, pf_known _ _, D, rfl, ⟨xs, hd⟩, _, rfl, t, v, rfl, ht, h60, fun r H1 k e1 hk hkd => ⟨Nat.zero_le _, fun L nL => ?_⟩⟩
    have s2 := same_new nL (.lst [])
    have e2 : Same H (upd H1 L (.lst [])) := e1.trans s2
    have L0 : H L = none := e1.free nL
    have l2 : upd H1 L (.lst []) L = some (.lst []) := upd_same
    have hk2 := KAt.mono (.of_same s2) _ _ hk
    generalize upd H1 L (.lst []) = H2 at e2 l2 hk2 ⊢
    have hd2 := hd.keep fun o z => e2 _ _ z
    refine ⟨xs, k, r, L, hd2, rfl, rfl, hk2, hkd, fun e he => ⟨KAt.mono (.of_same e2) _ _ (hx e he).1.1, (hx e he).1.2⟩, Nat.lt_of_le_of_lt hxl (Nat.lt_of_le_of_lt (by omega : cnt ≤ 900000) (by decide)), fun c b hm => ?_, ?_⟩
    · exact ⟨b, Ls, rfl, (hx _ hm).2, ((Step.refl hT).same e2).more (Nat.le_succ _)⟩
    · obtain ⟨od, z1, z2, z3, z4⟩ := hd2.some
      have T2 := hT.same e2
      have K3 : ∀ b o, b ≠ D → H2 b = some o → upd H2 D (rawD P w D (xs ++ [(k, r, L)])) b = some o := fun b o nb z => by rw [upd_ne nb]; exact z
      have k3 : Keeps R Ls Ps H2 (upd H2 D (rawD P w D (xs ++ [(k, r, L)]))) := fun b o z y => by
        refine K3 b o ?_ z
        rintro rfl
        rw [z1] at z
        cases z
        rcases y with y | y | y | ⟨ys, y⟩
        · obtain ⟨rs, y1, _⟩ := T2.rows
          rw [← y, z1] at y1
          exact z2 _ (Option.some.inj y1)
        · obtain ⟨it, y1, _⟩ := T2.alike _ y
          rw [z1] at y1
          exact z2 _ (Option.some.inj y1)
        · obtain ⟨it, y1⟩ := T2.plist _ y
          rw [z1] at y1
          exact z2 _ (Option.some.inj y1)
        · exact z3 _ y
      have nLD : L ≠ D := ne_of l2 z1 fun y => z2 _ y.symm
      refine ⟨L, L :: Ls, rfl, List.mem_cons_self, ⟨⟨?_, T2.rows.keep k3, ⟨_, .inl upd_same, by rw [List.length_append]; exact Nat.succ_le_succ hxl, fun e he => ?_⟩, fun L' hL' => ?_, fun p hp => ?_, ?_, T2.nRP, fun L' hL' hP => ?_⟩, ⟨[], by simp⟩, fun L' hL' => List.mem_cons_of_mem _ hL', fun b o z n1 n2 n3 => ?_, fun b hb => ?_, fun b hb => .inl hb⟩⟩
      · obtain ⟨dx', y⟩ := T2.ins
        exact ⟨dx', K3 _ _ (ne_of y z1 fun u => z4 _ _ _ u.symm) y⟩
      · rcases List.mem_append.mp he with he | he
        · exact ⟨⟨KAt.mono ((Tups.of_same e2).trans k3.tups) _ _ (hx e he).1.1, (hx e he).1.2⟩, List.mem_cons_of_mem _ (hx e he).2⟩
        · rw [List.mem_singleton.mp he]
          exact ⟨⟨KAt.mono k3.tups _ _ hk2, hkd⟩, List.mem_cons_self⟩
      · rcases List.mem_cons.mp hL' with rfl | hL'
        · exact ⟨[], K3 _ _ nLD l2, Nat.zero_le _, fun it h => by cases h⟩
        · exact (T2.alike L' hL').keep k3 hL'
      · obtain ⟨ys, y⟩ := T2.plist p hp
        exact ⟨ys, k3 _ _ y (.inr (.inr (.inl hp)))⟩
      · intro y
        rcases List.mem_cons.mp y with y | y
        · obtain ⟨rs, y1, _⟩ := hT.rows
          rw [y, L0] at y1
          cases y1
        · exact T2.nRL y
      · rcases List.mem_cons.mp hL' with rfl | hL'
        · obtain ⟨ys, y⟩ := hT.plist _ hP
          rw [L0] at y
          cases y
        · exact T2.nLP L' hL' hP
      · exact K3 _ _ n2 (e2 _ _ z)
      · rcases List.mem_cons.mp hb with rfl | hb
        · exact .inr L0
        · exact .inl hb
  rintro σ H1 ⟨al, Ls1, rfl, hal, st1⟩
  have ht1 : TmAt H1 t v := ht.mono (st1.tups hT)
  obtain ⟨items, hit, hil, hall⟩ := st1.tab.alike al hal
  -- for other, place in alike: if other == term: return place
  refine ⟨_, rfl, al, rfl, ⟨_, SqL.of hit⟩, for_list (K := K) (a := al) (xs := items) (fun i σ H' => H1 = H' ∧ ∃ o1 o2, σ = [some (.ref tb), some v, some (.ref al), o1, o2, none, none]) ⟨rfl, none, none, rfl⟩ (fun i σ H' _ z => by rw [← z.1]; exact SqL.of hit) ?_ ?_⟩
  · rintro i x σ H' hi' ⟨rfl, o1, o2, rfl⟩
    obtain ⟨qa, v', k, t', rfl, hq, ht', ok', d', hk'⟩ := hall x (List.mem_of_getElem? hi')
    refine ⟨qa, _, rfl, SqT.of hq, rfl, _, _, rfl, _, _, rfl, rfl, ?_⟩
    refine ⟨_, rfl, _, rfl, _, _, ht'.dp, ht1.dp, Tm.shaped ok' d', Tm.shaped hok h60, _, rfl, ite2 (fun c => ?_) fun c => ?_⟩
    · have e := Tm.data_eq _ _ c
      subst e
      exact ⟨_, rfl, q k ts Ls1 Ps H1 (st1.more (by omega)) (by omega) hk' (.inl (List.getElem?_eq_some_iff.mp hk').1) fun u hu => .inl hu⟩
    · exact ⟨rfl, _, _, rfl⟩
  rintro σ H' ⟨rfl, o1, o2, rfl⟩
  -- places = [self.place_of(part) for part in parts_of(term)]
  refine ⟨_, rfl, t, v, rfl, ht1, fun r ws H2 e2 hr2 hws => ⟨r, rfl, ⟨_, SqT.of hr2⟩, fun Dl nDl => ?_⟩⟩
  have st2 := st1.same e2
  have T2 := st2.tab
  have tz := t.size_parts
  have hwl := hws.len
  refine lc_tup (K := K) (a := r) (xs := ws) (fun i H' => ∃ (ts3 : List Tm) (Ls3 Ps3 : List Addr) (ps : List Nat), Step P w C tb R D H2 H' ts Ls1 Ps ts3 Ls3 Ps3 (cnt + 1 + sizes (t.parts.take i)) ∧ H' Dl = some (.lst (nats ps)) ∧
    PlacesOf ts3 ts3.length (t.parts.take i) ps ∧ ts3.length ≤ ts.length + sizes (t.parts.take i) ∧ (Dl ≠ R ∧ Dl ∉ Ls3 ∧ Dl ∉ Ps3) ∧ ∀ u ∈ ts3, u ∈ ts ∨ u.size ≤ t.size) ?_ (fun i H' _ z => ?_) ?_ ?_
  · refine ⟨ts, Ls1, Ps, [], ((Step.refl T2).same (same_new nDl _)).more (by rw [List.take_zero]; exact Nat.le_refl _), upd_same, by rw [List.take_zero]; exact True.intro, Nat.le_add_right _ _, ⟨?_, ?_, ?_⟩, fun u hu => .inl hu⟩
    · rintro rfl
      obtain ⟨rs, z, _⟩ := T2.rows
      rw [nDl] at z
      cases z
    · intro m
      obtain ⟨it, z, _⟩ := T2.alike _ m
      rw [nDl] at z
      cases z
    · intro m
      obtain ⟨it, z⟩ := T2.plist _ m
      rw [nDl] at z
      cases z
  · obtain ⟨ts3, Ls3, Ps3, ps, st3, _⟩ := z
    exact SqT.of (st3.tups T2 _ _ hr2)
  · rintro i x H' hi' ⟨ts3, Ls3, Ps3, ps, st3, hDl, hpl, hlen, ⟨n1, n2, n3⟩, hsub⟩
    obtain ⟨t', ht', hx'⟩ := hws.at hi'
    have hm := List.mem_of_getElem? ht'
    have dp := Tm.part_deep hm
    obtain ⟨dx3, hi3⟩ := st3.tab.ins
    have tk : t.parts.take (i + 1) = t.parts.take i ++ [t'] := by rw [List.take_add_one, ht']; rfl
    have zs := sizes_take t.parts (i + 1)
    rw [tk, sizes_snoc] at zs
    have pl := hpl.len
    have pl2 : (t.parts.take i).length ≤ 3 := Nat.le_trans (by rw [List.length_take]; exact Nat.min_le_right _ _) t.len_parts
    refine ⟨rfl, ?_⟩
    refine ⟨_, rfl, tb, dx3, _, rfl, hi3, pf_no _ _ (by decide +kernel) (by decide +kernel), _, rfl, tb, R, D, ts3, Ls3, Ps3, _, t', x, rfl, st3.tab, hx'.mono (st3.tups T2), hok.part hm, by omega, by omega, by omega, by omega, fun k ts4 Ls4 Ps4 H4 st4 l4 hk4 _ sub4 => ?_⟩
    have nD : Dl ≠ D := by
      obtain ⟨xs4, z, _⟩ := st3.tab.dict
      obtain ⟨o, y1, y2, _⟩ := z.some
      exact ne_of hDl y1 fun y => y2 _ y.symm
    have hDl4 := st4.frame _ _ hDl n1 nD n2
    have m2 : Dl ∉ Ls4 := fun z => (st4.newL _ z).elim n2 fun y => by rw [hDl] at y; cases y
    have m3 : Dl ∉ Ps4 := fun z => (st4.newP _ z).elim n3 fun y => by rw [hDl] at y; cases y
    obtain ⟨more, e4⟩ := st4.pre
    have hkl := (List.getElem?_eq_some_iff.mp hk4).1
    refine ⟨nats ps, hDl4, small1000 (by unfold nats; rw [List.length_map]; omega), ts4, Ls4, Ps4, ps ++ [k], ?_, ?_, ?_, ?_, ⟨n1, m2, m3⟩, fun u hu => (sub4 u hu).elim (hsub u) fun z => .inr (Nat.le_trans z (Tm.part_size hm))⟩
    · refine ((st3.trans st4).put hDl4 nDl n1 m2 m3).more ?_
      rw [tk, sizes_snoc]
      omega
    · rw [upd_same, nats_snoc]
    · rw [tk]
      refine PlacesOf.snoc hkl hk4 ?_
      rw [e4]
      exact hpl.mono (by rw [List.length_append]; omega)
    · rw [tk, sizes_snoc]
      omega
  rintro H3 ⟨ts3, Ls3, Ps3, ps, st3, hDl, hpl, hlen, ⟨n1, n2, n3⟩, hsub⟩
  rw [hwl, List.take_length] at st3 hpl hlen
  have st5 := st2.trans st3
  have ht3 : TmAt H3 t v := ht1.mono ((Tups.of_same e2).trans (st3.tups T2))
  have T3 := st5.tab
  obtain ⟨dx3, hi3⟩ := T3.ins
  obtain ⟨rs, hR, rl, hrs⟩ := T3.rows
  obtain ⟨its, hal3, il3, hall3⟩ := T3.alike al (st3.subL al hal)
  have hal' := st3.subL al hal
  obtain ⟨xs3, hd3, hxl3, hx3⟩ := T3.dict
  obtain ⟨od, d1, d2, d3, d4⟩ := hd3.some
  have nAR : al ≠ R := fun z => T3.nRL (z ▸ hal')
  have nAP : al ∉ Ps3 := T3.nLP al hal'
  have nAD : al ≠ Dl := fun z => n2 (z ▸ hal')
  have l9 : ts3.length < 900000 := by omega
  -- self.rows.append((head_of(term), places))
  refine ⟨_, rfl, tb, C, dx3, _, _, rfl, hi3, TC.cl, TC.nR, pf_rows _ _, .inl ⟨rfl, _, SqL.of hR⟩, _, rfl, t, v, rfl, ht3, fun h H4 e4 hh => ⟨_, rfl, sz 2, fun r5 nr5 => ?_⟩⟩
  have s5 := same_new nr5 (.tup [V.ref h, .ref Dl])
  have g5 : Same H3 (upd H4 r5 (.tup [V.ref h, .ref Dl])) := e4.trans s5
  have hr5 : upd H4 r5 (.tup [V.ref h, .ref Dl]) r5 = some (.tup [V.ref h, .ref Dl]) := upd_same
  have hh5 := s5 _ _ hh
  generalize upd H4 r5 (.tup [V.ref h, .ref Dl]) = H5 at g5 hr5 hh5 ⊢
  refine ⟨R, _, _, rfl, rfl, g5 _ _ hR, Nat.lt_of_lt_of_le (by rw [rl]; exact l9) (by decide), ?_⟩
  have k6 : ∀ b o, b ≠ R → H5 b = some o → upd H5 R (.lst (rs ++ [V.ref r5])) b = some o := fun b o nb z => by rw [upd_ne nb]; exact z
  have hR6 : upd H5 R (.lst (rs ++ [V.ref r5])) R = some (.lst (rs ++ [V.ref r5])) := upd_same
  generalize upd H5 R (.lst (rs ++ [V.ref r5])) = H6 at k6 hR6 ⊢
  have g6 : ∀ b o, b ≠ R → H3 b = some o → H6 b = some o := fun b o nb z => k6 b o nb (g5 b o z)
  have nTR : tb ≠ R := ne_of hi3 hR fun y => by cases y
  have al6 := g6 _ _ nAR hal3
  have hi6 := g6 _ _ nTR hi3
  -- alike.append((term, len(self.rows) - 1))
  refine ⟨_, rfl, .inl ⟨rfl, _, SqL.of al6⟩, _, rfl, _, rfl, tb, C, dx3, _, _, rfl, hi6, TC.cl, TC.nR, pf_rows _ _, R, _, rfl, .inl (SqL.of hR6), _, _, rfl, rfl, sz 2, fun qa nq => ?_⟩
  have ek : V.int ((((rs ++ [V.ref r5]).length : Nat) : Int) - 1) = V.int ((ts3.length : Nat) : Int) := congrArg V.int (by rw [List.length_append, List.length_singleton, rl]; omega)
  dsimp only
  rw [ek]
  have s7 := same_new nq (.tup [v, V.int ((ts3.length : Nat) : Int)])
  have hq7 : upd H6 qa (.tup [v, V.int ((ts3.length : Nat) : Int)]) qa = some (.tup [v, V.int ((ts3.length : Nat) : Int)]) := upd_same
  generalize upd H6 qa (.tup [v, V.int ((ts3.length : Nat) : Int)]) = H7 at s7 hq7 ⊢
  refine ⟨al, _, _, rfl, rfl, s7 _ _ al6, Nat.lt_of_le_of_lt il3 (Nat.lt_of_lt_of_le l9 (by decide)), ?_⟩
  have k8 : ∀ b o, b ≠ al → H7 b = some o → upd H7 al (.lst (its ++ [V.ref qa])) b = some o := fun b o nb z => by rw [upd_ne nb]; exact z
  have al8 : upd H7 al (.lst (its ++ [V.ref qa])) al = some (.lst (its ++ [V.ref qa])) := upd_same
  generalize upd H7 al (.lst (its ++ [V.ref qa])) = H8 at k8 al8 ⊢
  have g8 : ∀ b o, b ≠ R → b ≠ al → H3 b = some o → H8 b = some o := fun b o n1 n2 z => k8 b o n2 (s7 _ _ (g6 b o n1 z))
  have t8 : Tups H3 H8 := fun b ys z => g8 b _ (ne_of z hR fun y => by cases y) (ne_of z hal3 fun y => by cases y) z
  have hR8 := k8 _ _ nAR.symm (s7 _ _ hR6)
  have hi8 := g8 _ _ nTR (ne_of hi3 hal3 fun y => by cases y) hi3
  refine ⟨_, rfl, tb, C, dx3, _, _, rfl, hi8, TC.cl, TC.nR, pf_rows _ _, R, _, rfl, .inl (SqL.of hR8), _, _, rfl, rfl, ?_⟩
  show Q (V.int ((((rs ++ [V.ref r5]).length : Nat) : Int) - 1)) H8
  rw [ek]
  have nDlR : Dl ≠ R := n1
  have hDl8 := g8 _ _ n1 nAD.symm hDl
  have pt : ∀ {i j : Nat} {r : List Tm} {ps : List Nat}, i ≤ j → PlacesOf ts3 i r ps → PlacesOf (ts3 ++ [t]) j r ps := fun h z => z.mono h
  have ix : ∀ {k : Nat} {u : Tm}, ts3[k]? = some u → (ts3 ++ [t])[k]? = some u := fun {k u} z => by rw [List.getElem?_append_left (List.getElem?_eq_some_iff.mp z).1]; exact z
  have last : (ts3 ++ [t])[ts3.length]? = some t := by rw [List.getElem?_append_right (Nat.le_refl _), Nat.sub_self]; rfl
  have h58 : ∀ {b : Addr} {ys : List V}, H5 b = some (.tup ys) → H8 b = some (.tup ys) := fun {b ys} z => k8 _ _ (ne_of z (g5 _ _ hal3) fun y => by cases y) (s7 _ _ (k6 _ _ (ne_of z (g5 _ _ hR) fun y => by cases y) z))
  refine q ts3.length (ts3 ++ [t]) Ls3 (Dl :: Ps3) H8 ⟨⟨⟨dx3, hi8⟩, ⟨_, hR8, by rw [List.length_append, List.length_append, rl]; rfl, fun i u hu => ?_⟩, ⟨xs3, hd3.keep fun o z => ?_, ?_, fun e he => ⟨⟨KAt.mono t8 _ _ (hx3 e he).1.1, (hx3 e he).1.2⟩, (hx3 e he).2⟩⟩, fun L hL => ?_, fun p hp => ?_, T3.nRL, ?_, fun L hL hP => ?_⟩, ?_, fun L hL => st5.subL L hL, fun b o z m1 m2 m3 => ?_, st5.newL, fun b hb => ?_⟩ ?_ last (.inr (by rw [List.length_append]; rfl)) fun u hu => (List.mem_append.mp hu).elim (hsub u) fun z => .inr (by rw [List.mem_singleton.mp z]; exact Nat.le_refl _)
  · by_cases hi3' : i < ts3.length
    · rw [List.getElem?_append_left hi3'] at hu
      obtain ⟨r0, h0, pl0, ps0, a1, a2, a3, a4, a5, a6⟩ := hrs i u hu
      refine ⟨r0, h0, pl0, ps0, by rw [List.getElem?_append_left (by rw [rl]; exact hi3')]; exact a1, t8 _ _ a2, t8 _ _ a3, g8 _ _ (fun z => T3.nRP (z ▸ a5)) (fun z => nAP (z ▸ a5)) a4, List.mem_cons_of_mem _ a5, pt (Nat.le_refl _) a6⟩
    · have hlt := (List.getElem?_eq_some_iff.mp hu).1
      rw [List.length_append, List.length_singleton] at hlt
      obtain rfl : i = ts3.length := by omega
      rw [last] at hu
      cases hu
      refine ⟨r5, h, Dl, ps, by rw [List.getElem?_append_right (by rw [rl]; exact Nat.le_refl _), rl, Nat.sub_self]; rfl, h58 hr5, h58 hh5, hDl8, List.mem_cons_self, pt (Nat.le_refl _) hpl⟩
  · rw [d1] at z
    cases z
    exact g8 _ _ (ne_of d1 hR (d2 _)) (ne_of d1 hal3 (d2 _)) d1
  · omega
  · by_cases hLa : L = al
    · subst hLa
      refine ⟨_, al8, by rw [List.length_append, List.length_append]; exact Nat.succ_le_succ il3, fun it hit => ?_⟩
      rcases List.mem_append.mp hit with hit | hit
      · obtain ⟨q0, v0, k0, t0, b1, b2, b3, b4, b5, b6⟩ := hall3 it hit
        exact ⟨q0, v0, k0, t0, b1, t8 _ _ b2, b3.mono t8, b4, b5, ix b6⟩
      · rw [List.mem_singleton.mp hit]
        exact ⟨qa, v, ts3.length, t, rfl, k8 _ _ (ne_of hq7 (s7 _ _ al6) fun y => by cases y) hq7, ht3.mono t8, hok, h60, last⟩
    · obtain ⟨it0, c1, c2, c3⟩ := T3.alike L hL
      refine ⟨it0, g8 _ _ (fun z => T3.nRL (z ▸ hL)) hLa c1, by rw [List.length_append]; exact Nat.le_succ_of_le c2, fun it hit => ?_⟩
      obtain ⟨q0, v0, k0, t0, b1, b2, b3, b4, b5, b6⟩ := c3 it hit
      exact ⟨q0, v0, k0, t0, b1, t8 _ _ b2, b3.mono t8, b4, b5, ix b6⟩
  · rcases List.mem_cons.mp hp with rfl | hp
    · exact ⟨_, hDl8⟩
    · obtain ⟨ys, y⟩ := T3.plist p hp
      exact ⟨ys, g8 _ _ (fun z => T3.nRP (z ▸ hp)) (fun z => nAP (z ▸ hp)) y⟩
  · intro z
    rcases List.mem_cons.mp z with z | z
    · exact n1 z.symm
    · exact T3.nRP z
  · rcases List.mem_cons.mp hP with rfl | hP
    · exact n2 hL
    · exact T3.nLP L hL hP
  · obtain ⟨more, e⟩ := st5.pre
    exact ⟨more ++ [t], by rw [e, List.append_assoc]⟩
  · have z3 := st5.frame b o z m1 m2 m3
    by_cases hba : b = al
    · subst hba
      rcases st5.newL _ hal' with y | y
      · exact absurd y m3
      · rw [z] at y
        cases y
    · exact g8 b o m1 hba z3
  · rcases List.mem_cons.mp hb with rfl | hb
    · exact .inr (st2.free nDl)
    · exact st5.newP b hb
  · rw [List.length_append, List.length_singleton]
    omega
end

/-! ### rows_of -/
def spRows : Sp := fun vs H Q _ => ∃ (t : Tm) (v : V), vs = [v] ∧ TmAt H t v ∧ t.Ok ∧ t.deep ≤ 60 ∧ t.size ≤ 900000 ∧
  ∀ (R : Addr) (ts : List Tm) (Ps : List Addr) (H' : Hp), Same H H' → RowsAt H' R ts Ps → H R = none → (∀ p ∈ Ps, H p = none) → ts.length ≤ t.size → (∃ more, ts = more ++ [t]) → (∀ u ∈ ts, u.size ≤ t.size) → Q (.ref R) H'
theorem last_split {ts : List Tm} {k : Nat} {t : Tm} (h : ts[k]? = some t) (m : k + 1 = ts.length) : ∃ more, ts = more ++ [t] := by
  obtain ⟨h1, h2⟩ := List.getElem?_eq_some_iff.mp h
  refine ⟨ts.take k, ?_⟩
  have e := List.take_succ_eq_append_getElem h1
  rw [m, List.take_length, h2] at e
  exact e
theorem nats_map (ns : List Nat) : nats ns = (ns.map fun (n : Nat) => (n : Int)).map V.int := by
  unfold nats
  rw [List.map_map]
  rfl
section
variable {P : Program} {w : World} {K : PySem.W.Frag} {mg : Str → Option Value} {base : Heap} {pa C f f1 f2 f3 f4 f5 f6 f7 f8 : Addr} {fd fd1 fd2 fd3 fd4 fd5 fd6 fd7 fd8 : FuncData}
theorem ok_rows_of (F : Fun K "rows_of" "rows_of" s_rows_of f fd) (TC : TxtC K C) (MK_TermTable : CalC P w K mg base "TermTable" C ["self"] 1 (spTabInit P w C) f1 fd1)
    (C_place_of : CalM P w K mg base C "place_of" ["self", "term"] 64 (spPlace P w C 60) f2 fd2) : FnOk P w K mg base CX0 65 f fd ["term"] spRows := by
  refine F.ok sc_rows_of (fun vs H Q E h => ?_) (fun cdv A outer s H vs Q E hr h => ?_)
  · obtain ⟨t, v, rfl, _⟩ := h
    rfl
  obtain ⟨t, v, rfl, ht, hok, h60, hz, q⟩ := h
  refine ⟨_, (pss_cons (ps_set (i := 1) sc_rows_of.nd rfl (Or.inl rfl) (pe_make0 MK_TermTable.mkr MK_TermTable.ok (hr.mono (by first | decide | omega)) rfl MK_TermTable.m MK_TermTable.b .nil pass0))
      (pss_cons (ps_expr (pe_meth (pv 1) TC.cl C_place_of.m C_place_of.ok (hr.mono (by first | decide | omega)) C_place_of.b .nil pass0 (pa_cons (pv 0) pa_nil)))
      (pss_one (ps_ret (pe_fld (pv 1) rfl))))), ?_⟩
  intro x dx nx ndx nex
  refine ⟨x, dx, rfl, upd_same, fun R D H1 k1 T1 nR nD => ⟨rfl, ?_⟩⟩
  have e1 : Same H H1 := fun b o z => k1 b o (ne_of_none z nx) (by rw [upd_ne (ne_of_none z nx), upd_ne (ne_of_none z ndx)]; exact z)
  have nR0 : H R = none := by
    cases z : H R with
    | none => rfl
    | some o =>
      rw [upd_ne (ne_of_none z nx), upd_ne (ne_of_none z ndx), z] at nR
      cases nR
  have nD0 : H D = none := by
    cases z : H D with
    | none => rfl
    | some o =>
      rw [upd_ne (ne_of_none z nx), upd_ne (ne_of_none z ndx), z] at nD
      cases nD
  obtain ⟨dx1, hi1⟩ := T1.ins
  refine ⟨_, rfl, x, dx1, _, rfl, hi1, pf_no _ _ (by decide +kernel) (by decide +kernel), _, rfl, x, R, D, [], [], [], 0, t, v, rfl, T1, ht.mono (.of_same e1), hok, h60, h60, by show 0 + t.size ≤ 900000; omega, by omega, fun k ts' Ls' Ps' H2 st l hk last subs => ?_⟩
  obtain ⟨dx2, hi2⟩ := st.tab.ins
  refine ⟨_, rfl, x, C, dx2, _, _, rfl, hi2, TC.cl, TC.nR, pf_rows _ _, ?_⟩
  refine q R ts' Ps' H2 (fun b o z => st.frame b o (e1 _ _ z) (ne_of_none z nR0) (ne_of_none z nD0) (fun m => by cases m)) st.tab.rows nR0 (fun p hp => ?_) (by simpa using l) ?_ fun u hu => (subs u hu).elim (fun z => by cases z) id
  · rcases st.newP p hp with m | m
    · cases m
    · cases z : H p with
      | none => rfl
      | some o =>
        rw [e1 _ _ z] at m
        cases m
  · rcases last with m | m
    · exact absurd m (Nat.not_lt_zero _)
    · exact last_split hk m
/-- what stands at the places of the parts -/
theorem PlacesOf.at {ts : List Tm} {i : Nat} : ∀ {r : List Tm} {ps : List Nat} {j p : Nat}, PlacesOf ts i r ps → ps[j]? = some p → ∃ u, r[j]? = some u ∧ p < i ∧ ts[p]? = some u
  | [], [], _, _, _, e => by simp at e
  | t :: r, q :: ps, 0, _, ⟨h, _⟩, e => by
    simp only [List.getElem?_cons_zero, Option.some.injEq] at e
    subst e
    exact ⟨t, rfl, h⟩
  | t :: r, q :: ps, j + 1, _, ⟨_, h⟩, e => by
    simp only [List.getElem?_cons_succ] at e
    obtain ⟨u, h1, h2⟩ := PlacesOf.at h e
    exact ⟨u, by simpa using h1, h2⟩
  | [], _ :: _, _, _, h, _ => h.elim
  | _ :: _, [], _, _, h, _ => h.elim
theorem sz9 {n : Nat} (h : n ≤ 900000) : n < sizeLine := Nat.lt_of_le_of_lt h (by decide)
/-- a list of no one else's is written: the rows stay -/
theorem RowsAt.put {H : Hp} {R S : Addr} {ts : List Tm} {Ps : List Addr} {ys zs : List V} (h : RowsAt H R ts Ps) (hS : H S = some (.lst ys)) (nR : S ≠ R) (nP : S ∉ Ps) : RowsAt (upd H S (.lst zs)) R ts Ps :=
  h.keep (Keeps.put (Ls := []) hS nR (fun m => by cases m) nP)
end

/-! ### max(ints, default=d) -/
def maxOf (d : Int) : List Int → Int
  | [] => d
  | n :: r => r.foldl max n
def rMaxD (K : PySem.W.Frag) : List V → List V → Hp → VK → Prop := fun vs zs H Q => ∃ (a : Addr) (ns : List Int) (d : Int), vs = [.ref a] ∧ zs = [.int d] ∧ SqL K H a (ns.map V.int) ∧ Q (.int (maxOf d ns)) H
section
theorem reads_ints {h : Heap} : ∀ {ns : List Int} {its : List Value}, Vals (ns.map V.int) its → ReadsAll h its (ns.map PyData.int) (([] : List Addr))
  | [], _, r => by cases r; exact .nil
  | n :: ns, _, r => by
    cases r with
    | cons r1 r2 =>
      obtain ⟨t, rfl⟩ := r1
      exact ReadsAll.cons (as := []) (bs := []) (Reads.int n t) (reads_ints r2)
theorem alike_ints (ns : List Int) : PySem.W.AlikeAll (ns.map PyData.int) := by
  refine ⟨fun x hx y hy => ?_, fun x hx => ?_⟩
  · obtain ⟨i, _, rfl⟩ := List.mem_map.mp hx
    obtain ⟨j, _, rfl⟩ := List.mem_map.mp hy
    rfl
  · obtain ⟨i, _, rfl⟩ := List.mem_map.mp hx
    intro z
    cases z
theorem depth_ints : ∀ ns : List Int, PyData.depthAll (ns.map PyData.int) = 0
  | [] => rfl
  | n :: ns => by show max 0 (PyData.depthAll (ns.map PyData.int)) = 0; rw [depth_ints ns]; rfl
variable {X : Cx}
theorem cr_maxD (hc : X.calm = true) (hu : X.A.units + 64 < cLine) : CallRK X (.builtin "max") ["default"] (rMaxD X.K) := by
  intro pins s σ H vs zs us ws Q I r1 r2 h
  obtain ⟨a, ns, d, rfl, rfl, hs, q⟩ := h
  obtain ⟨its, rv, ⟨o, n, ho, hcl, hdi, hda⟩, _⟩ := I.list hs
  rw [Vals.ref1 r1]
  match ws, r2 with
  | [_], .cons ⟨t, rfl⟩ .nil =>
    refine PySem.W.max_list_default (vs := its.toArray) (xs := ns.map PyData.int) (as := []) (I.ok.hd hc) ⟨o, ho, hcl, n, hda⟩ (by rw [List.toList_toArray]; exact reads_ints rv) (alike_ints ns) (by rw [depth_ints]; omega) (fun e h' tk hk => ?_) fun y ys i v h' tk bs e hv hr hk => ?_
    · cases ns with
      | nil => exact ⟨.int _, H, I.kept hk, ⟨_, rfl⟩, q⟩
      | cons n r => cases e
    · cases ns with
      | nil => cases e
      | cons n r =>
        rw [List.map_cons] at e
        injection e with e1 e2
        subst e1 e2
        rw [PySem.W.maxD_ints] at hr
        cases hr
        exact ⟨.int _, H, I.kept hk, ⟨_, rfl⟩, q⟩
end

/-! ### size_of -/
def spSize : Sp := fun vs H Q _ => ∃ (t : Tm) (v : V), vs = [v] ∧ TmAt H t v ∧ t.Ok ∧ t.deep ≤ 60 ∧ t.size ≤ 900000 ∧ ∀ H' : Hp, Same H H' → Q (.int (t.size : Int)) H'
def spDepth : Sp := fun vs H Q _ => ∃ (t : Tm) (v : V), vs = [v] ∧ TmAt H t v ∧ t.Ok ∧ t.deep ≤ 60 ∧ t.size ≤ 900000 ∧ ∀ H' : Hp, Same H H' → Q (.int (t.deep : Int)) H'
abbrev s_size_of : Stmt := topS 8
theorem sc_size_of : FnScope ["term", "sizes", "_", "places", "place"] ["term"] (defScope s_size_of) := ⟨rfl, rfl, rfl, by decide +kernel, rfl, by decide +kernel, by decide +kernel⟩
abbrev s_depth_of : Stmt := topS 9
theorem sc_depth_of : FnScope ["term", "depths", "_", "places", "place"] ["term"] (defScope s_depth_of) := ⟨rfl, rfl, rfl, by decide +kernel, rfl, by decide +kernel, by decide +kernel⟩
section
variable {P : Program} {w : World} {K : PySem.W.Frag} {mg : Str → Option Value} {base : Heap} {pa C f f1 f2 f3 f4 f5 f6 f7 f8 : Addr} {fd fd1 fd2 fd3 fd4 fd5 fd6 fd7 fd8 : FuncData}
theorem nat_sum : ∀ (ns : List Nat), ((ns.map fun (n : Nat) => (n : Int))).sum = ((ns.sum : Nat) : Int)
  | [] => rfl
  | n :: r => by rw [List.map_cons, List.sum_cons, nat_sum r, List.sum_cons]; omega
theorem ok_size_of (F : Fun K "size_of" "size_of" s_size_of f fd) (T : Txt mg) (C_rows_of : Cal P w K mg base "rows_of" ["term"] 65 spRows f1 fd1) : FnOk P w K mg base CX0 66 f fd ["term"] spSize := by
  refine F.ok sc_size_of (fun vs H Q E h => ?_) (fun cdv A outer s H vs Q E hr h => ?_)
  · obtain ⟨t, v, rfl, _⟩ := h
    rfl
  obtain ⟨t, v, rfl, ht, hok, h60, hz, q⟩ := h
  refine ⟨_, (pss_cons (ps_set (i := 1) sc_size_of.nd rfl (Or.inr rfl) (pe_lst pa_nil))
      (pss_cons (ps_for PassesOwn.never rfl (pi_list (pe_call C_rows_of.ok (hr.mono (by first | decide | omega)) rfl C_rows_of.m C_rows_of.kp C_rows_of.b .nil pass0 (pa_cons (pv 0) pa_nil))) (pg_tup rfl (pgs_cons (pg_name (i := 2) sc_size_of.nd rfl (Or.inl rfl)) (pgs_cons (pg_name (i := 3) sc_size_of.nd rfl (Or.inl rfl)) pgs_nil))) (pss_one (ps_expr (pe_bm PySem.F.plainAttrs_list PySem.F.slot_list_append PySem.F.type_list_append mt_append (pv 1) (pa_cons (pe_op op_add pe_int (pe_callB (cr_sum rfl) (by rfl) T.sum (by decide +kernel) (pa_cons (pe_lc (own := [("place", 4)]) (g := (gName 4)) (tt := tYes) (by rfl) sc_size_of.nd (pi_list (pv 3)) (blkOk_by (own := [("place", 4)]) (N := ["term", "sizes", "_", "places", "place"]) (sc := defScope s_size_of) (by decide +kernel)) (fun _ _ _ _ _ => (pg_name (i := 4) sc_size_of.nd rfl (Or.inl rfl))) (fun _ _ _ _ _ => pts_nil) (fun _ _ _ _ _ => (pe_ix (r := rIxL K) ix_list (pv 1) (pv 4) (fun _ _ => rfl)))) pa_nil))) pa_nil)))))
      (pss_one (ps_ret (pe_ix ix_list (pv 1) (pe_un un_neg pe_int) (fun _ _ => rfl)))))), ?_⟩
  refine ⟨Nat.zero_le _, fun S nS => ?_⟩
  have sS := same_new nS (.lst [])
  refine ⟨_, rfl, t, v, rfl, ht.mono (.of_same sS), hok, h60, hz, fun R ts Ps H2 e2 hrows nR nP hl hlast _ => ?_⟩
  have hS2 := e2 _ _ (show upd H S (.lst []) S = some (.lst []) from upd_same)
  have nSR : S ≠ R := fun z => by rw [← z, upd_same] at nR; cases nR
  have nSP : S ∉ Ps := fun m => by have z := nP _ m; rw [upd_same] at z; cases z
  obtain ⟨rs, hR, rl, hrs⟩ := id hrows
  refine ⟨R, rfl, ⟨_, SqL.of hR⟩, for_list (K := K) (a := R) (xs := rs) (fun i σ H' => ∃ o1 o2 : Option V, σ = [some v, some (.ref S), o1, o2, none] ∧ Same H H' ∧ RowsAt H' R ts Ps ∧ H' R = some (.lst rs) ∧ H' S = some (.lst (nats ((ts.take i).map Tm.size))))
    ⟨none, none, rfl, sS.trans e2, hrows, hR, hS2⟩ (fun i σ H' _ ⟨_, _, _, _, _, z, _⟩ => SqL.of z) ?_ ?_⟩
  · rintro i x σ H' hi ⟨o1, o2, rfl, g, hrows', hR', hS'⟩
    have hil : i < ts.length := by
      have z := (List.getElem?_eq_some_iff.mp hi).1
      rw [rl] at z
      exact z
    obtain ⟨rs', hR'', _, hrs'⟩ := id hrows'
    rw [hR'] at hR''
    cases hR''
    obtain ⟨r, h, pl, ps, a1, a2, a3, a4, a5, a6⟩ := hrs' i _ (List.getElem?_eq_getElem hil)
    rw [hi] at a1
    cases a1
    have psl : ps.length ≤ 3 := by rw [a6.len]; exact Tm.len_parts _
    refine ⟨r, _, rfl, SqT.of a2, rfl, _, _, rfl, _, _, rfl, rfl, ?_⟩
    refine ⟨_, rfl, .inl ⟨rfl, _, SqL.of hS'⟩, _, rfl, pl, rfl, ⟨_, SqL.of a4⟩, fun D nD => ?_⟩
    refine lc_list (K := K) (a := pl) (xs := nats ps) (fun j H3 => Same H' H3 ∧ H3 D = some (.lst (nats ((ts[i].parts.take j).map Tm.size)))) ⟨same_new nD _, by rw [List.take_zero]; exact upd_same⟩ (fun j H3 _ z => SqL.of (z.1 _ _ a4)) ?_ ?_
    · rintro j y H3 hj ⟨g3, hD⟩
      unfold nats at hj
      rw [List.getElem?_map] at hj
      obtain ⟨p, hp⟩ : ∃ p, ps[j]? = some p := by
        cases z : ps[j]? with
        | none => rw [z] at hj; cases hj
        | some p => exact ⟨p, rfl⟩
      rw [hp] at hj
      cases hj
      obtain ⟨u, u1, u2, u3⟩ := a6.at hp
      have at9 : atI (nats ((ts.take i).map Tm.size)) (p : Int) = some (.int (u.size : Int)) := by
        refine atI_nat ?_
        unfold nats
        rw [List.map_map, List.getElem?_map, List.getElem?_take_of_lt u2, u3]
        rfl
      have jl : j < ps.length := (List.getElem?_eq_some_iff.mp hp).1
      refine ⟨rfl, _, rfl, _, rfl, S, _, _, _, rfl, rfl, SqL.of (g3 _ _ hS'), at9, _, hD, small1000 (by unfold nats; rw [List.length_map, List.length_map, List.length_take]; omega), fun b o z => ?_, ?_⟩
      · rw [upd_ne (ne_of_none z nD)]
        exact g3 b o z
      · rw [upd_same, nats_snoc, List.take_add_one, u1, List.map_append]
        rfl
    · rintro H3 ⟨g3, hD⟩
      have e9 : (nats ps).length = ts[i].parts.length := by unfold nats; rw [List.length_map]; exact a6.len
      rw [e9, List.take_length] at hD
      have sm : (((ts[i].parts.map Tm.size).map fun (n : Nat) => (n : Int))).sum = ((sizes ts[i].parts : Nat) : Int) := by rw [nat_sum, sizes_sum]
      refine ⟨D, (ts[i].parts.map Tm.size).map fun (n : Nat) => (n : Int), rfl, SqL.of (by rw [hD, nats_map]), _, _, rfl, rfl, S, _, _, rfl, rfl, g3 _ _ hS', sz9 (by unfold nats; rw [List.length_map, List.length_map, List.length_take]; omega), ?_⟩
      refine ⟨_, _, rfl, fun b o z => ?_, (hrows'.keep (Keeps.of_same (Ls := []) g3)).put (g3 _ _ hS') nSR nSP, ?_, ?_⟩
      · rw [upd_ne (ne_of_none z nS)]
        exact g3 _ _ (g _ _ z)
      · rw [upd_ne nSR.symm]
        exact g3 _ _ hR'
      · have e8 : V.int (1 + (((ts[i].parts.map Tm.size).map fun (n : Nat) => (n : Int))).sum) = V.int ((ts[i].size : Nat) : Int) := congrArg V.int (by rw [sm, Tm.size_parts]; omega)
        show upd H3 S (.lst (nats ((ts.take i).map Tm.size) ++ [V.int (1 + (((ts[i].parts.map Tm.size).map fun (n : Nat) => (n : Int))).sum)])) S = _
        rw [e8, upd_same, nats_snoc, List.take_succ_eq_append_getElem hil, List.map_append]
        rfl
  · rintro σ H' ⟨o1, o2, rfl, g, hrows', hR', hS'⟩
    obtain ⟨more, e⟩ := hlast
    rw [rl, List.take_length, e, List.map_append] at hS'
    have e7 : nats (more.map Tm.size ++ [t].map Tm.size) = nats (more.map Tm.size) ++ [V.int (t.size : Int)] := (nats_snoc _ _).symm
    rw [e7] at hS'
    exact ⟨_, rfl, _, rfl, S, _, _, _, rfl, rfl, SqL.of hS', atI_last _ _, q H' g⟩
end

theorem Tm.deep_parts1 (t : Tm) : 1 + maxOf 0 ((t.parts.map Tm.deep).map fun (n : Nat) => (n : Int)) = ((t.deep : Nat) : Int) := by
  cases t <;> simp only [Tm.parts, Tm.deep, List.map_cons, List.map_nil, maxOf, List.foldl_cons, List.foldl_nil] <;> omega
section
variable {P : Program} {w : World} {K : PySem.W.Frag} {mg : Str → Option Value} {base : Heap} {pa C f f1 f2 f3 f4 f5 f6 f7 f8 : Addr} {fd fd1 fd2 fd3 fd4 fd5 fd6 fd7 fd8 : FuncData}
theorem ok_depth_of (F : Fun K "depth_of" "depth_of" s_depth_of f fd) (T : Txt mg) (C_rows_of : Cal P w K mg base "rows_of" ["term"] 65 spRows f1 fd1) : FnOk P w K mg base CX0 66 f fd ["term"] spDepth := by
  refine F.ok sc_depth_of (fun vs H Q E h => ?_) (fun cdv A outer s H vs Q E hr h => ?_)
  · obtain ⟨t, v, rfl, _⟩ := h
    rfl
  obtain ⟨t, v, rfl, ht, hok, h60, hz, q⟩ := h
  refine ⟨_, (pss_cons (ps_set (i := 1) sc_depth_of.nd rfl (Or.inr rfl) (pe_lst pa_nil))
      (pss_cons (ps_for PassesOwn.never rfl (pi_list (pe_call C_rows_of.ok (hr.mono (by first | decide | omega)) rfl C_rows_of.m C_rows_of.kp C_rows_of.b .nil pass0 (pa_cons (pv 0) pa_nil))) (pg_tup rfl (pgs_cons (pg_name (i := 2) sc_depth_of.nd rfl (Or.inl rfl)) (pgs_cons (pg_name (i := 3) sc_depth_of.nd rfl (Or.inl rfl)) pgs_nil))) (pss_one (ps_expr (pe_bm PySem.F.plainAttrs_list PySem.F.slot_list_append PySem.F.type_list_append mt_append (pv 1) (pa_cons (pe_op op_add pe_int (pe_callBK (cr_maxD rfl hr.units) (by rfl) T.max (by decide +kernel) (pa_cons (pe_lc (own := [("place", 4)]) (g := (gName 4)) (tt := tYes) (by rfl) sc_depth_of.nd (pi_list (pv 3)) (blkOk_by (own := [("place", 4)]) (N := ["term", "depths", "_", "places", "place"]) (sc := defScope s_depth_of) (by decide +kernel)) (fun _ _ _ _ _ => (pg_name (i := 4) sc_depth_of.nd rfl (Or.inl rfl))) (fun _ _ _ _ _ => pts_nil) (fun _ _ _ _ _ => (pe_ix (r := rIxL K) ix_list (pv 1) (pv 4) (fun _ _ => rfl)))) pa_nil) (pk_cons pe_int pk_nil))) pa_nil)))))
      (pss_one (ps_ret (pe_ix ix_list (pv 1) (pe_un un_neg pe_int) (fun _ _ => rfl)))))), ?_⟩
  refine ⟨Nat.zero_le _, fun S nS => ?_⟩
  have sS := same_new nS (.lst [])
  refine ⟨_, rfl, t, v, rfl, ht.mono (.of_same sS), hok, h60, hz, fun R ts Ps H2 e2 hrows nR nP hl hlast _ => ?_⟩
  have hS2 := e2 _ _ (show upd H S (.lst []) S = some (.lst []) from upd_same)
  have nSR : S ≠ R := fun z => by rw [← z, upd_same] at nR; cases nR
  have nSP : S ∉ Ps := fun m => by have z := nP _ m; rw [upd_same] at z; cases z
  obtain ⟨rs, hR, rl, hrs⟩ := id hrows
  refine ⟨R, rfl, ⟨_, SqL.of hR⟩, for_list (K := K) (a := R) (xs := rs) (fun i σ H' => ∃ o1 o2 : Option V, σ = [some v, some (.ref S), o1, o2, none] ∧ Same H H' ∧ RowsAt H' R ts Ps ∧ H' R = some (.lst rs) ∧ H' S = some (.lst (nats ((ts.take i).map Tm.deep))))
    ⟨none, none, rfl, sS.trans e2, hrows, hR, hS2⟩ (fun i σ H' _ ⟨_, _, _, _, _, z, _⟩ => SqL.of z) ?_ ?_⟩
  · rintro i x σ H' hi ⟨o1, o2, rfl, g, hrows', hR', hS'⟩
    have hil : i < ts.length := by
      have z := (List.getElem?_eq_some_iff.mp hi).1
      rw [rl] at z
      exact z
    obtain ⟨rs', hR'', _, hrs'⟩ := id hrows'
    rw [hR'] at hR''
    cases hR''
    obtain ⟨r, h, pl, ps, a1, a2, a3, a4, a5, a6⟩ := hrs' i _ (List.getElem?_eq_getElem hil)
    rw [hi] at a1
    cases a1
    have psl : ps.length ≤ 3 := by rw [a6.len]; exact Tm.len_parts _
    refine ⟨r, _, rfl, SqT.of a2, rfl, _, _, rfl, _, _, rfl, rfl, ?_⟩
    refine ⟨_, rfl, .inl ⟨rfl, _, SqL.of hS'⟩, _, rfl, pl, rfl, ⟨_, SqL.of a4⟩, fun D nD => ?_⟩
    refine lc_list (K := K) (a := pl) (xs := nats ps) (fun j H3 => Same H' H3 ∧ H3 D = some (.lst (nats ((ts[i].parts.take j).map Tm.deep)))) ⟨same_new nD _, by rw [List.take_zero]; exact upd_same⟩ (fun j H3 _ z => SqL.of (z.1 _ _ a4)) ?_ ?_
    · rintro j y H3 hj ⟨g3, hD⟩
      unfold nats at hj
      rw [List.getElem?_map] at hj
      obtain ⟨p, hp⟩ : ∃ p, ps[j]? = some p := by
        cases z : ps[j]? with
        | none => rw [z] at hj; cases hj
        | some p => exact ⟨p, rfl⟩
      rw [hp] at hj
      cases hj
      obtain ⟨u, u1, u2, u3⟩ := a6.at hp
      have at9 : atI (nats ((ts.take i).map Tm.deep)) (p : Int) = some (.int (u.deep : Int)) := by
        refine atI_nat ?_
        unfold nats
        rw [List.map_map, List.getElem?_map, List.getElem?_take_of_lt u2, u3]
        rfl
      have jl : j < ps.length := (List.getElem?_eq_some_iff.mp hp).1
      refine ⟨rfl, _, rfl, _, rfl, S, _, _, _, rfl, rfl, SqL.of (g3 _ _ hS'), at9, _, hD, small1000 (by unfold nats; rw [List.length_map, List.length_map, List.length_take]; omega), fun b o z => ?_, ?_⟩
      · rw [upd_ne (ne_of_none z nD)]
        exact g3 b o z
      · rw [upd_same, nats_snoc, List.take_add_one, u1, List.map_append]
        rfl
    · rintro H3 ⟨g3, hD⟩
      have e9 : (nats ps).length = ts[i].parts.length := by unfold nats; rw [List.length_map]; exact a6.len
      rw [e9, List.take_length] at hD
      refine ⟨D, (ts[i].parts.map Tm.deep).map fun (n : Nat) => (n : Int), 0, rfl, rfl, SqL.of (by rw [hD, nats_map]), _, _, rfl, rfl, S, _, _, rfl, rfl, g3 _ _ hS', sz9 (by unfold nats; rw [List.length_map, List.length_map, List.length_take]; omega), ?_⟩
      refine ⟨_, _, rfl, fun b o z => ?_, (hrows'.keep (Keeps.of_same (Ls := []) g3)).put (g3 _ _ hS') nSR nSP, ?_, ?_⟩
      · rw [upd_ne (ne_of_none z nS)]
        exact g3 _ _ (g _ _ z)
      · rw [upd_ne nSR.symm]
        exact g3 _ _ hR'
      · have e8 : V.int (1 + maxOf 0 ((ts[i].parts.map Tm.deep).map fun (n : Nat) => (n : Int))) = V.int ((ts[i].deep : Nat) : Int) := congrArg V.int (Tm.deep_parts1 _)
        show upd H3 S (.lst (nats ((ts.take i).map Tm.deep) ++ [V.int (1 + maxOf 0 ((ts[i].parts.map Tm.deep).map fun (n : Nat) => (n : Int)))])) S = _
        rw [e8, upd_same, nats_snoc, List.take_succ_eq_append_getElem hil, List.map_append]
        rfl
  · rintro σ H' ⟨o1, o2, rfl, g, hrows', hR', hS'⟩
    obtain ⟨more, e⟩ := hlast
    rw [rl, List.take_length, e, List.map_append] at hS'
    have e7 : nats (more.map Tm.deep ++ [t].map Tm.deep) = nats (more.map Tm.deep) ++ [V.int (t.deep : Int)] := (nats_snoc _ _).symm
    rw [e7] at hS'
    exact ⟨_, rfl, _, rfl, S, _, _, _, rfl, rfl, SqL.of hS', atI_last _ _, q H' g⟩
end

/-! ### names that are loose -/
def put (l : List Str) (x : Str) : List Str := if x ∈ l then l else l ++ [x]
def putAll (l r : List Str) : List Str := r.foldl put l
def keep (b : V) (l : List Str) : List Str := l.filter fun x => !decide (V.str x = b)
theorem putAll_app (l a b : List Str) : putAll l (a ++ b) = putAll (putAll l a) b := List.foldl_append
theorem mem_put {l : List Str} {x y : Str} : y ∈ put l x ↔ y ∈ l ∨ y = x := by
  unfold put
  by_cases h : x ∈ l
  · rw [if_pos h]
    exact ⟨.inl, fun z => z.elim id fun e => e ▸ h⟩
  · rw [if_neg h, List.mem_append, List.mem_singleton]
theorem mem_putAll {y : Str} : ∀ {r l : List Str}, y ∈ putAll l r ↔ y ∈ l ∨ y ∈ r
  | [], l => by show y ∈ l ↔ y ∈ l ∨ y ∈ []; simp
  | x :: r, l => by
    show y ∈ putAll (put l x) r ↔ _
    rw [mem_putAll, mem_put, List.mem_cons]
    exact ⟨fun h => h.elim (fun h => h.elim .inl fun e => .inr (.inl e)) fun h => .inr (.inr h), fun h => h.elim (fun h => .inl (.inl h)) fun h => h.elim (fun e => .inl (.inr e)) .inr⟩
theorem put_old {l : List Str} {x : Str} (h : x ∈ l) : put l x = l := if_pos h
theorem snoc_ind {p : List Str → Prop} (h0 : p []) (h1 : ∀ l x, p l → p (l ++ [x])) : ∀ l, p l := fun l => by
  rw [← List.reverse_reverse l]
  induction l.reverse with
  | nil => exact h0
  | cons x r ih =>
    rw [List.reverse_cons]
    exact h1 _ _ ih
theorem putAll_snoc (l r : List Str) (x : Str) : putAll l (r ++ [x]) = put (putAll l r) x := by
  rw [putAll_app]
  rfl
theorem keep_app (b : V) (a c : List Str) : keep b (a ++ c) = keep b a ++ keep b c := List.filter_append _ _
theorem keep_mem {b : V} {l : List Str} {x : Str} : x ∈ keep b l ↔ x ∈ l ∧ ¬ V.str x = b := by
  unfold keep
  rw [List.mem_filter]
  by_cases h : V.str x = b <;> simp [h]
/-- a list that was thinned out adds the same names -/
theorem putAll_thin (b : V) : ∀ (r l : List Str), putAll l (keep b (putAll [] r)) = putAll l (keep b r) := by
  refine snoc_ind (fun l => rfl) fun r x ih l => ?_
  rw [putAll_snoc, keep_app, putAll_app]
  by_cases hx : x ∈ putAll [] r
  · rw [put_old hx, ih]
    by_cases hb : V.str x = b
    · rw [show keep b [x] = [] by unfold keep; rw [List.filter_cons_of_neg (by simp [hb])]; rfl]
      rfl
    · rw [show keep b [x] = [x] by unfold keep; rw [List.filter_cons_of_pos (by simp [hb])]; rfl]
      have m : x ∈ putAll l (keep b r) := mem_putAll.mpr (.inr (keep_mem.mpr ⟨(mem_putAll.mp hx).elim (fun z => by cases z) id, hb⟩))
      exact (put_old m).symm
  · rw [show put (putAll [] r) x = putAll [] r ++ [x] from if_neg hx, keep_app, putAll_app, ih]
def Tm.raw : Tm → List Str
  | .num _ => []
  | .name x => [x]
  | .bin _ a b => a.raw ++ b.raw
  | .cond c a b => c.raw ++ (a.raw ++ b.raw)
  | .letx x a b => a.raw ++ keep (.str x) b.raw
  | .turns _ x a b => a.raw ++ keep (.str x) b.raw
  | .deff f x _ a b => keep (.str x) a.raw ++ keep (.str f) b.raw
  | .use f a => f :: a.raw
  | .un _ a => a.raw
def Tm.loose (t : Tm) : List Str := putAll [] t.raw
def Tm.own : Tm → List Str
  | .name x => [x]
  | .use f _ => [f]
  | _ => []
def Tm.bounds : Tm → List V
  | .letx x _ _ => [.non, .str x]
  | .turns _ x _ _ => [.non, .str x]
  | .deff f x _ _ _ => [.str x, .str f]
  | t => List.replicate t.parts.length .non
def rawAll : List V → List (List Str) → List Str
  | b :: bs, l :: ls => keep b l ++ rawAll bs ls
  | _, _ => []
theorem keep_non (l : List Str) : keep .non l = l := by
  unfold keep
  rw [List.filter_eq_self]
  intro x _
  rfl
theorem Tm.raw_eq (t : Tm) : t.raw = t.own ++ rawAll t.bounds (t.parts.map Tm.raw) := by
  cases t <;> simp only [Tm.raw, Tm.own, Tm.bounds, Tm.parts, List.map_cons, List.map_nil, List.length_cons, List.length_nil, List.replicate, rawAll, keep_non, List.append_nil, List.nil_append, List.cons_append]
theorem Tm.bounds_len (t : Tm) : t.bounds.length = t.parts.length := by
  cases t <;> rfl
theorem rawAll_take : ∀ {bs : List V} {ls : List (List Str)} {i : Nat} {b : V} {l : List Str}, bs[i]? = some b → ls[i]? = some l → rawAll (bs.take (i + 1)) (ls.take (i + 1)) = rawAll (bs.take i) (ls.take i) ++ keep b l
  | [], _, _, _, _, h, _ => by simp at h
  | _ :: _, [], _, _, _, _, h => by simp at h
  | b0 :: bs, l0 :: ls, 0, b, l, h1, h2 => by
    simp only [List.getElem?_cons_zero, Option.some.injEq] at h1 h2
    subst h1 h2
    simp only [List.take_succ_cons, List.take_zero, rawAll, List.append_nil, List.nil_append]
  | b0 :: bs, l0 :: ls, i + 1, b, l, h1, h2 => by
    simp only [List.getElem?_cons_succ] at h1 h2
    rw [List.take_succ_cons, List.take_succ_cons, List.take_succ_cons, List.take_succ_cons]
    show keep b0 l0 ++ rawAll (bs.take (i + 1)) (ls.take (i + 1)) = keep b0 l0 ++ rawAll (bs.take i) (ls.take i) ++ keep b l
    rw [rawAll_take h1 h2, List.append_assoc]
theorem own_put (t : Tm) : putAll [] t.own = t.own := by
  cases t <;> first | rfl | (show put [] _ = _; exact if_neg (by simp))
theorem Tm.raw_len : ∀ t : Tm, t.raw.length ≤ t.size := by
  have kl : ∀ (b : V) (l : List Str), (keep b l).length ≤ l.length := fun b l => List.length_filter_le _ _
  intro t
  induction t with
  | num n => exact Nat.zero_le _
  | name n => exact Nat.le_refl _
  | bin o a b iha ihb => simp only [Tm.raw, Tm.size, List.length_append]; omega
  | cond c a b ihc iha ihb => simp only [Tm.raw, Tm.size, List.length_append]; omega
  | letx x a b iha ihb => have := kl (.str x) b.raw; simp only [Tm.raw, Tm.size, List.length_append]; omega
  | turns n x a b iha ihb => have := kl (.str x) b.raw; simp only [Tm.raw, Tm.size, List.length_append]; omega
  | deff f x k a b iha ihb => have := kl (.str x) a.raw; have := kl (.str f) b.raw; simp only [Tm.raw, Tm.size, List.length_append]; omega
  | use f a iha => simp only [Tm.raw, Tm.size, List.length_cons]; omega
  | un o a iha => simp only [Tm.raw, Tm.size]; omega
theorem putAll_len : ∀ (r l : List Str), (putAll l r).length ≤ l.length + r.length
  | [], l => Nat.le_refl _
  | x :: r, l => by
    have h := putAll_len r (put l x)
    have h2 : (put l x).length ≤ l.length + 1 := by
      unfold put
      split
      · omega
      · rw [List.length_append]
        exact Nat.le_refl _
    show (putAll (put l x) r).length ≤ l.length + (r.length + 1)
    omega
theorem Tm.loose_len (t : Tm) : t.loose.length ≤ t.size := by
  have h := putAll_len t.raw []
  have h2 := t.raw_len
  unfold Tm.loose
  simp only [List.length_nil] at h
  omega
/-- a dict of True by name -/
def trues (l : List Str) : List (Key × V) := l.map fun x => (.inr x, .bl true)
theorem trues_put (l : List Str) (x : Str) : putK (trues l) (.inr x) (.bl true) = trues (put l x) := by
  unfold putK put trues
  by_cases h : x ∈ l
  · have e : ((l.map fun x => ((Sum.inr x : Key), V.bl true)).any fun kv => decide (kv.1 = Sum.inr x)) = true := by
      rw [List.any_eq_true]
      exact ⟨_, List.mem_map.mpr ⟨x, h, rfl⟩, decide_eq_true rfl⟩
    rw [if_pos e, if_pos h, List.map_map]
    refine List.map_congr_left fun y _ => ?_
    show (if (Sum.inr y : Key) = Sum.inr x then _ else _) = _
    by_cases hy : (Sum.inr y : Key) = Sum.inr x
    · rw [if_pos hy]
    · rw [if_neg hy]
  · have e : ¬ ((l.map fun x => ((Sum.inr x : Key), V.bl true)).any fun kv => decide (kv.1 = Sum.inr x)) = true := fun z => by
      obtain ⟨kv, hk, hd⟩ := List.any_eq_true.mp z
      obtain ⟨y, hy, rfl⟩ := List.mem_map.mp hk
      have := Sum.inr.inj (of_decide_eq_true hd)
      exact h (this ▸ hy)
    rw [if_neg e, if_neg h, List.map_append]
    rfl
theorem trues_len (l : List Str) : (trues l).length = l.length := List.length_map _
theorem trues_keys (l : List Str) : (trues l).map (fun kv => kV kv.1) = l.map V.str := by
  unfold trues
  rw [List.map_map]
  rfl
/-- lists of names, none of them at S -/
def NmsAt (H : Hp) (S : List Addr) : List V → List (List Str) → Prop
  | [], [] => True
  | v :: vs, l :: ls => (∃ a, v = .ref a ∧ a ∉ S ∧ H a = some (.lst (l.map V.str))) ∧ NmsAt H S vs ls
  | _, _ => False
theorem NmsAt.mono {H H' : Hp} {S : List Addr} (e : ∀ b o, b ∉ S → H b = some o → H' b = some o) : ∀ {vs : List V} {ls : List (List Str)}, NmsAt H S vs ls → NmsAt H' S vs ls
  | [], [], _ => True.intro
  | _ :: _, _ :: _, ⟨⟨a, h1, h2, h3⟩, r⟩ => ⟨⟨a, h1, h2, e _ _ h2 h3⟩, NmsAt.mono e r⟩
  | [], _ :: _, h => h.elim
  | _ :: _, [], h => h.elim
theorem NmsAt.len {H : Hp} {S : List Addr} : ∀ {vs : List V} {ls : List (List Str)}, NmsAt H S vs ls → vs.length = ls.length
  | [], [], _ => rfl
  | _ :: _, _ :: _, ⟨_, r⟩ => congrArg (· + 1) (NmsAt.len r)
  | [], _ :: _, h => h.elim
  | _ :: _, [], h => h.elim
theorem NmsAt.get {H : Hp} {S : List Addr} : ∀ {vs : List V} {ls : List (List Str)} {i : Nat} {l : List Str}, NmsAt H S vs ls → ls[i]? = some l → ∃ a, vs[i]? = some (.ref a) ∧ a ∉ S ∧ H a = some (.lst (l.map V.str))
  | [], [], _, _, _, e => by simp at e
  | v :: vs, l :: ls, 0, _, ⟨⟨a, h1, h2, h3⟩, _⟩, e => by
    simp only [List.getElem?_cons_zero, Option.some.injEq] at e
    subst e h1
    exact ⟨a, rfl, h2, h3⟩
  | v :: vs, l :: ls, i + 1, _, ⟨_, r⟩, e => by
    simp only [List.getElem?_cons_succ] at e
    obtain ⟨a, q1, q2⟩ := NmsAt.get r e
    exact ⟨a, by simpa using q1, q2⟩
  | [], _ :: _, _, _, h, _ => h.elim
  | _ :: _, [], _, _, h, _ => h.elim
theorem NmsAt.snoc {H : Hp} {S : List Addr} {a : Addr} {l : List Str} (h1 : a ∉ S) (h2 : H a = some (.lst (l.map V.str))) : ∀ {vs : List V} {ls : List (List Str)}, NmsAt H S vs ls → NmsAt H S (vs ++ [.ref a]) (ls ++ [l])
  | [], [], _ => ⟨⟨a, rfl, h1, h2⟩, True.intro⟩
  | _ :: _, _ :: _, ⟨h, r⟩ => ⟨h, NmsAt.snoc h1 h2 r⟩
  | [], _ :: _, h => h.elim
  | _ :: _, [], h => h.elim
theorem NmsAt.more {H : Hp} {S : List Addr} {D : Addr} (n : H D = none) : ∀ {vs : List V} {ls : List (List Str)}, NmsAt H S vs ls → NmsAt H (D :: S) vs ls
  | [], [], _ => True.intro
  | _ :: _, _ :: _, ⟨⟨a, h1, h2, h3⟩, r⟩ => ⟨⟨a, h1, fun z => (List.mem_cons.mp z).elim (ne_of_none h3 n) h2, h3⟩, NmsAt.more n r⟩
  | [], _ :: _, h => h.elim
  | _ :: _, [], h => h.elim
def spBounds : Sp := fun vs H Q _ => ∃ (t : Tm) (h : Addr), vs = [.ref h, .int (t.parts.length : Int)] ∧ H h = some (.tup t.head) ∧ ∀ (r : Addr) (H' : Hp), H r = none → Same H H' → H' r = some (.lst t.bounds) → Q (.ref r) H'
def spLooseNames : Sp := fun vs H Q _ => ∃ (t : Tm) (h pl : Addr) (S : List Addr) (ws : List V), vs = [.ref h, .ref pl] ∧ H h = some (.tup t.head) ∧ H pl = some (.lst ws) ∧ NmsAt H S ws (t.parts.map Tm.loose) ∧ t.size ≤ 900000 ∧
  ∀ (r : Addr) (H' : Hp), H r = none → Same H H' → H' r = some (.lst (t.loose.map V.str)) → Q (.ref r) H'
def spLoose : Sp := fun vs H Q _ => ∃ (t : Tm) (v : V), vs = [v] ∧ TmAt H t v ∧ t.Ok ∧ t.deep ≤ 60 ∧ t.size ≤ 900000 ∧ ∀ (r : Addr) (H' : Hp), H r = none → Same H H' → H' r = some (.lst (t.loose.map V.str)) → Q (.ref r) H'
abbrev s_bound_in_parts : Stmt := topS 12
theorem sc_bound_in_parts : FnScope ["head", "many"] ["head", "many"] (defScope s_bound_in_parts) := ⟨rfl, rfl, rfl, by decide +kernel, rfl, by decide +kernel, by decide +kernel⟩
abbrev s_loose_names : Stmt := topS 11
theorem sc_loose_names : FnScope ["head", "loose_in_parts", "found", "names", "bound", "name"] ["head", "loose_in_parts"] (defScope s_loose_names) := ⟨rfl, rfl, rfl, by decide +kernel, rfl, by decide +kernel, by decide +kernel⟩
section
variable {P : Program} {w : World} {K : PySem.W.Frag} {mg : Str → Option Value} {base : Heap} {pa ta C f f1 f2 f3 f4 f5 f6 f7 f8 : Addr} {fd fd1 fd2 fd3 fd4 fd5 fd6 fd7 fd8 : FuncData}
theorem ok_bounds (F : Fun K "bound_in_parts" "bound_in_parts" s_bound_in_parts f fd) : FnOk P w K mg base CX0 1 f fd ["head", "many"] spBounds := by
  refine F.ok sc_bound_in_parts (fun vs H Q E h => ?_) (fun cdv A outer s H vs Q E hr h => ?_)
  · obtain ⟨t, h, rfl, _⟩ := h
    rfl
  obtain ⟨t, h, rfl, hh, q⟩ := h
  have hh' := hh
  rw [t.head_eq] at hh'
  refine ⟨_, (pss_cons (ps_if (pt_cmpR op_eq (pe_ix ix_tup (pv 0) pe_int (fun _ _ => rfl)) pe_str (nomark _)) (pss_one (ps_ret (pe_lst (pa_cons pe_non (pa_cons (pe_ix ix_tup (pv 0) pe_int (fun _ _ => rfl)) pa_nil))))) pss_nil)
      (pss_cons (ps_if (pt_cmpR op_eq (pe_ix ix_tup (pv 0) pe_int (fun _ _ => rfl)) pe_str (nomark _)) (pss_one (ps_ret (pe_lst (pa_cons pe_non (pa_cons (pe_ix ix_tup (pv 0) pe_int (fun _ _ => rfl)) pa_nil))))) pss_nil)
      (pss_cons (ps_if (pt_cmpR op_eq (pe_ix ix_tup (pv 0) pe_int (fun _ _ => rfl)) pe_str (nomark _)) (pss_one (ps_ret (pe_lst (pa_cons (pe_ix ix_tup (pv 0) pe_int (fun _ _ => rfl)) (pa_cons (pe_ix ix_tup (pv 0) pe_int (fun _ _ => rfl)) pa_nil))))) pss_nil)
      (pss_one (ps_ret (pe_op op_rep (pe_lst (pa_cons pe_non pa_nil)) (pv 1))))))), ?_⟩
  refine ⟨_, rfl, h, _, _, _, rfl, rfl, SqT.of hh', atI_n (n := 0) rfl rfl, rfl, _, rfl, ite2 (fun c1 => ?_) fun c1 => ?_⟩
  · obtain ⟨x, a, b, rfl⟩ := w_let (str_w .let c1)
    exact ⟨_, rfl, h, _, _, _, rfl, rfl, SqT.of hh, atI_n (n := 1) rfl rfl, sz 2, fun r nr => q r _ nr (same_new nr _) upd_same⟩
  refine ⟨_, rfl, h, _, _, _, rfl, rfl, SqT.of hh', atI_n (n := 0) rfl rfl, rfl, _, rfl, ite2 (fun c2 => ?_) fun c2 => ?_⟩
  · obtain ⟨n, x, a, b, rfl⟩ := w_turns (str_w .turns c2)
    exact ⟨_, rfl, h, _, _, _, rfl, rfl, SqT.of hh, atI_n (n := 2) rfl rfl, sz 2, fun r nr => q r _ nr (same_new nr _) upd_same⟩
  refine ⟨_, rfl, h, _, _, _, rfl, rfl, SqT.of hh', atI_n (n := 0) rfl rfl, rfl, _, rfl, ite2 (fun c3 => ?_) fun c3 => ?_⟩
  · obtain ⟨g, x, k, a, b, rfl⟩ := w_def (str_w .def c3)
    exact ⟨_, rfl, h, _, _, _, rfl, rfl, SqT.of hh, atI_n (n := 2) rfl rfl, _, rfl, h, _, _, _, rfl, rfl, SqT.of hh, atI_n (n := 1) rfl rfl, sz 2, fun r nr => q r _ nr (same_new nr _) upd_same⟩
  have h3 := t.len_parts
  have e : (List.replicate ((t.parts.length : Int).toNat) [V.non]).flatten = t.bounds := by
    rw [Int.toNat_natCast]
    cases t with
    | letx x a b => exact absurd rfl (str_nw .let c1)
    | turns n x a b => exact absurd rfl (str_nw .turns c2)
    | deff g x k a b => exact absurd rfl (str_nw .def c3)
    | _ => rfl
  refine ⟨sz 1, fun p np => ⟨_, rfl, p, _, _, rfl, rfl, upd_same, by omega, by omega, sz _ (by rw [Int.toNat_natCast]; show 1 * _ ≤ _; omega), fun r nr => ?_⟩⟩
  have s1 := same_new np (.lst [V.non])
  rw [e]
  exact q r _ (s1.free nr) (s1.trans (same_new nr _)) upd_same
end

section
variable {P : Program} {w : World} {K : PySem.W.Frag} {mg : Str → Option Value} {base : Heap} {pa ta C f f1 f2 f3 f4 f5 f6 f7 f8 : Addr} {fd fd1 fd2 fd3 fd4 fd5 fd6 fd7 fd8 : FuncData}
theorem bounds_scal {t : Tm} {b : V} (h : b ∈ t.bounds) (n : Str) : scal (.str n) b = true := by
  have h' : b = .non ∨ ∃ x, b = .str x := by
    cases t with
    | num n => cases h
    | name n => cases h
    | letx x a b => simp only [Tm.bounds, List.mem_cons, List.not_mem_nil, or_false] at h; exact h.imp id fun e => ⟨_, e⟩
    | turns n x a b => simp only [Tm.bounds, List.mem_cons, List.not_mem_nil, or_false] at h; exact h.imp id fun e => ⟨_, e⟩
    | deff f x k a b => simp only [Tm.bounds, List.mem_cons, List.not_mem_nil, or_false] at h; exact .inr (h.elim (fun e => ⟨_, e⟩) fun e => ⟨_, e⟩)
    | bin o a b => exact .inl (List.eq_of_mem_replicate h)
    | cond c a b => exact .inl (List.eq_of_mem_replicate h)
    | use f a => exact .inl (List.eq_of_mem_replicate h)
    | un o a => exact .inl (List.eq_of_mem_replicate h)
  rcases h' with rfl | ⟨x, rfl⟩ <;> rfl
theorem loose_eq (t : Tm) : t.loose = putAll t.own (rawAll t.bounds (t.parts.map Tm.raw)) := by
  unfold Tm.loose
  rw [t.raw_eq, putAll_app, own_put]
theorem keep_take (b : V) {l : List Str} {j : Nat} {n : Str} (h : l[j]? = some n) : keep b (l.take (j + 1)) = keep b (l.take j) ++ if V.str n = b then [] else [n] := by
  rw [List.take_add_one, h, keep_app]
  congr 1
  unfold keep
  by_cases e : V.str n = b
  · rw [if_pos e]
    exact List.filter_cons_of_neg (by simp [e])
  · rw [if_neg e]
    exact List.filter_cons_of_pos (by simp [e])
theorem rawAll_len : ∀ (bs : List V) (ls : List (List Str)), (rawAll bs ls).length ≤ (ls.map List.length).sum
  | [], ls => Nat.zero_le _
  | _ :: _, [] => Nat.le_refl _
  | b :: bs, l :: ls => by
    have h1 : (keep b l).length ≤ l.length := List.length_filter_le _ _
    have h2 := rawAll_len bs ls
    show (keep b l ++ rawAll bs ls).length ≤ _
    rw [List.length_append, List.map_cons, List.sum_cons]
    omega
theorem ok_loose_names (F : Fun K "loose_names" "loose_names" s_loose_names f fd) (T : Txt mg) (C_bound_in_parts : Cal P w K mg base "bound_in_parts" ["head", "many"] 1 spBounds f1 fd1) : FnOk P w K mg base CX0 2 f fd ["head", "loose_in_parts"] spLooseNames := by
  refine F.ok sc_loose_names (fun vs H Q E h => ?_) (fun cdv A outer s H vs Q E hr h => ?_)
  · obtain ⟨t, h, pl, S, ws, rfl, _⟩ := h
    rfl
  obtain ⟨t, h, pl, S, ws, rfl, hh, hp, hw, hz, q⟩ := h
  have hh' := hh
  rw [t.head_eq] at hh'
  have wl := hw.len
  rw [List.length_map] at wl
  have bl := t.bounds_len
  have zl : ∀ i, (putAll t.own (rawAll (t.bounds.take i) ((t.parts.map Tm.raw).take i))).length ≤ 900001 := fun i => by
    have h1 := putAll_len (rawAll (t.bounds.take i) ((t.parts.map Tm.raw).take i)) t.own
    have h2 := rawAll_len (t.bounds.take i) ((t.parts.map Tm.raw).take i)
    have h3 : (((t.parts.map Tm.raw).take i).map List.length).sum ≤ sizes t.parts := by
      rw [sizes_sum]
      generalize t.parts = ps
      clear h1 h2 q hw wl bl hh hh' hp hz
      induction ps generalizing i with
      | nil => rw [List.map_nil, List.take_nil]; exact Nat.le_refl _
      | cons a r ih =>
        cases i with
        | zero => exact Nat.zero_le _
        | succ i =>
          have := ih i
          have := a.raw_len
          rw [List.map_cons, List.take_succ_cons, List.map_cons, List.sum_cons, List.map_cons, List.sum_cons]
          omega
    have h4 := t.size_parts
    have h5 : t.own.length ≤ 1 := by cases t <;> simp [Tm.own]
    omega
  refine ⟨_, (pss_cons (ps_set (i := 2) sc_loose_names.nd rfl (Or.inl rfl) pe_dnewK)
      (pss_cut (ps_if (pt_k (PW.pt (pw_or (pt_cmpR op_eq (pe_ix ix_tup (pv 0) pe_int (fun _ _ => rfl)) pe_str (nomark _)) (pw_or1 (pt_cmpR op_eq (pe_ix ix_tup (pv 0) pe_int (fun _ _ => rfl)) pe_str (nomark _)))))) (pss_one (ps_dput (hu_of hr) (pv 2) (pe_ix ix_tup (pv 0) pe_int (fun _ _ => rfl)) pe_bl rfl)) pss_nil)
      (pss_cons (ps_for PassesOwn.never rfl (pi_zip (by rfl) T.zip (pa_cons (pv 1) (pa_cons (pe_call C_bound_in_parts.ok (hr.mono (by first | decide | omega)) rfl C_bound_in_parts.m C_bound_in_parts.kp C_bound_in_parts.b .nil pass0 (pa_cons (pv 0) (pa_cons (pe_callB call_len_seq (by rfl) T.len PySem.boot_len (pa_cons (pv 1) pa_nil)) pa_nil))) pa_nil))) (pg_tup rfl (pgs_cons (pg_name (i := 3) sc_loose_names.nd rfl (Or.inl rfl)) (pgs_cons (pg_name (i := 4) sc_loose_names.nd rfl (Or.inl rfl)) pgs_nil))) (pss_one (ps_for PassesOwn.never rfl (pi_list (pv 3)) (pg_name (i := 5) sc_loose_names.nd rfl (Or.inl rfl)) (pss_one (ps_if (pt_cmpR op_ne (pv 5) (pv 4) (nomark _)) (pss_one (ps_dput (hu_of hr) (pv 2) (pv 5) pe_bl rfl)) pss_nil)))))
      (pss_one (ps_ret (pe_callTy (call_list_dK rfl) (by rfl) T.list (by decide +kernel) (pa_cons (pv 2) pa_nil))))))), ?_⟩
  intro fa nfa
  have sfa : ∀ o, Same H (upd H fa o) := fun o => same_new nfa o
  refine ⟨fun σ H' => σ = [some (.ref h), some (.ref pl), some (.ref fa), none, none, none] ∧ Same H H' ∧ H' fa = some (.dK (trues t.own)), ?_, ?_⟩
  · refine ⟨fun b H' => upd H fa (.dK []) = H' ∧ b = decide (t.w = .name ∨ t.w = .use), ?_, ?_⟩
    · refine ⟨_, rfl, h, _, _, _, rfl, rfl, SqT.of (sfa _ _ _ hh'), atI_n (n := 0) rfl rfl, rfl, _, rfl, ite2 (fun c => ?_) fun c => ?_⟩
      · exact ⟨rfl, (decide_eq_true (.inl (str_w .name c))).symm⟩
      · refine ⟨_, rfl, h, _, _, _, rfl, rfl, SqT.of (sfa _ _ _ hh'), atI_n (n := 0) rfl rfl, rfl, _, rfl, rfl, ?_⟩
        by_cases c2 : t.w = .use
        · have e : decide (t.w = .name ∨ t.w = .use) = true := decide_eq_true (.inr c2)
          rw [e, c2]
          exact decide_eq_true rfl
        · have e : decide (t.w = .name ∨ t.w = .use) = false := decide_eq_false fun z => z.elim (str_nw .name c) c2
          rw [e]
          exact decide_eq_false fun z => c2 (W.inj (V.str.inj z))
    rintro b _ ⟨rfl, rfl⟩
    refine ite2 (fun c => ?_) fun c => ?_
    · rcases of_decide_eq_true c with c | c
      · obtain ⟨x, rfl⟩ := w_name c
        refine ⟨_, rfl, _, rfl, h, _, _, _, rfl, rfl, SqT.of (sfa _ _ _ hh), atI_n (n := 1) rfl rfl, fa, _, rfl, DPut.k (k := .inr x) upd_same (by decide), rfl, ?_, ?_⟩
        · rw [upd_upd]
          exact sfa _
        · rw [upd_same]
          exact congrArg (fun z => some (HO.dK z)) (trues_put [] x)
      · obtain ⟨g, a, rfl⟩ := w_use c
        refine ⟨_, rfl, _, rfl, h, _, _, _, rfl, rfl, SqT.of (sfa _ _ _ hh), atI_n (n := 1) rfl rfl, fa, _, rfl, DPut.k (k := .inr g) upd_same (by decide), rfl, ?_, ?_⟩
        · rw [upd_upd]
          exact sfa _
        · rw [upd_same]
          exact congrArg (fun z => some (HO.dK z)) (trues_put [] g)
    · have c' : ¬ (t.w = .name ∨ t.w = .use) := fun z => c (decide_eq_true z)
      refine ⟨rfl, sfa _, ?_⟩
      have e : t.own = [] := by
        cases t with
        | name x => exact absurd (.inl rfl) c'
        | use g a => exact absurd (.inr rfl) c'
        | _ => rfl
      rw [e]
      exact upd_same
  rintro σ H1 ⟨rfl, g1, hfa⟩
  -- for names, bound in zip(loose_in_parts, bound_in_parts(head, len(loose_in_parts)))
  refine ⟨_, rfl, _, rfl, _, rfl, pl, _, rfl, .inl (SqL.of (g1 _ _ hp)), t, h, by rw [wl]; rfl, g1 _ _ hh, fun rb H3 nrb e3 hrb => ?_⟩
  have g3 := g1.trans e3
  have hp3 := g3 _ _ hp
  have npf : pl ≠ fa := ne_of_none hp nfa
  have nrf : rb ≠ fa := fun z => by rw [z, hfa] at nrb; cases nrb
  refine ⟨pl, rb, ws, t.bounds, rfl, SqL.of hp3, SqL.of hrb, RZ.for_zipL (K := K) (by omega) (fun i σ H' => ∃ o1 o2 o3 : Option V, σ = [some (.ref h), some (.ref pl), some (.ref fa), o1, o2, o3] ∧ (∀ b o, b ≠ fa → H3 b = some o → H' b = some o) ∧
      H' fa = some (.dK (trues (putAll t.own (rawAll (t.bounds.take i) ((t.parts.map Tm.raw).take i)))))) ⟨none, none, none, rfl, fun _ _ _ z => z, by rw [List.take_zero]; exact e3 _ _ hfa⟩ (fun i σ H' ⟨_, _, _, _, z, _⟩ => ⟨SqL.of (z _ _ npf hp3), SqL.of (z _ _ nrf hrb)⟩) ?_ ?_⟩
  · rintro i x y Tn σ H' hx hy ⟨o1, o2, o3, rfl, k3, hf3⟩ nT
    have il : i < t.parts.length := by
      have := (List.getElem?_eq_some_iff.mp hx).1
      omega
    obtain ⟨la, hla, _, ha⟩ := hw.get (i := i) (l := t.parts[i].loose) (by rw [List.getElem?_map, List.getElem?_eq_getElem il]; rfl)
    rw [hx] at hla
    cases hla
    have naf : la ≠ fa := ne_of_none ha nfa
    have s9 := same_new nT (.tup [V.ref la, y])
    have ha9 := s9 _ _ (k3 _ _ naf (g3 _ _ ha))
    have hf9 := s9 _ _ hf3
    have k9 : ∀ b o, b ≠ fa → H3 b = some o → upd H' Tn (.tup [V.ref la, y]) b = some o := fun b o n z => s9 _ _ (k3 b o n z)
    refine ⟨Tn, _, rfl, SqT.of upd_same, rfl, _, _, rfl, _, _, rfl, rfl, ?_⟩
    generalize upd H' Tn (.tup [V.ref la, y]) = H9 at ha9 hf9 k9 ⊢
    refine ⟨_, rfl, la, rfl, ⟨_, SqL.of ha9⟩, for_list (K := K) (a := la) (xs := t.parts[i].loose.map V.str) (fun j σ H'' => ∃ o5 : Option V, σ = [some (.ref h), some (.ref pl), some (.ref fa), some (.ref la), some y, o5] ∧ (∀ b o, b ≠ fa → H9 b = some o → H'' b = some o) ∧
      H'' fa = some (.dK (trues (putAll (putAll t.own (rawAll (t.bounds.take i) ((t.parts.map Tm.raw).take i))) (keep y (t.parts[i].loose.take j)))))) ⟨o3, rfl, fun _ _ _ z => z, by rw [List.take_zero]; exact hf9⟩ (fun j σ H'' _ ⟨_, _, z, _⟩ => SqL.of (z _ _ naf ha9)) ?_ ?_⟩
    · rintro j nv σ H'' hj ⟨o5, rfl, k5, hf5⟩
      rw [List.getElem?_map] at hj
      obtain ⟨nm, hn⟩ : ∃ nm, t.parts[i].loose[j]? = some nm := by
        cases z : t.parts[i].loose[j]? with
        | none => rw [z] at hj; cases hj
        | some p => exact ⟨p, rfl⟩
      rw [hn] at hj
      cases hj
      refine ⟨_, rfl, _, rfl, bounds_scal (List.mem_of_getElem? hy) nm, _, rfl, ite2 (fun c => ?_) fun c => ?_⟩
      · have ne : ¬ V.str nm = y := fun z => by rw [decide_eq_true z] at c; cases c
        have lt9 : (trues (putAll (putAll t.own (rawAll (t.bounds.take i) ((t.parts.map Tm.raw).take i))) (keep y (t.parts[i].loose.take j)))).length < sizeLine := by
          rw [trues_len]
          have h1 := putAll_len (keep y (t.parts[i].loose.take j)) (putAll t.own (rawAll (t.bounds.take i) ((t.parts.map Tm.raw).take i)))
          have h2 := zl i
          have h3 : (keep y (t.parts[i].loose.take j)).length ≤ (t.parts[i].loose.take j).length := List.length_filter_le _ _
          have h4 : (t.parts[i].loose.take j).length ≤ t.parts[i].loose.length := by rw [List.length_take]; exact Nat.min_le_right _ _
          have h5 := t.parts[i].loose_len
          have h6 := Tm.part_size (List.getElem_mem il)
          exact Nat.lt_of_le_of_lt (by omega : _ ≤ 1900000) (by decide)
        refine ⟨_, rfl, _, rfl, fa, _, rfl, DPut.k (k := .inr nm) hf5 lt9, _, rfl, fun b o n z => ?_, ?_⟩
        · rw [upd_ne n]
          exact k5 b o n z
        · rw [upd_same, trues_put, keep_take y hn, if_neg ne, putAll_snoc]
      · have e : V.str nm = y := by
          by_cases z : V.str nm = y
          · exact z
          · rw [decide_eq_false z] at c
            exact absurd rfl c
        refine ⟨_, rfl, k5, ?_⟩
        rw [keep_take y hn, if_pos e, List.append_nil]
        exact hf5
    · rintro σ H'' ⟨o5, rfl, k5, hf5⟩
      rw [List.length_map, List.take_length] at hf5
      refine ⟨_, _, _, rfl, fun b o n z => k5 b o n (k9 b o n z), ?_⟩
      have e1 : putAll (putAll t.own (rawAll (t.bounds.take i) ((t.parts.map Tm.raw).take i))) (keep y t.parts[i].loose) = putAll t.own (rawAll (t.bounds.take (i + 1)) ((t.parts.map Tm.raw).take (i + 1))) := by
        rw [rawAll_take hy (show (t.parts.map Tm.raw)[i]? = some t.parts[i].raw by rw [List.getElem?_map, List.getElem?_eq_getElem il]; rfl), putAll_app]
        exact putAll_thin y _ _
      rw [← e1]
      exact hf5
  · rintro σ H' ⟨o1, o2, o3, rfl, k3, hf3⟩
    have e1 : t.bounds.take ws.length = t.bounds := List.take_of_length_le (by omega)
    have e2 : (t.parts.map Tm.raw).take ws.length = t.parts.map Tm.raw := List.take_of_length_le (by rw [List.length_map]; omega)
    rw [e1, e2, ← loose_eq] at hf3
    refine ⟨_, rfl, fa, _, rfl, hf3, fun r nr => ?_⟩
    rw [trues_keys]
    have gg : Same H H' := fun b o z => k3 b o (ne_of_none z nfa) (g3 _ _ z)
    exact q r _ (gg.free nr) (gg.trans (same_new nr _)) upd_same
end

section
variable {P : Program} {w : World} {K : PySem.W.Frag} {mg : Str → Option Value} {base : Heap} {pa ta C f f1 f2 f3 f4 f5 f6 f7 f8 : Addr} {fd fd1 fd2 fd3 fd4 fd5 fd6 fd7 fd8 : FuncData}
/-- only the lists that stand there count -/
theorem RowsAt.live {H : Hp} {R : Addr} {ts : List Tm} {Ps : List Addr} (h : RowsAt H R ts Ps) : ∃ Ps', RowsAt H R ts Ps' ∧ ∀ p ∈ Ps', H p ≠ none := by
  classical
  obtain ⟨rs, h1, h2, h3⟩ := h
  refine ⟨Ps.filter fun p => decide (H p ≠ none), ⟨rs, h1, h2, fun i t hi => ?_⟩, fun p hp => of_decide_eq_true (List.mem_filter.mp hp).2⟩
  obtain ⟨r, h, pl, ps, a1, a2, a3, a4, a5, a6⟩ := h3 i t hi
  exact ⟨r, h, pl, ps, a1, a2, a3, a4, List.mem_filter.mpr ⟨a5, decide_eq_true (by rw [a4]; exact fun z => nomatch z)⟩, a6⟩
/-- for each row the names loose in its term, in new lists -/
def spLooseRows : Sp := fun vs H Q _ => ∃ (R : Addr) (ts : List Tm) (Ps : List Addr), vs = [.ref R] ∧ RowsAt H R ts Ps ∧ ts.length ≤ 900000 ∧ (∀ u ∈ ts, u.size ≤ 900000) ∧
  ∀ (S : Addr) (ws : List V) (H' : Hp), H S = none → Same H H' → H' S = some (.lst ws) → NmsAt H' [S] ws (ts.map Tm.loose) → (∀ u ∈ ws, ∀ a, u = .ref a → H a = none) → Q (.ref S) H'
abbrev s_loose_in_rows : Stmt := topS 10
theorem sc_loose_in_rows : FnScope ["rows", "loose", "head", "places", "place"] ["rows"] (defScope s_loose_in_rows) := ⟨rfl, rfl, rfl, by decide +kernel, rfl, by decide +kernel, by decide +kernel⟩
theorem ok_loose_rows (F : Fun K "loose_in_rows" "loose_in_rows" s_loose_in_rows f fd) (C_loose_names : Cal P w K mg base "loose_names" ["head", "loose_in_parts"] 2 spLooseNames f2 fd2) : FnOk P w K mg base CX0 3 f fd ["rows"] spLooseRows := by
  refine F.ok sc_loose_in_rows (fun vs H Q E h => ?_) (fun cdv A outer s H vs Q E hr h => ?_)
  · obtain ⟨R, ts, Ps, rfl, _⟩ := h
    rfl
  obtain ⟨R, ts, Ps0, rfl, hrows0, hln, hall, q⟩ := h
  obtain ⟨Ps, hrows1, hPs⟩ := hrows0.live
  refine ⟨_, (pss_cons (ps_set (i := 1) sc_loose_in_rows.nd rfl (Or.inr rfl) (pe_lst pa_nil))
      (pss_cons (ps_for PassesOwn.never rfl (pi_list (pv 0)) (pg_tup rfl (pgs_cons (pg_name (i := 2) sc_loose_in_rows.nd rfl (Or.inl rfl)) (pgs_cons (pg_name (i := 3) sc_loose_in_rows.nd rfl (Or.inl rfl)) pgs_nil))) (pss_one (ps_expr (pe_bm PySem.F.plainAttrs_list PySem.F.slot_list_append PySem.F.type_list_append mt_append (pv 1) (pa_cons (pe_call C_loose_names.ok (hr.mono (by first | decide | omega)) rfl C_loose_names.m C_loose_names.kp C_loose_names.b .nil pass0 (pa_cons (pv 2) (pa_cons (pe_lc (own := [("place", 4)]) (g := (gName 4)) (tt := tYes) (by rfl) sc_loose_in_rows.nd (pi_list (pv 3)) (blkOk_by (own := [("place", 4)]) (N := ["rows", "loose", "head", "places", "place"]) (sc := defScope s_loose_in_rows) (by decide +kernel)) (fun _ _ _ _ _ => (pg_name (i := 4) sc_loose_in_rows.nd rfl (Or.inl rfl))) (fun _ _ _ _ _ => pts_nil) (fun _ _ _ _ _ => (pe_ix (r := rIxL K) ix_list (pv 1) (pv 4) (fun _ _ => rfl)))) pa_nil))) pa_nil)))))
      (pss_one (ps_ret (pv 1))))), ?_⟩
  refine ⟨Nat.zero_le _, fun S nS => ?_⟩
  have sS := same_new nS (.lst [])
  have hrows := hrows1.keep (Keeps.of_same (Ls := []) sS)
  have hS2 : upd H S (.lst []) S = some (.lst []) := upd_same
  obtain ⟨rs, hR, rl, hrs⟩ := id hrows
  have nSR : S ≠ R := fun z => by obtain ⟨_, z1, _⟩ := id hrows1; rw [← z, nS] at z1; cases z1
  have nSP : S ∉ Ps := fun m => hPs _ m nS
  generalize upd H S (.lst []) = H2 at sS hrows hS2 hR hrs ⊢
  -- the lists are new: none of them stood at the start
  refine ⟨_, rfl, R, rfl, ⟨_, SqL.of hR⟩, for_list (K := K) (a := R) (xs := rs) (fun i σ H' => ∃ (o1 o2 : Option V) (vs : List V), σ = [some (.ref R), some (.ref S), o1, o2, none] ∧ Same H H' ∧ RowsAt H' R ts Ps ∧ H' R = some (.lst rs) ∧ H' S = some (.lst vs) ∧ NmsAt H' [S] vs ((ts.take i).map Tm.loose) ∧
      (∀ u ∈ vs, ∀ a, u = .ref a → H a = none)) ⟨none, none, [], rfl, sS, hrows, hR, hS2, by rw [List.take_zero]; exact True.intro, fun u hu => by cases hu⟩ (fun i σ H' _ ⟨_, _, _, _, _, _, z, _⟩ => SqL.of z) ?_ ?_⟩
  · rintro i x σ H' hi ⟨o1, o2, vs, rfl, g, hrows', hR', hS', hvs, hnew⟩
    have hil : i < ts.length := by
      have z := (List.getElem?_eq_some_iff.mp hi).1
      rw [rl] at z
      exact z
    obtain ⟨rs', hR'', _, hrs'⟩ := id hrows'
    rw [hR'] at hR''
    cases hR''
    obtain ⟨r, h, pl, ps, a1, a2, a3, a4, a5, a6⟩ := hrs' i _ (List.getElem?_eq_getElem hil)
    rw [hi] at a1
    cases a1
    have psl : ps.length ≤ 3 := by rw [a6.len]; exact Tm.len_parts _
    have vl := hvs.len
    rw [List.length_map, List.length_take] at vl
    refine ⟨r, _, rfl, SqT.of a2, rfl, _, _, rfl, _, _, rfl, rfl, ?_⟩
    refine ⟨_, rfl, .inl ⟨rfl, _, SqL.of hS'⟩, _, rfl, _, rfl, pl, rfl, ⟨_, SqL.of a4⟩, fun D nD => ?_⟩
    refine lc_list (K := K) (a := pl) (xs := nats ps) (fun j H3 => Same H' H3 ∧ ∃ ws, H3 D = some (.lst ws) ∧ NmsAt H3 [D, S] ws ((ts[i].parts.take j).map Tm.loose)) ⟨same_new nD _, [], upd_same, by rw [List.take_zero]; exact True.intro⟩ (fun j H3 _ z => SqL.of (z.1 _ _ a4)) ?_ ?_
    · rintro j y H3 hj ⟨g3, ws, hD, hws⟩
      unfold nats at hj
      rw [List.getElem?_map] at hj
      obtain ⟨p, hp⟩ : ∃ p, ps[j]? = some p := by
        cases z : ps[j]? with
        | none => rw [z] at hj; cases hj
        | some p => exact ⟨p, rfl⟩
      rw [hp] at hj
      cases hj
      obtain ⟨u, u1, u2, u3⟩ := a6.at hp
      obtain ⟨la, e9, n9, w9⟩ := hvs.get (i := p) (l := u.loose) (by rw [List.getElem?_map, List.getElem?_take_of_lt u2, u3]; rfl)
      have jl : j < ps.length := (List.getElem?_eq_some_iff.mp hp).1
      have wl := hws.len
      rw [List.length_map, List.length_take] at wl
      have naD : la ≠ D := ne_of_none w9 nD
      refine ⟨rfl, _, rfl, _, rfl, S, _, _, _, rfl, rfl, SqL.of (g3 _ _ hS'), atI_nat e9, _, hD, small1000 (by omega), fun b o z => ?_, _, upd_same, ?_⟩
      · rw [upd_ne (ne_of_none z nD)]
        exact g3 b o z
      · rw [List.take_add_one, u1, List.map_append]
        refine NmsAt.snoc (fun z => (List.mem_cons.mp z).elim naD n9) ?_ (hws.mono fun b o n z => ?_)
        · rw [upd_ne naD]
          exact g3 _ _ w9
        · rw [upd_ne fun (z : b = D) => n (by rw [z]; exact List.mem_cons_self)]
          exact z
    · rintro H3 ⟨g3, ws, hD, hws⟩
      have e9 : (nats ps).length = ts[i].parts.length := by unfold nats; rw [List.length_map]; exact a6.len
      rw [e9, List.take_length] at hws
      have hsz : ts[i].size ≤ 900000 := hall _ (List.getElem_mem hil)
      refine ⟨ts[i], h, D, [D, S], ws, rfl, g3 _ _ a3, hD, hws, hsz, fun u H4 nu e4 wu => ?_⟩
      have g4 := g3.trans e4
      have hS4 := g4 _ _ hS'
      have nuS : u ≠ S := fun z => by rw [z, g3 _ _ hS'] at nu; cases nu
      refine ⟨S, _, _, rfl, rfl, hS4, sz9 (by omega), ?_⟩
      have kS : ∀ b o, b ∉ [S] → H4 b = some o → upd H4 S (.lst (vs ++ [V.ref u])) b = some o := fun b o n z => by
        rw [upd_ne fun (y : b = S) => n (by rw [y]; exact List.mem_cons_self)]
        exact z
      refine ⟨_, _, vs ++ [.ref u], rfl, fun b o z => ?_, (hrows'.keep (Keeps.of_same (Ls := []) g4)).put hS4 nSR nSP, ?_, upd_same, ?_, fun y hy a ea => ?_⟩
      · rw [upd_ne (ne_of_none z nS)]
        exact g4 _ _ (g _ _ z)
      · rw [upd_ne nSR.symm]
        exact g4 _ _ hR'
      · rw [List.take_succ_eq_append_getElem hil, List.map_append]
        refine NmsAt.snoc (fun z => nuS (List.mem_singleton.mp z)) (kS _ _ (fun z => nuS (List.mem_singleton.mp z)) wu) ((hvs.mono fun b o _ z => g4 _ _ z).mono kS)
      · rcases List.mem_append.mp hy with hy | hy
        · exact hnew y hy a ea
        · rw [List.mem_singleton.mp hy] at ea
          cases ea
          exact (g.trans g3).free nu
  · rintro σ H' ⟨o1, o2, vs, rfl, g, hrows', hR', hS', hvs, hnew⟩
    rw [rl, List.take_length] at hvs
    exact ⟨_, rfl, q S vs H' nS g hS' hvs hnew⟩
end

/-! ### kinds and levels of terms, as the document's points 4 to 6 tell -/
theorem _root_.L2.Room.units1 {k : Nat} {A : Around} (r : Room k A) : A.units + 65 < cLine := by have := r.un; omega
inductive Er where
  | noName | level | kind
  deriving DecidableEq
/-- what a name means: its level, for a function the kind of its x, its kind -/
structure Ent where
  lv : Bool
  dom : Option Bool
  k : Bool
  deriving DecidableEq
abbrev Env := Str → Option Ent
def Env.set (e : Env) (x : Str) (u : Ent) : Env := fun y => if y = x then some u else e y
def Env.nil : Env := fun _ => none
abbrev Kd := Except Er Bool
def Kd.want (r : Kd) (k : Bool) : Kd := match r with
  | .error e => .error e
  | .ok j => if j = k then .ok k else .error .kind
def Kd.and (r : Kd) (f : Bool → Kd) : Kd := match r with
  | .error e => .error e
  | .ok j => f j
def kd : Tm → Bool → Env → Bool → Kd
  | .num _, _, _, _ => .ok false
  | .name x, l, E, _ => match E x with
    | none => .error .noName
    | some u => if u.lv = l then (match u.dom with
      | none => .ok u.k
      | some _ => .error .kind) else .error .level
  | .use f a, l, E, fr => match E f with
    | none => .error .noName
    | some u => if u.lv = l then (match u.dom with
      | none => .error .kind
      | some d => ((kd a l E fr).want d).and fun _ => .ok u.k) else .error .level
  | .bin _ a b, l, E, fr => ((kd a l E fr).want false).and fun _ => ((kd b l E fr).want false)
  | .cond c a b, l, E, fr => ((kd c l E fr).want false).and fun _ => (kd a l E fr).and fun k => (kd b l E fr).want k
  | .letx x a b, l, E, fr => (kd a l E fr).and fun k => kd b l (E.set x ⟨l, none, k⟩) fr
  | .turns _ x a b, l, E, fr => (kd a l E fr).and fun k => (kd b l (E.set x ⟨l, none, k⟩) fr).want k
  | .deff f x k a b, l, E, fr => if l = true ∧ k = true then .error .kind else
      (kd a l (E.set x ⟨l, none, k⟩) false).and fun j => kd b l (E.set f ⟨l, some k, j⟩) fr
  | .un .quote a, l, E, _ => if l = true then .error .level else ((kd a true E false).want false).and fun _ => .ok true
  | .un .hole a, l, E, _ => if l = false then .error .level else ((kd a false E false).want true).and fun _ => .ok false
  | .un .lift a, l, E, fr => if l = true then .error .level else ((kd a false E fr).want false).and fun _ => .ok true
  | .un .run a, l, E, fr => if l = true ∨ fr = false then .error .level else ((kd a false E fr).want true).and fun _ => .ok false

/-! ### a scope: names with what they mean, the innermost last -/
abbrev Sc := List (Str × Ent)
def look (sc : Sc) : Env := sc.foldl (fun E p => E.set p.1 p.2) Env.nil
theorem look_snoc (sc : Sc) (x : Str) (u : Ent) : look (sc ++ [(x, u)]) = (look sc).set x u := by
  unfold look
  rw [List.foldl_append]
  rfl
theorem foldl_off {x : Str} : ∀ (post : Sc) (E : Env), (∀ p ∈ post, p.1 ≠ x) → (post.foldl (fun E p => E.set p.1 p.2) E) x = E x
  | [], _, _ => rfl
  | p :: r, E, h => by
    show (r.foldl (fun E p => E.set p.1 p.2) (E.set p.1 p.2)) x = E x
    rw [foldl_off r _ fun q m => h q (List.mem_cons_of_mem _ m)]
    exact if_neg fun e => h p List.mem_cons_self e.symm
theorem look_at {sc : Sc} {i : Nat} {x : Str} {u : Ent} (h : sc[i]? = some (x, u)) (off : ∀ p ∈ sc.drop (i + 1), p.1 ≠ x) : look sc x = some u := by
  have hi : i < sc.length := (List.getElem?_eq_some_iff.mp h).1
  have e : sc = sc.take i ++ (x, u) :: sc.drop (i + 1) := by
    have e1 := (List.take_append_drop i sc).symm
    rw [List.drop_eq_getElem_cons hi] at e1
    rw [List.getElem?_eq_getElem hi] at h
    rw [Option.some.inj h] at e1
    exact e1
  rw [e]
  unfold look
  rw [List.foldl_append]
  show ((sc.drop (i + 1)).foldl (fun E p => E.set p.1 p.2) (Env.set _ x u)) x = some u
  rw [foldl_off _ _ off]
  exact if_pos rfl
def lvI (l : Bool) : Int := if l then 1 else 0
def Ent.sig (u : Ent) : List Bool := match u.dom with
  | none => [u.k]
  | some d => [d, u.k]
theorem sig_val {u : Ent} {k : Bool} (h : u.sig = [k]) : u.dom = none ∧ u.k = k := by
  cases u with
  | mk l d j =>
    cases d with
    | none => cases h; exact ⟨rfl, rfl⟩
    | some d => cases h
theorem sig_fn {u : Ent} {d k : Bool} (h : u.sig = [d, k]) : u.dom = some d ∧ u.k = k := by
  cases u with
  | mk l d j =>
    cases d with
    | none => cases h
    | some d => cases h; exact ⟨rfl, rfl⟩
def sigV (s : List Bool) : List V := s.map fun k => .str (kindS k)
def sigD (s : List Bool) : PyData := .tuple (s.map kindD)
def EntAt (H : Hp) (e : Str × Ent) (v : V) : Prop := ∃ p q, v = .ref p ∧ H p = some (.tup [.str e.1, .int (lvI e.2.lv), .ref q]) ∧ H q = some (.tup (sigV e.2.sig))
def entD (e : Str × Ent) : PyData := .tuple [.str e.1, .int (lvI e.2.lv), sigD e.2.sig]
theorem EntAt.mono {H H' : Hp} {e : Str × Ent} {v : V} (t : Tups H H') : EntAt H e v → EntAt H' e v := fun ⟨p, q, h, a, b⟩ => ⟨p, q, h, t _ _ a, t _ _ b⟩
theorem sig_dps {K : PySem.W.Frag} {H : Hp} : ∀ s : List Bool, DpAll K H (sigV s) (s.map kindD)
  | [] => .nil
  | _ :: r => .cons (.str _) (sig_dps r)
theorem sig_dp {K : PySem.W.Frag} {H : Hp} {q : Addr} {s : List Bool} (h : H q = some (.tup (sigV s))) : Dp K H (.ref q) (sigD s) := .tup (SqT.of h) (sig_dps s)
theorem EntAt.dp {K : PySem.W.Frag} {H : Hp} {e : Str × Ent} {v : V} : EntAt H e v → Dp K H v (entD e) := fun ⟨p, q, h, a, b⟩ => by
  rw [h]
  exact .tup (SqT.of a) (.cons (.str _) (.cons (.int _) (.cons (sig_dp b) .nil)))
def ScAt (H : Hp) : Sc → List V → Prop
  | [], [] => True
  | e :: es, v :: vs => EntAt H e v ∧ ScAt H es vs
  | _, _ => False
theorem ScAt.mono {H H' : Hp} (t : Tups H H') : ∀ {es : Sc} {vs : List V}, ScAt H es vs → ScAt H' es vs
  | [], [], _ => True.intro
  | _ :: _, _ :: _, ⟨h, r⟩ => ⟨h.mono t, ScAt.mono t r⟩
  | [], _ :: _, h => h.elim
  | _ :: _, [], h => h.elim
theorem ScAt.len {H : Hp} : ∀ {es : Sc} {vs : List V}, ScAt H es vs → vs.length = es.length
  | [], [], _ => rfl
  | _ :: _, _ :: _, ⟨_, r⟩ => congrArg (· + 1) (ScAt.len r)
  | [], _ :: _, h => h.elim
  | _ :: _, [], h => h.elim
theorem ScAt.app {H : Hp} : ∀ {es fs : Sc} {vs us : List V}, ScAt H es vs → ScAt H fs us → ScAt H (es ++ fs) (vs ++ us)
  | [], _, [], _, _, g => g
  | _ :: _, _, _ :: _, _, ⟨h, r⟩, g => ⟨h, ScAt.app r g⟩
  | [], _, _ :: _, _, h, _ => h.elim
  | _ :: _, _, [], _, h, _ => h.elim
theorem ScAt.get {H : Hp} : ∀ {es : Sc} {vs : List V} {i : Nat} {v : V}, ScAt H es vs → vs[i]? = some v → ∃ e, es[i]? = some e ∧ EntAt H e v
  | e :: _, v :: _, 0, _, ⟨h, _⟩, g => by rw [← Option.some.inj g]; exact ⟨e, rfl, h⟩
  | _ :: _, _ :: _, i + 1, _, ⟨_, r⟩, g => ScAt.get (i := i) r (by simpa using g)
  | [], [], _, _, _, g => by cases g
  | [], _ :: _, _, _, h, _ => h.elim
  | _ :: _, [], _, _, h, _ => h.elim
theorem ScAt.drop {H : Hp} : ∀ {es : Sc} {vs : List V} (n : Nat), ScAt H es vs → ScAt H (es.drop n) (vs.drop n)
  | _, _, 0, h => h
  | [], [], _ + 1, h => h
  | _ :: _, _ :: _, n + 1, ⟨_, r⟩ => ScAt.drop n r
  | [], _ :: _, _ + 1, h => h.elim
  | _ :: _, [], _ + 1, h => h.elim
theorem ScAt.dps {K : PySem.W.Frag} {H : Hp} : ∀ {es : Sc} {vs : List V}, ScAt H es vs → DpAll K H vs (es.map entD)
  | [], [], _ => .nil
  | _ :: _, _ :: _, ⟨h, r⟩ => .cons h.dp (ScAt.dps r)
  | [], _ :: _, h => h.elim
  | _ :: _, [], h => h.elim
/-- a list of ints is no scope's list -/
theorem ScAt.off {H : Hp} {es : Sc} {vs : List V} {c : Int} {r : List V} {a st : Addr} (h : ScAt H es vs) (ha : H a = some (.lst vs)) (hst : H st = some (.lst (.int c :: r))) : a ≠ st := fun z => by
  rw [z, hst] at ha
  cases ha
  match es, h with
  | e :: _, ⟨⟨p, q, z, _⟩, _⟩ => cases z
def Sc.Ok (sc : Sc) : Prop := ∀ p ∈ sc, PyData.strOk p.1 = true
/-- at level 1 a function's x is a number -/
def Sc.Lv (sc : Sc) : Prop := ∀ p ∈ sc, p.2.lv = true → ∀ d, p.2.dom = some d → d = false
def Sc.Good (sc : Sc) : Prop := sc.Ok ∧ sc.Lv
theorem Sc.Good.snoc {sc : Sc} {x : Str} {u : Ent} (h : sc.Good) (hx : PyData.strOk x = true) (hu : u.lv = true → ∀ d, u.dom = some d → d = false) : Sc.Good (sc ++ [(x, u)]) := by
  refine ⟨fun p hp => ?_, fun p hp => ?_⟩ <;> rcases List.mem_append.mp hp with m | m
  · exact h.1 p m
  · rw [List.mem_singleton.mp m]
    exact hx
  · exact h.2 p m
  · rw [List.mem_singleton.mp m]
    exact hu
theorem Sc.Good.val {sc : Sc} {x : Str} {l k : Bool} (h : sc.Good) (hx : PyData.strOk x = true) : Sc.Good (sc ++ [(x, ⟨l, none, k⟩)]) := h.snoc hx fun _ _ z => nomatch z
theorem ext1 {H : Hp} {sc : Sc} {ws : List V} (hA : ScAt H sc ws) (x : Str) (u : Ent) {pa pb pc pd : Addr} {o : HO} (na : H pa = none) (nb : upd H pa (.tup (sigV u.sig)) pb = none)
    (nc : upd (upd H pa (.tup (sigV u.sig))) pb (.tup [.str x, .int (lvI u.lv), .ref pa]) pc = none) (nd : upd (upd (upd H pa (.tup (sigV u.sig))) pb (.tup [.str x, .int (lvI u.lv), .ref pa])) pc o pd = none) (o2 : HO) :
    Same H (upd (upd (upd (upd H pa (.tup (sigV u.sig))) pb (.tup [.str x, .int (lvI u.lv), .ref pa])) pc o) pd o2) ∧ ScAt (upd (upd (upd (upd H pa (.tup (sigV u.sig))) pb (.tup [.str x, .int (lvI u.lv), .ref pa])) pc o) pd o2) (sc ++ [(x, u)]) (ws ++ [.ref pb]) := by
  have ga := same_new na (.tup (sigV u.sig))
  have gb := same_new nb (.tup [.str x, .int (lvI u.lv), .ref pa])
  have gc := same_new nc o
  have gd := same_new nd o2
  have g := ga.trans (gb.trans (gc.trans gd))
  exact ⟨g, (hA.mono (.of_same g)).app ⟨⟨pb, pa, rfl, gd _ _ (gc _ _ upd_same), gd _ _ (gc _ _ (gb _ _ upd_same))⟩, True.intro⟩⟩
theorem sigD_lay (s : List Bool) : (sigD s).canLay0 = true := by
  have h : ∀ s : List Bool, PyData.canLayAll0 (s.map kindD) = true := fun s => by
    induction s with
    | nil => rfl
    | cons k r ih => simp only [List.map_cons, PyData.canLayAll0, kindD, PyData.canLay0, kindS_ok, ih, Bool.and_self]
  simp only [sigD, PyData.canLay0, h]
theorem sigs_lay : ∀ s : List (List Bool), PyData.canLayAll0 (s.map sigD) = true
  | [] => rfl
  | a :: r => by simp only [List.map_cons, PyData.canLayAll0, sigD_lay, sigs_lay r, Bool.and_self]
theorem ents_lay : ∀ {sc : Sc}, sc.Ok → PyData.canLayAll0 (sc.map entD) = true
  | [], _ => rfl
  | e :: r, h => by
    have := ents_lay (sc := r) fun p m => h p (List.mem_cons_of_mem _ m)
    simp only [List.map_cons, PyData.canLayAll0, entD, PyData.canLay0, sigD_lay, this, h e List.mem_cons_self, Bool.and_self]
theorem sigD_deep (s : List Bool) : (sigD s).depth ≤ 2 := by
  have h : ∀ s : List Bool, PyData.depthAll (s.map kindD) ≤ 1 := fun s => by
    induction s with
    | nil => simp [PyData.depthAll]
    | cons k r ih => simp only [List.map_cons, PyData.depthAll, kindD, PyData.depth]; omega
  have := h s
  simp only [sigD, PyData.depth]
  omega
theorem sigs_deep : ∀ s : List (List Bool), PyData.depthAll (s.map sigD) ≤ 2
  | [] => by simp [PyData.depthAll]
  | a :: r => by have := sigD_deep a; have := sigs_deep r; simp only [List.map_cons, PyData.depthAll]; omega
theorem ents_deep : ∀ sc : Sc, PyData.depthAll (sc.map entD) ≤ 4
  | [] => by simp [PyData.depthAll]
  | a :: r => by have := sigD_deep a.2.sig; have := ents_deep r; simp only [List.map_cons, PyData.depthAll, entD, PyData.depth]; omega
theorem sigD_shaped (s : List Bool) : SeqAt.shaped (sigD s) = true := by
  unfold SeqAt.shaped
  rw [sigD_lay, decide_eq_true (by have := sigD_deep s; omega)]
  rfl
theorem sigs_shaped (s : List (List Bool)) : SeqAt.shaped (.list (s.map sigD)) = true := by
  unfold SeqAt.shaped
  rw [show PyData.canLay0 (.list (s.map sigD)) = true from sigs_lay s, decide_eq_true (by have := sigs_deep s; simp only [PyData.depth]; omega)]
  rfl
theorem ents_shaped {sc : Sc} (h : sc.Ok) : SeqAt.shaped (.list (sc.map entD)) = true := by
  unfold SeqAt.shaped
  rw [show PyData.canLay0 (.list (sc.map entD)) = true from ents_lay h, decide_eq_true (by have := ents_deep sc; simp only [PyData.depth]; omega)]
  rfl
theorem sigD_eq : ∀ {s t : List Bool}, PyData.eqv (sigD s) (sigD t) = true → s = t := by
  have h : ∀ s t : List Bool, PyData.eqvAll (s.map kindD) (t.map kindD) = true → s = t := by
    intro s
    induction s with
    | nil =>
      intro t h
      cases t with
      | nil => rfl
      | cons _ _ => simp [PyData.eqvAll] at h
    | cons a r ih =>
      intro t h
      cases t with
      | nil => simp [PyData.eqvAll] at h
      | cons b q =>
        simp only [List.map_cons, kindD, PyData.eqvAll, PyData.eqv, Bool.and_eq_true, beq_iff_eq] at h
        rw [kindS_inj h.1, ih q h.2]
  intro s t e
  simp only [sigD, PyData.eqv] at e
  exact h s t e
/-- a list of entries == [] -/
theorem ents_nil {sc : Sc} : PyData.eqv (.list (sc.map entD)) (.list []) = true ↔ sc = [] := by
  cases sc with
  | nil => exact ⟨fun _ => rfl, fun _ => by simp [PyData.eqv, PyData.eqvAll]⟩
  | cons a r => exact ⟨fun h => by simp [PyData.eqv, PyData.eqvAll] at h, fun h => by cases h⟩
theorem sig_in {s : List Bool} {ss : List (List Bool)} (h : ((ss.map sigD).any fun z => PyData.eqv z (sigD s)) = true) : s ∈ ss := by
  obtain ⟨z, hz, e⟩ := List.any_eq_true.mp h
  obtain ⟨t, ht, rfl⟩ := List.mem_map.mp hz
  rw [← sigD_eq e]
  exact ht

/-! ### how great a grown term is: depth, going through, size -/
/-- how deep going through it goes, where a function's a is gone through at its use -/
def Tm.hh : Tm → Nat
  | .num _ => 1
  | .name _ => 1
  | .bin _ a b => 1 + max a.hh b.hh
  | .cond c a b => 1 + max c.hh (max a.hh b.hh)
  | .letx _ a b => 1 + max a.hh b.hh
  | .turns _ _ a b => 1 + max a.hh b.hh
  | .deff _ _ _ a b => 1 + (a.hh + b.hh)
  | .use _ a => 1 + a.hh
  | .un _ a => 1 + a.hh
def Tm.vh : Tm → Nat
  | .num _ => 1
  | .name _ => 1
  | .bin _ a b => 1 + max a.vh b.vh
  | .cond c a b => 1 + max c.vh (max a.vh b.vh)
  | .letx _ a b => 2 + max a.vh b.vh
  | .turns _ _ a b => 2 + max a.vh b.vh
  | .deff _ _ _ a b => 2 + (a.vh + b.vh)
  | .use _ a => 2 + a.vh
  | .un _ a => 1 + a.vh
def vB : Nat → Nat
  | 0 => 2
  | 1 => 11
  | d + 2 => 2 * vB (d + 1) + 2
theorem vB_two (d : Nat) : 2 * vB d + 2 ≤ vB (d + 1) := by cases d <;> simp only [vB] <;> omega
theorem vB_low (d : Nat) : 2 ≤ vB d := by
  induction d with
  | zero => simp [vB]
  | succ d ih => have := vB_two d; omega
theorem vB_low1 (d : Nat) : 11 ≤ vB (d + 1) := by
  induction d with
  | zero => simp [vB]
  | succ d ih => have := vB_two (d + 1); omega
theorem vB_up (d : Nat) : vB d + 2 ≤ vB (d + 1) := by have := vB_two d; have := vB_low d; omega
def dB : Nat → Nat
  | 0 => 2
  | d + 1 => 2 * d + 8
def hB : Nat → Nat
  | 0 => 2
  | 1 => 8
  | d + 2 => 2 * hB (d + 1) + 1
def sB : Nat → Nat
  | 0 => 2
  | d + 1 => 3 * sB d + 12
theorem dB_up (d : Nat) : dB d + 1 ≤ dB (d + 1) := by cases d <;> simp only [dB] <;> omega
theorem hB_two (d : Nat) : 2 * hB d + 1 ≤ hB (d + 1) := by cases d <;> simp only [hB] <;> omega
theorem hB_low (d : Nat) : 2 ≤ hB d := by
  induction d with
  | zero => simp [hB]
  | succ d ih => have := hB_two d; omega
theorem hB_low1 (d : Nat) : 8 ≤ hB (d + 1) := by
  induction d with
  | zero => simp [hB]
  | succ d ih => have := hB_two (d + 1); omega
theorem hB_up (d : Nat) : hB d + 1 ≤ hB (d + 1) := by have := hB_two d; omega
theorem sB_low (d : Nat) : 2 ≤ sB d := by cases d <;> simp only [sB] <;> omega
theorem sB_up (d : Nat) : sB d ≤ sB (d + 1) := by simp only [sB]; omega
theorem mono_of {f : Nat → Nat} (h : ∀ d, f d ≤ f (d + 1)) : ∀ {d e : Nat}, d ≤ e → f d ≤ f e := fun {d e} l => by
  induction l with
  | refl => exact Nat.le_refl _
  | step _ ih => exact Nat.le_trans ih (h _)
theorem dB_mono {d e : Nat} (h : d ≤ e) : dB d ≤ dB e := mono_of (fun d => by have := dB_up d; omega) h
theorem hB_mono {d e : Nat} (h : d ≤ e) : hB d ≤ hB e := mono_of (fun d => by have := hB_up d; omega) h
theorem vB_mono {d e : Nat} (h : d ≤ e) : vB d ≤ vB e := mono_of (fun d => by have := vB_up d; omega) h
theorem sB_mono {d e : Nat} (h : d ≤ e) : sB d ≤ sB e := mono_of sB_up h
structure Grown (t : Tm) (d : Nat) : Prop where
  ok : t.Ok
  deep : t.deep ≤ dB d
  hh : t.hh ≤ hB d
  size : t.size ≤ sB d
  vh : t.vh ≤ vB d
theorem Grown.mono {t : Tm} {d e : Nat} (h : d ≤ e) (g : Grown t d) : Grown t e := ⟨g.ok, Nat.le_trans g.deep (dB_mono h), Nat.le_trans g.hh (hB_mono h), Nat.le_trans g.size (sB_mono h), Nat.le_trans g.vh (vB_mono h)⟩
theorem Grown.num (n : Int) (d : Nat) : Grown (.num n) d := .mono (Nat.zero_le d) ⟨True.intro, by show 1 ≤ 2; decide, by show 1 ≤ 2; decide, by show 1 ≤ 2; decide, by show 1 ≤ 2; decide⟩
theorem Grown.name {x : Str} (h : PyData.strOk x = true) (d : Nat) : Grown (.name x) d := .mono (Nat.zero_le d) ⟨h, by show 1 ≤ 2; decide, by show 1 ≤ 2; decide, by show 1 ≤ 2; decide, by show 1 ≤ 2; decide⟩
theorem Grown.unName {o : Un} {x : Str} (h : PyData.strOk x = true) (d : Nat) : Grown (.un o (.name x)) d := .mono (Nat.zero_le d) ⟨h, by show 1 + 1 ≤ 2; decide, by show 1 + 1 ≤ 2; decide, by show 1 + 1 ≤ 2; decide, by show 1 + 1 ≤ 2; decide⟩
theorem Grown.unNum {o : Un} (n : Int) (d : Nat) : Grown (.un o (.num n)) d := .mono (Nat.zero_le d) ⟨True.intro, by show 1 + 1 ≤ 2; decide, by show 1 + 1 ≤ 2; decide, by show 1 + 1 ≤ 2; decide, by show 1 + 1 ≤ 2; decide⟩
section
variable {a b c : Tm} {d : Nat}
theorem Grown.un {o : Un} (g : Grown a d) : Grown (.un o a) (d + 1) := by
  have := dB_up d; have := hB_up d; have := sB_low d; have h1 := g.deep; have h2 := g.hh; have h3 := g.size; have v1 := g.vh; have v0 := vB_two d; have v00 := vB_low d
  refine ⟨g.ok, ?_, ?_, ?_, ?_⟩ <;> simp only [Tm.deep, Tm.hh, Tm.size, Tm.vh, sB] <;> omega
theorem Grown.bin {o : Bin} (g : Grown a d) (k : Grown b d) : Grown (.bin o a b) (d + 1) := by
  have := dB_up d; have := hB_up d; have := sB_low d; have h1 := g.deep; have h2 := g.hh; have h3 := g.size; have v1 := g.vh; have v0 := vB_two d; have v00 := vB_low d; have h4 := k.deep; have h5 := k.hh; have h6 := k.size; have v2 := k.vh
  refine ⟨⟨g.ok, k.ok⟩, ?_, ?_, ?_, ?_⟩ <;> simp only [Tm.deep, Tm.hh, Tm.size, Tm.vh, sB] <;> omega
theorem Grown.cond (m : Grown c d) (g : Grown a d) (k : Grown b d) : Grown (.cond c a b) (d + 1) := by
  have := dB_up d; have := hB_up d; have := sB_low d; have h1 := g.deep; have h2 := g.hh; have h3 := g.size; have v1 := g.vh; have v0 := vB_two d; have v00 := vB_low d; have h4 := k.deep; have h5 := k.hh; have h6 := k.size; have v2 := k.vh; have h7 := m.deep; have h8 := m.hh; have h9 := m.size; have v3 := m.vh
  refine ⟨⟨m.ok, g.ok, k.ok⟩, ?_, ?_, ?_, ?_⟩ <;> simp only [Tm.deep, Tm.hh, Tm.size, Tm.vh, sB] <;> omega
theorem Grown.letx {x : Str} (hx : PyData.strOk x = true) (g : Grown a d) (k : Grown b d) : Grown (.letx x a b) (d + 1) := by
  have := dB_up d; have := hB_up d; have := sB_low d; have h1 := g.deep; have h2 := g.hh; have h3 := g.size; have v1 := g.vh; have v0 := vB_two d; have v00 := vB_low d; have h4 := k.deep; have h5 := k.hh; have h6 := k.size; have v2 := k.vh
  refine ⟨⟨hx, g.ok, k.ok⟩, ?_, ?_, ?_, ?_⟩ <;> simp only [Tm.deep, Tm.hh, Tm.size, Tm.vh, sB] <;> omega
theorem Grown.turns {x : Str} {n : Int} (hn : 0 ≤ n ∧ n ≤ 9) (hx : PyData.strOk x = true) (g : Grown a d) (k : Grown b d) : Grown (.turns n x a b) (d + 1) := by
  have := dB_up d; have := hB_up d; have := sB_low d; have h1 := g.deep; have h2 := g.hh; have h3 := g.size; have v1 := g.vh; have v0 := vB_two d; have v00 := vB_low d; have h4 := k.deep; have h5 := k.hh; have h6 := k.size; have v2 := k.vh
  refine ⟨⟨⟨hn, hx⟩, g.ok, k.ok⟩, ?_, ?_, ?_, ?_⟩ <;> simp only [Tm.deep, Tm.hh, Tm.size, Tm.vh, sB] <;> omega
theorem Grown.deff {f x : Str} {j : Bool} (hf : PyData.strOk f = true) (hx : PyData.strOk x = true) (g : Grown a d) (k : Grown b d) : Grown (.deff f x j a b) (d + 1) := by
  have := dB_up d; have := hB_two d; have := sB_low d; have h1 := g.deep; have h2 := g.hh; have h3 := g.size; have v1 := g.vh; have v0 := vB_two d; have v00 := vB_low d; have h4 := k.deep; have h5 := k.hh; have h6 := k.size; have v2 := k.vh
  refine ⟨⟨⟨hf, hx⟩, g.ok, k.ok⟩, ?_, ?_, ?_, ?_⟩ <;> simp only [Tm.deep, Tm.hh, Tm.size, Tm.vh, sB] <;> omega
theorem Grown.use {f : Str} (hf : PyData.strOk f = true) (g : Grown a d) : Grown (.use f a) (d + 1) := by
  have := dB_up d; have := hB_up d; have := sB_low d; have h1 := g.deep; have h2 := g.hh; have h3 := g.size; have v1 := g.vh; have v0 := vB_two d; have v00 := vB_low d
  refine ⟨⟨hf, g.ok⟩, ?_, ?_, ?_, ?_⟩ <;> simp only [Tm.deep, Tm.hh, Tm.size, Tm.vh, sB] <;> omega
end
/-- what stands within a kept piece's quote -/
structure Inner (t : Tm) (e : Nat) : Prop where
  ok : t.Ok
  deep : t.deep ≤ 2 + dB e
  hh : t.hh ≤ 2 + hB e
  size : t.size ≤ 5 + sB e
  vh : t.vh ≤ 3 + vB e
theorem Inner.twice {x : Str} {n : Int} {a b : Tm} {e : Nat} (hx : PyData.strOk x = true) (ha : Grown a 0) (g : Grown b e) : Inner (.letx x (.num n) (.bin .sum a b)) e := by
  have h1 := ha.deep; have h2 := ha.hh; have h3 := ha.size; have h4 := g.deep; have h5 := g.hh; have h6 := g.size
  have := hB_low e; have := dB_mono (Nat.zero_le e); have e1 : dB 0 = 2 := rfl; have e2 : hB 0 = 2 := rfl; have e3 : sB 0 = 2 := rfl; have v1 := ha.vh; have v2 := g.vh; have v3 := vB_low e; have e4 : vB 0 = 2 := rfl
  refine ⟨⟨hx, True.intro, ha.ok, g.ok⟩, ?_, ?_, ?_, ?_⟩ <;> simp only [Tm.deep, Tm.hh, Tm.size, Tm.vh] <;> omega
theorem Grown.kept {x f : Str} {a b : Tm} {d : Nat} (hx : PyData.strOk x = true) (hf : PyData.strOk f = true) (g : Grown a d) (k : (∃ e, e = d - 2 ∧ Inner b e) ∨ Grown b (d - 1)) :
    Grown (.letx x a (.un .hole (.letx f (.un .quote (.name x)) (.un .quote b)))) (d + 1) := by
  have h1 := g.deep; have h2 := g.hh; have h3 := g.size; have v1 := g.vh; have v0 := vB_up d; have v00 := vB_low1 d
  have q1 := dB_up d; have q2 := hB_up d; have q3 := sB_low d; have q4 := hB_low1 d
  have q5 : 8 ≤ dB (d + 1) := by simp only [dB]; omega
  have okb : b.Ok := by rcases k with ⟨_, _, k⟩ | k <;> exact k.ok
  have hd : 4 + b.deep ≤ dB (d + 1) := by
    rcases k with ⟨e, rfl, k⟩ | k
    · have z := k.deep
      match d, z with
      | 0, z => have y : b.deep ≤ 2 + 2 := z; show 4 + b.deep ≤ 8; omega
      | 1, z => have y : b.deep ≤ 2 + 2 := z; show 4 + b.deep ≤ 2 * 1 + 8; omega
      | 2, z => have y : b.deep ≤ 2 + 2 := z; show 4 + b.deep ≤ 2 * 2 + 8; omega
      | d + 3, z => simp only [show d + 3 - 2 = d + 1 by omega, dB] at z ⊢; omega
    · have z := k.deep
      match d, z with
      | 0, z => have y : b.deep ≤ 2 := z; show 4 + b.deep ≤ 8; omega
      | 1, z => have y : b.deep ≤ 2 := z; show 4 + b.deep ≤ 2 * 1 + 8; omega
      | d + 2, z => simp only [show d + 2 - 1 = d + 1 by omega, dB] at z ⊢; omega
  have hh : 4 + b.hh ≤ hB (d + 1) := by
    rcases k with ⟨e, rfl, k⟩ | k
    · have z := k.hh
      match d, z with
      | 0, z => have y : b.hh ≤ 2 + 2 := z; omega
      | 1, z => have y : b.hh ≤ 2 + 2 := z; omega
      | 2, z => have y : b.hh ≤ 2 + 2 := z; omega
      | d + 3, z => have y1 : 2 * hB (d + 3) + 1 ≤ hB (d + 3 + 1) := hB_two (d + 3); have y2 : 2 * hB (d + 2) + 1 ≤ hB (d + 3) := hB_two (d + 2); have y3 : 2 * hB (d + 1) + 1 ≤ hB (d + 2) := hB_two (d + 1); have y4 := hB_low1 d; simp only [show d + 3 - 2 = d + 1 by omega] at z ⊢; omega
    · have z := k.hh
      match d, z with
      | 0, z => have y : b.hh ≤ 2 := z; omega
      | 1, z => have y : b.hh ≤ 2 := z; omega
      | d + 2, z => have y1 : 2 * hB (d + 2) + 1 ≤ hB (d + 2 + 1) := hB_two (d + 2); have y2 : 2 * hB (d + 1) + 1 ≤ hB (d + 2) := hB_two (d + 1); have y4 := hB_low1 d; simp only [show d + 2 - 1 = d + 1 by omega] at z ⊢; omega
  have hv : 6 + b.vh ≤ vB (d + 1) := by
    rcases k with ⟨e, rfl, k⟩ | k
    · have z := k.vh
      match d, z with
      | 0, z => have y : b.vh ≤ 3 + 2 := z; omega
      | 1, z => have y : b.vh ≤ 3 + 2 := z; omega
      | 2, z => have y : b.vh ≤ 3 + 2 := z; omega
      | d + 3, z => have y1 : 2 * vB (d + 3) + 2 ≤ vB (d + 3 + 1) := vB_two (d + 3); have y2 : 2 * vB (d + 2) + 2 ≤ vB (d + 3) := vB_two (d + 2); have y3 : 2 * vB (d + 1) + 2 ≤ vB (d + 2) := vB_two (d + 1); have y4 := vB_low1 d; simp only [show d + 3 - 2 = d + 1 by omega] at z ⊢; omega
    · have z := k.vh
      match d, z with
      | 0, z => have y : b.vh ≤ 2 := z; omega
      | 1, z => have y : b.vh ≤ 2 := z; omega
      | d + 2, z => have y1 : 2 * vB (d + 2) + 2 ≤ vB (d + 2 + 1) := vB_two (d + 2); have y2 : 2 * vB (d + 1) + 2 ≤ vB (d + 2) := vB_two (d + 1); have y4 := vB_low1 d; simp only [show d + 2 - 1 = d + 1 by omega] at z ⊢; omega
  have hs : b.size ≤ 5 + sB d := by
    rcases k with ⟨e, rfl, k⟩ | k
    · have z := k.size; have y := sB_mono (show d - 2 ≤ d by omega); omega
    · have z := k.size; have y := sB_mono (show d - 1 ≤ d by omega); omega
  refine ⟨⟨hx, g.ok, hf, hx, okb⟩, ?_, ?_, ?_, ?_⟩ <;> simp only [Tm.deep, Tm.hh, Tm.size, Tm.vh, sB] <;> omega

/-! ### a dict by keys of any depth, its values as they are -/
mutual
inductive KyAt (H : Hp) : NestedKey → V → Prop
  | non : KyAt H .none .non
  | bl (b : Bool) : KyAt H (.num (if b = true then 1 else 0)) (.bl b)
  | int (i : Int) : KyAt H (.num i) (.int i)
  | str (x : Str) : KyAt H (.text x) (.str x)
  | tup {a : Addr} {xs : List V} {ks : List NestedKey} : H a = some (.tup xs) → KyAll H ks xs → KyAt H (.tup ks) (.ref a)
inductive KyAll (H : Hp) : List NestedKey → List V → Prop
  | nil : KyAll H [] []
  | cons {k : NestedKey} {v : V} {ks : List NestedKey} {vs : List V} : KyAt H k v → KyAll H ks vs → KyAll H (k :: ks) (v :: vs)
end
mutual
theorem KyAt.mono {H H' : Hp} (e : Tups H H') : ∀ (k : NestedKey) (v : V), KyAt H k v → KyAt H' k v
  | .num _, _, h => by
    cases h with
    | bl b => exact .bl b
    | int _ => exact .int _
  | .text _, _, h => by cases h; exact .str _
  | .tup ks, _, h => by
    cases h with
    | tup ha hk => exact .tup (e _ _ ha) (KyAll.mono e ks _ hk)
  | .none, _, h => by cases h; exact .non
theorem KyAll.mono {H H' : Hp} (e : Tups H H') : ∀ (ks : List NestedKey) (vs : List V), KyAll H ks vs → KyAll H' ks vs
  | [], _, h => by cases h; exact .nil
  | k :: ks, _, h => by
    cases h with
    | cons h1 h2 => exact .cons (KyAt.mono e k _ h1) (KyAll.mono e ks _ h2)
end
section
variable {X : Cx} {pins : List (Addr × Obj)} {σ : L2.St} {H : Hp} {s : Shared}
mutual
theorem KyAt.is (I : Inv X pins σ H s) : ∀ (k : NestedKey) (v : V) (u : Value), KyAt H k v → RelV v u → NestedIs s.heap k u
  | .num _, _, _, h, r => by
    cases h with
    | bl b =>
      obtain rfl := r
      exact .bool rfl
    | int _ =>
      obtain ⟨t, rfl⟩ := r
      exact .int _ t
  | .text _, _, _, h, r => by
    cases h
    obtain ⟨t, rfl⟩ := r
    exact .text _ t
  | .tup ks, _, _, h, r => by
    cases h with
    | tup ha hk =>
      obtain rfl := r
      obtain ⟨its, rv, ⟨o, ho, hc, n, hd⟩, _⟩ := I.tuple (SqT.of ha)
      exact .tup ho hc hd (KyAll.is I ks _ _ hk rv)
  | .none, _, _, h, r => by
    cases h
    obtain rfl := r
    exact .none
theorem KyAll.is (I : Inv X pins σ H s) : ∀ (ks : List NestedKey) (vs : List V) (us : List Value), KyAll H ks vs → Vals vs us → NestedAll s.heap ks us
  | [], _, _, h, r => by
    cases h
    cases r
    exact .nil
  | k :: ks, _, _, h, r => by
    cases h with
    | cons h1 h2 =>
      cases r with
      | cons r1 r2 => exact .cons (KyAt.is I k _ _ h1 r1) (KyAll.is I ks _ _ h2 r2)
end
end
/-- an entry: its key, where the key's tuple stands, its value -/
abbrev KE := List (NestedKey × Addr × V)
abbrev RelE (x : NestedKey × Addr × V) (y : NestedKey × Addr × Value) : Prop := x.1 = y.1 ∧ x.2.1 = y.2.1 ∧ RelV x.2.2 y.2.2
def rawE (P : Program) (w : World) (d : Addr) (xs : KE) : HO := .ext fun h => (d == sysModules) = false ∧ xs.length ≤ sizeLine ∧ (xs.map (·.1)).Nodup ∧
  ∃ ys : List (NestedKey × Addr × Value), Paired RelE xs ys ∧ ∃ o es ep, h.get? d = some o ∧ o.ExactDict ∧ o.data = .dict es ep ∧ es.toList = ys.map (entryOfKey (nestedKind P w))
def IsEx (P : Program) (w : World) (H : Hp) (d : Addr) (xs : KE) : Prop := H d = some (rawE P w d xs) ∨ (H d = some (.dK []) ∧ xs = [])
def atE (xs : KE) (k : NestedKey) : Option V := (xs.find? fun x => decide (x.1 = k)).map (·.2.2)
def KsAt (H : Hp) (xs : KE) : Prop := ∀ e ∈ xs, KyAt H e.1 (.ref e.2.1) ∧ e.1.depth ≤ 8
open PySem PySem.Spec PyProof.Rows
theorem rel_keys : ∀ {xs : KE} {ys : List (NestedKey × Addr × Value)}, Paired RelE xs ys → ys.map (·.1) = xs.map (·.1)
  | _, _, .nil => rfl
  | _, _, .cons h t => by rw [List.map_cons, List.map_cons, rel_keys t, h.1]
theorem rel_mem : ∀ {xs : KE} {ys : List (NestedKey × Addr × Value)}, Paired RelE xs ys → ∀ y ∈ ys, ∃ x ∈ xs, RelE x y
  | _, _, .nil, _, h => by cases h
  | _, _, .cons h t, y, m => by
    rcases List.mem_cons.mp m with e | m
    · rw [e]
      exact ⟨_, List.mem_cons_self, h⟩
    · obtain ⟨x, hx, r⟩ := rel_mem t y m
      exact ⟨x, List.mem_cons_of_mem _ hx, r⟩
theorem rel_at {k : NestedKey} : ∀ {xs : KE} {ys : List (NestedKey × Addr × Value)}, Paired RelE xs ys → (∀ v, atE xs k = some v → ∃ p, atKey ys k = some p ∧ RelV v p.2) ∧ (atE xs k = none → atKey ys k = none)
  | _, _, .nil => ⟨fun v h => (by cases h), fun _ => rfl⟩
  | x :: xs, y :: ys, .cons h t => by
    have ih := rel_at (k := k) t
    unfold atE atKey at ih ⊢
    by_cases e : x.1 = k
    · have e' : y.1 = k := h.1.symm.trans e
      rw [List.find?_cons_of_pos (by exact decide_eq_true e), List.find?_cons_of_pos (by exact decide_eq_true e')]
      exact ⟨fun v hv => ⟨y.2, rfl, by cases hv; exact h.2.2⟩, fun z => by cases z⟩
    · have e' : ¬ y.1 = k := fun z => e (h.1.trans z)
      rw [List.find?_cons_of_neg (by simpa using e), List.find?_cons_of_neg (by simpa using e')]
      exact ih
theorem hu9 {k : Nat} {A : Around} (r : Room k A) : A.in1.units + 8 < cLine := by have := r.un; show A.units + 1 + 8 < _; omega
section
variable {X : Cx} {pins : List (Addr × Obj)} {σ : L2.St} {H : Hp} {s : Shared} {d : Addr} {xs : KE} {A : Around} {E : Value → Shared → Prop}
theorem isE_at (I : Inv X pins σ H s) (h : IsEx X.prog X.w H d xs) : (d == sysModules) = false ∧ xs.length ≤ sizeLine ∧ (xs.map (·.1)).Nodup ∧
    ∃ ys : List (NestedKey × Addr × Value), Paired RelE xs ys ∧ ∃ o es ep, s.heap.get? d = some o ∧ o.ExactDict ∧ o.data = .dict es ep ∧ es.toList = ys.map (entryOfKey (nestedKind X.prog X.w)) := by
  rcases h with h | ⟨h, rfl⟩
  · exact (I.hok d _ h).1
  · obtain ⟨_, hd, vs, rel, o, es, ep, ho, he, hdat, hes, q1, q2⟩ := I.hok d _ h
    cases rel
    refine ⟨hd, Nat.zero_le _, List.Pairwise.nil, [], .nil, o, es, ep, ho, he, hdat, ?_⟩
    generalize es.toList = l at q1
    cases q1
    rfl
theorem isE_dict (I : Inv X pins σ H s) (h : IsEx X.prog X.w H d xs) (hk : KsAt H xs) : (d == sysModules) = false ∧ xs.length ≤ sizeLine ∧ ∃ ys, Paired RelE xs ys ∧ s.heap.DictOfH (nestedKind X.prog X.w) d ys := by
  obtain ⟨hsy, hl, nd, ys, rel, o, es, ep, ho, he, hdat, hes⟩ := isE_at I h
  refine ⟨hsy, hl, ys, rel, o, es, ep, ho, he, hdat, hes, fun y hy => ?_, by rw [rel_keys rel]; exact nd⟩
  obtain ⟨x, hx, r1, r2, _⟩ := rel_mem rel y hy
  rw [← r1, ← r2]
  exact ⟨KyAt.is I _ _ _ (hk x hx).1 rfl, (hk x hx).2⟩
theorem isE_mut (h : IsEx X.prog X.w H d xs) : Mut (H d) := by
  rcases h with h | ⟨h, _⟩ <;> rw [h] <;> exact True.intro
def tKNotIn (P : Program) (w : World) (ty td : TE) : TE := fun σ H Q => ty σ H fun y H1 => td σ H1 fun x H2 => ∃ (d a : Addr) (xs : KE) (k : NestedKey), x = .ref d ∧ y = .ref a ∧ IsEx P w H2 d xs ∧ KsAt H2 xs ∧ KyAt H2 k (.ref a) ∧ k.depth ≤ 8 ∧ Q (.bl (!(atE xs k).isSome)) H2
theorem pc_knotin {i o : Expr} {ty td : TE} (hu : X.A.in1.units + 8 < cLine) (hi : PE X i ty) (ho : PE X o td) : PC X .NotIn i o (tKNotIn X.prog X.w ty td) := by
  refine ⟨fun pins s σ H Q I h => ?_⟩
  refine thn (hi.run pins s σ H _ I h) fun iv s1 ⟨y, H1, I1, ry, q1⟩ => thn (ho.run pins s1 σ H1 _ I1 q1) fun u s2 ⟨x, H2, I2, rx, d, a, xs, k, ex, ey, hx, hks, hk, hd, q2⟩ => ?_
  subst ex ey
  obtain rfl : u = Value.ref d := rx
  obtain rfl : iv = Value.ref a := ry
  obtain ⟨hsy, _, ys, rel, dd⟩ := isE_dict I2 hx hks
  refine wpAny_notIn_heap (knd := nestedKind X.prog X.w) (k := k) hu ⟨KyAt.is I2 _ _ _ hk rfl, hd⟩ hsy dd ?_
  have e : (atKey ys k).isSome = (atE xs k).isSome := by
    obtain ⟨r1, r2⟩ := rel_at (k := k) rel
    cases z : atE xs k with
    | none => rw [r2 z]; rfl
    | some v => obtain ⟨p, hp, _⟩ := r1 v z; rw [hp]; rfl
  rw [e]
  exact ⟨.bl (!(atE xs k).isSome), H2, I2.tok _, rfl, q2⟩
def tKGet (P : Program) (w : World) (td ty : TE) : TE := fun σ H Q => td σ H fun x H1 => ty σ H1 fun y H2 => ∃ (d a : Addr) (xs : KE) (k : NestedKey) (v : V), x = .ref d ∧ y = .ref a ∧ IsEx P w H2 d xs ∧ KsAt H2 xs ∧ KyAt H2 k (.ref a) ∧ k.depth ≤ 8 ∧ atE xs k = some v ∧ Q v H2
theorem pe_kget {o i : Expr} {pos : Pos} {td ty : TE} (hu : X.A.in1.units + 8 < cLine) (ho : PE X o td) (hi : PE X i ty) (hs : NoSl i) : PE X (.Subscript o i pos) (tKGet X.prog X.w td ty) := by
  refine ⟨fun pins s σ H Q I h => ?_⟩
  refine subD_of PySem.F.slot_dict_getitem.lookup hs (thn (ho.run pins s σ H _ I h) fun u s1 ⟨x, H1, I1, rx, q1⟩ => thn (hi.run pins s1 σ H1 _ I1 q1) fun iv s2 ⟨y, H2, I2, ry, d, a, xs, k, v, ex, ey, hx, hks, hk, hd, hv, q2⟩ => ?_)
  subst ex ey
  obtain rfl : u = Value.ref d := rx
  obtain rfl : iv = Value.ref a := ry
  obtain ⟨hsy, _, ys, rel, dd⟩ := isE_dict I2 hx hks
  obtain ⟨p, hp, rv⟩ := (rel_at (k := k) rel).1 v hv
  exact ⟨dd.typeIs, wpAny_getItem_heap (knd := nestedKind X.prog X.w) (k := k) hu ⟨KyAt.is I2 _ _ _ hk rfl, hd⟩ dd hp ⟨v, H2, I2.tok _, rv, q2⟩⟩
def putAtE (k : NestedKey) (v : V) (x : NestedKey × Addr × V) : NestedKey × Addr × V := if x.1 = k then (x.1, x.2.1, v) else x
def putE (xs : KE) (k : NestedKey) (a : Addr) (v : V) : KE := if (atE xs k).isSome then xs.map (putAtE k v) else xs ++ [(k, a, v)]
theorem rel_put {k : NestedKey} {v : V} {r : Value} (rv : RelV v r) : ∀ {xs : KE} {ys : List (NestedKey × Addr × Value)}, Paired RelE xs ys → Paired RelE (xs.map (putAtE k v)) (ys.map (putAt k r))
  | _, _, .nil => .nil
  | x :: _, y :: _, .cons h t => by
    refine .cons ?_ (rel_put rv t)
    unfold putAtE putAt
    by_cases e : x.1 = k
    · rw [if_pos e, if_pos (h.1.symm.trans e)]
      exact ⟨h.1, h.2.1, rv⟩
    · rw [if_neg e, if_neg fun z => e (h.1.trans z)]
      exact h
theorem rel_isSome {k : NestedKey} {xs : KE} {ys : List (NestedKey × Addr × Value)} (rel : Paired RelE xs ys) : (atKey ys k).isSome = (atE xs k).isSome := by
  obtain ⟨r1, r2⟩ := rel_at (k := k) rel
  cases z : atE xs k with
  | none => rw [r2 z]; rfl
  | some v => obtain ⟨p, hp, _⟩ := r1 v z; rw [hp]; rfl
theorem atE_mem {k : NestedKey} {v : V} : ∀ {xs : KE}, atE xs k = some v → ∃ x ∈ xs, x.1 = k ∧ x.2.2 = v
  | [], h => by cases h
  | x :: xs, h => by
    unfold atE at h
    by_cases e : x.1 = k
    · rw [List.find?_cons_of_pos (by exact decide_eq_true e)] at h
      exact ⟨x, List.mem_cons_self, e, Option.some.inj h⟩
    · rw [List.find?_cons_of_neg (by simpa using e)] at h
      obtain ⟨y, hy, z⟩ := atE_mem (xs := xs) h
      exact ⟨y, List.mem_cons_of_mem _ hy, z⟩
theorem mem_putE {xs : KE} {k : NestedKey} {a : Addr} {v : V} {x : NestedKey × Addr × V} (h : x ∈ putE xs k a v) : x ∈ xs ∨ (x.1 = k ∧ x.2.2 = v ∧ (x.2.1 = a ∨ ∃ y ∈ xs, y.1 = k ∧ y.2.1 = x.2.1)) := by
  unfold putE at h
  split at h
  · obtain ⟨y, hy, e⟩ := List.mem_map.mp h
    unfold putAtE at e
    by_cases z : y.1 = k
    · rw [if_pos z] at e
      rw [← e]
      exact .inr ⟨z, rfl, .inr ⟨y, hy, z, rfl⟩⟩
    · rw [if_neg z] at e
      rw [← e]
      exact .inl hy
  · rcases List.mem_append.mp h with h | h
    · exact .inl h
    · rw [List.mem_singleton.mp h]
      exact .inr ⟨rfl, rfl, .inl rfl⟩
theorem atE_map {k : NestedKey} {v : V} : ∀ {xs : KE}, (atE xs k).isSome = true → atE (xs.map (putAtE k v)) k = some v
  | [], h => by cases h
  | x :: xs, h => by
    unfold atE at h ⊢
    rw [List.map_cons]
    by_cases e : x.1 = k
    · have e1 : putAtE k v x = (x.1, x.2.1, v) := if_pos e
      rw [e1, List.find?_cons_of_pos (by exact decide_eq_true e)]
      rfl
    · have e1 : putAtE k v x = x := if_neg e
      rw [List.find?_cons_of_neg (by simpa using e)] at h
      rw [e1, List.find?_cons_of_neg (by simpa using e)]
      exact atE_map (xs := xs) h
theorem atE_put (xs : KE) (k : NestedKey) (a : Addr) (v : V) : atE (putE xs k a v) k = some v := by
  unfold putE
  split
  · rename_i h
    exact atE_map h
  · rename_i h
    unfold atE at h ⊢
    have n : xs.find? (fun x => decide (x.1 = k)) = none := by
      cases z : xs.find? (fun x => decide (x.1 = k)) with
      | none => rfl
      | some y => rw [z] at h; exact absurd rfl h
    rw [List.find?_append, n]
    simp
theorem putE_len (xs : KE) (k : NestedKey) (a : Addr) (v : V) : (putE xs k a v).length ≤ xs.length + 1 := by
  unfold putE
  split
  · rw [List.length_map]; omega
  · rw [List.length_append]; exact Nat.le_refl _
def sKPut (P : Program) (w : World) (td ty tv : TE) : TS := fun D σ H => tv σ H fun v H1 => td σ H1 fun x H2 => ty σ H2 fun y H3 => ∃ (d a : Addr) (xs : KE) (k : NestedKey), x = .ref d ∧ y = .ref a ∧ IsEx P w H3 d xs ∧ KsAt H3 xs ∧ KyAt H3 k (.ref a) ∧ k.depth ≤ 8 ∧
  xs.length < sizeLine ∧ D.nx σ (upd H3 d (rawE P w d (putE xs k a v)))
theorem ps_kput {o i value : Expr} {pos pos' : Pos} {td ty tv : TE} (hu : X.A.in1.units + 8 < cLine) (ho : PE X o td) (hi : PE X i ty) (hv : PE X value tv) (hs : swapsWith value (some (.Subscript o i pos')) pos.line X.env = pure false) :
    PS X (.Assign [.Subscript o i pos'] value pos) (sKPut X.prog X.w td ty tv) := by
  refine ⟨fun pins s σ H D I h => ?_⟩
  refine wpAny_Assign_Subscript (thn (hv.run pins s σ H _ I h) fun r s1 ⟨v, H1, I1, rv, q1⟩ => thn (ho.run pins s1 σ H1 _ I1 q1) fun u s2 ⟨x, H2, I2, rx, q2⟩ => thn (hi.run pins s2 σ H2 _ I2 q2) fun iv s3 ⟨y, H3, I3, ry, d, a, xs, k, ex, ey, hx, hks, hk, hd, hl, q3⟩ => ?_) hs
  subst ex ey
  obtain rfl : u = Value.ref d := rx
  obtain rfl : iv = Value.ref a := ry
  obtain ⟨hsy, hl0, ys, rel, dd⟩ := isE_dict I3 hx hks
  refine wpAny_setItem_heap (knd := nestedKind X.prog X.w) (k := k) (hsz := by rw [← Paired.length rel]; exact hl0) hu ⟨KyAt.is I3 _ _ _ hk rfl, hd⟩ dd fun h' dd' hs' => ?_
  have rel' : Paired RelE (putE xs k a v) (storedH ys k a r) := by
    unfold putE storedH
    rw [rel_isSome (k := k) rel]
    by_cases z : (atE xs k).isSome = true
    · rw [if_pos z, if_pos z]
      exact rel_put rv rel
    · rw [if_neg z, if_neg z]
      exact Paired.snoc rel ⟨rfl, rfl, rv⟩
  obtain ⟨ob, es, ep, ho', he, hdat, hes, _, nd'⟩ := dd'
  have new : ObjOk X.prog X.w (upd H3 d (rawE X.prog X.w d (putE xs k a v))) h' d (rawE X.prog X.w d (putE xs k a v)) := by
    refine ⟨⟨hsy, Nat.le_trans (putE_len _ _ _ _) hl, by rw [← rel_keys rel']; exact nd', _, rel', ob, es, ep, ho', he, hdat, hes⟩, ⟨ob, ho'⟩, ?_⟩
    rintro g1 g2 ⟨p1, p2, p3, zs, p4, o1, es1, ep1, q1, q⟩ kp
    exact ⟨p1, p2, p3, zs, p4, o1, es1, ep1, kp _ q1, q⟩
  exact ⟨σ, _, d_write (t' := s3.toks + (nestedKind X.prog X.w).draws k) I3 (isE_mut hx) hs' ⟨ob, ho'⟩ new, q3⟩
end

/-! ### {**d, k: v} -/
section
open PySem PySem.Spec
variable {prog : Program} {w : World} {κ : Type} [DecidableEq κ] {knd : KeyKind prog w κ} {A : Around} {E : Value → Shared → Prop} {s : Shared}
theorem wpAny_dictPut_pairs {d : Addr} {kvs : List (κ × Value)} {k : κ} {key v : Value} {Q : Unit → Shared → Prop} (hkey : knd.is k key = true) (hm : s.heap.DictOf knd d kvs)
    (hQ : ∀ h', h'.DictOf knd d (stored kvs k v) → Heap.SameBut d s.heap h' → Q () { s with heap := h' })
    (hsz : kvs.length ≤ sizeLine) :
    wpAny (model prog w) A (dictPut d (knd.hash k) key v) Q E s := by
  obtain ⟨o, es, ep, ho, hc, hd, hk, hp, hn⟩ := hm
  have hes : es.size ≤ sizeLine := by have e1 := hp.length; have e2 : es.toList.length = es.size := by simp
                                      omega
  unfold dictPut
  refine wpAny_bind (wpAny_dictFind_of hkey ho hd hk ?_)
  have hidx : (es.findIdx? fun e => knd.is k e.key) = kvs.findIdx? fun kv => decide (kv.1 = k) := by
    rw [← hp.findIdx k]; obtain ⟨l⟩ := es; simp
  cases hi : es.findIdx? fun e => knd.is k e.key with
  | some i =>
    refine wpAny_updateDict ho hd (hQ _ ⟨_, _, ep, Heap.get?_update_self _ ho (Obj.isFreed_of_dict (Obj.data_mapDict hd _)),
      hc.mapDict _, Obj.data_mapDict hd _, hk.modify _ _, ?_, ?_⟩ (Heap.SameBut.update ..))
    · rw [stored, if_pos (any_of_findIdx_some (hidx ▸ hi))]
      have hl : (es.toList.findIdx? fun e => knd.is k e.key) = some i := by rw [← hi]; obtain ⟨l⟩ := es; simp
      have := hp.modify hn hl v
      obtain ⟨l⟩ := es
      simpa using this
    · rw [stored, if_pos (any_of_findIdx_some (hidx ▸ hi)), keys_map_store]; exact hn
  | none =>
    have hnot : k ∉ kvs.map (·.1) := not_mem_of_findIdx_none (hidx ▸ hi)
    have hany : ¬ (kvs.any fun kv => decide (kv.1 = k)) = true := by
      rw [List.any_eq_true]; rintro ⟨kv, hkv, he⟩
      exact hnot (List.mem_map.mpr ⟨kv, hkv, of_decide_eq_true he⟩)
    refine wpAny_updateDictKeys (hz := hes) ho hd (hQ _ ⟨_, _, ep + 1, Heap.get?_update_self _ ho (Obj.isFreed_of_dict (Obj.data_mapDictKeys hd _)),
      hc.mapDictKeys _, Obj.data_mapDictKeys hd _, hk.push hkey _, ?_, ?_⟩ (Heap.SameBut.update ..))
    · rw [stored, if_neg hany]
      have := hp.append hkey (knd.hash k) v
      obtain ⟨l⟩ := es
      simpa using this
    · rw [stored, if_neg hany, List.map_append, List.nodup_append]
      refine ⟨hn, by simp, ?_⟩
      intro a ha b hb
      simp only [List.map_cons, List.map_nil, List.mem_singleton] at hb
      subst hb
      exact fun e => hnot (e ▸ ha)
theorem noRefKeys {es : Array DictEntry} (hk : KeysOf knd es) {P : DictEntry → Sem (ForInStep PUnit)} (hP : ∀ e ∈ es.toList, carriedByValue e.key = true → P e = pure (.yield PUnit.unit)) :
    (forIn es PUnit.unit fun e (_ : PUnit) => P e) = pure PUnit.unit := by
  rw [← Array.forIn_toList]
  refine forIn_yield_id _ fun e he c => ?_
  obtain ⟨k, hkey, _⟩ := hk e (Array.mem_toList_iff.mp he)
  exact hP e he (knd.byValue k _ hkey)
set_option pp.maxSteps 100000 in
theorem wpAny_mergeMapping {d o : Addr} {kvs more : List (κ × Value)} {Q : Unit → Shared → Prop} (hdo : d ≠ o) (hoS : (o == sysModules) = false)
    (hd : s.heap.DictOf knd d kvs) (ho : s.heap.DictOf knd o more)
    (hQ : ∀ h', h'.DictOf knd d (merged kvs more) → h'.DictOf knd o more → Heap.SameBut d s.heap h' → Q () { s with heap := h' })
    (hsz : kvs.length + more.length ≤ sizeLine) :
    wpAny (model prog w) A (mergeMapping d (.ref o) false) Q E s := by
  obtain ⟨od, esd, epd, hod, hcd, hdd, hkd, hpd, hnd⟩ := id hd
  obtain ⟨oo, eso, epo, hoo, hco, hdo', hko, hpo, hno⟩ := id ho
  have hlen : more.length = eso.size := by rw [← hpo.length]; simp
  unfold mergeMapping
  refine wpAny_bind (wpAny_isInstance ho.typeIs isSubtype_dict_dict ?_)
  dsimp only
  rw [if_pos rfl]
  refine wpAny_bind (wpAny_specialOf ho.typeIs F.slot_dict_iter.lookup (wpAny_bind (wpAny_pure ?_)))
  simp only [beq_self_eq_true]
  rw [if_neg (by rw [hoS]; exact Bool.false_ne_true)]
  refine wpAny_bind (wpAny_dictEntries hod hdd ?_)
  have pre : ∀ {J : Sem Unit} {P : Array DictEntry → DictEntry → Sem (ForInStep PUnit)}, (∀ e ∈ eso.toList, carriedByValue e.key = true → P eso e = pure (.yield PUnit.unit)) → wpAny (model prog w) A J Q E s →
      wpAny (model prog w) A (if esd.isEmpty = true then (do let es ← dictEntries o; forIn es PUnit.unit fun e (_ : PUnit) => P es e; J) else J) Q E s := fun hP hJ => by
    split
    · refine wpAny_bind (wpAny_dictEntries hoo hdo' (wpAny_bind ?_))
      rw [noRefKeys hko hP]
      exact wpAny_pure hJ
    · exact hJ
  refine pre (fun e he c => ?_) ?_
  · cases h : e.key <;> first | rfl | (rw [h] at c; cases c)
  refine wpAny_bind (wpAny_dictEntries hoo hdo' ?_)
  refine wpAny_bind (wpAny_dictEpoch hoo hdo' ?_)
  refine wpAny_bind ?_
  rw [List.range_eq_range']
  refine wpAny_forIn_list _
    (fun rest _ s' => ∃ h' i, s' = { s with heap := h' } ∧ rest = List.range' i (eso.size - i) ∧ i ≤ eso.size ∧ h'.DictOf knd d (merged kvs (more.take i)) ∧ h'.get? o = some oo ∧ Heap.SameBut d s.heap h')
    _ ?_ ?_ _ _ ⟨s.heap, 0, rfl, by simp, Nat.zero_le _, by simpa [merged] using hd, hoo, Heap.SameBut.refl _ _⟩
  · rintro x rest b s' ⟨h', i, rfl, hr, hi, hd', hoo', hs'⟩
    have hlt : i < eso.size := by
      rcases Nat.lt_or_ge i eso.size with h | h
      · exact h
      · rw [Nat.sub_eq_zero_of_le h] at hr; simp at hr
    obtain ⟨rfl, hrest⟩ : x = i ∧ rest = List.range' (i + 1) (eso.size - (i + 1)) := by
      have e : eso.size - i = (eso.size - (i + 1)) + 1 := by omega
      rw [e, List.range'_succ] at hr
      injection hr with h1 h2
      exact ⟨h1, h2⟩
    refine wpAny_bind (wpAny_dictEntries hoo' hdo' ?_)
    rw [Array.getElem?_eq_getElem hlt]
    obtain ⟨kv, hkv⟩ : ∃ kv, more[x]? = some kv := ⟨more[x]'(by rw [hlen]; exact hlt), List.getElem?_eq_getElem _⟩
    obtain ⟨k, v⟩ := kv
    obtain ⟨hkey, hval⟩ := hpo.get? (e := eso[x]) (by simp [hlt]) hkv
    obtain ⟨k', hkey', hhash⟩ := hko eso[x] (Array.getElem_mem hlt)
    obtain rfl : k' = k := knd.inj _ _ _ hkey' hkey
    have hmx : (merged kvs (more.take x)).length ≤ sizeLine := by
      have e1 := merged_length_le kvs (more.take x)
      have e2 : (more.take x).length ≤ more.length := by rw [List.length_take]; omega
      omega
    refine wpAny_bind (wpAny_holding ?_)
    rw [if_neg Bool.false_ne_true]
    rw [hhash, hval]
    refine wpAny_dictPut_pairs (hsz := hmx) hkey hd' fun h'' hd'' hs'' => ?_
    have hoo'' : h''.get? o = some oo := (hs''.2 o (Ne.symm hdo)).trans hoo'
    refine wpAny_bind (wpAny_dictEpoch hoo'' hdo' ?_)
    rw [if_neg (by simp)]
    exact wpAny_pure ⟨h'', x + 1, rfl, hrest, hlt, by rw [merged_take_succ kvs more x (k', v) hkv]; exact hd'', hoo'', hs'.trans hs''⟩
  · rintro b s' ⟨h', i, rfl, hr, hi, hd', hoo', hs'⟩
    have hin : i = eso.size := by
      rcases Nat.lt_or_ge i eso.size with h | h
      · have e : eso.size - i = (eso.size - (i + 1)) + 1 := by omega
        rw [e, List.range'_succ] at hr; exact nomatch hr
      · exact Nat.le_antisymm hi h
    refine wpAny_pure (hQ h' ?_ ⟨oo, eso, epo, hoo', hco, hdo', hko, hpo, hno⟩ hs')
    rw [hin, ← hlen, List.take_length] at hd'; exact hd'
end
section
open PySem PySem.Spec
variable {X : Cx}
/-- {**m, k: v}: the new dict p is filled from m, then from one more new dict q that holds k alone -/
def tStarD (tm tk tv : TE) : TE := fun σ H Q => ∀ p, H p = none → tm σ (upd H p (.dK [])) fun x H1 => ∃ (a : Addr) (kvs : List (Key × V)), x = .ref a ∧ p ≠ a ∧ H1 a = some (.dK kvs) ∧ H1 p = some (.dK []) ∧ kvs.length < sizeLine ∧
  ∀ q, upd H1 p (.dK kvs) q = none → tk σ (upd (upd H1 p (.dK kvs)) q (.dK [])) fun y H2 => tv σ H2 fun z H3 => H3 p = some (.dK kvs) ∧ H3 q = some (.dK []) ∧ ∃ k, y = kV k ∧ Q (.ref p) (upd (upd H3 q (.dK [(k, z)])) p (.dK (putK kvs k z)))
theorem KV.keys {κ : Type} [DecidableEq κ] {kvs : List (κ × V)} {vs : List (κ × Value)} (r : KV kvs vs) : kvs.map (·.1) = vs.map (·.1) := by
  unfold KV at r
  induction r with
  | nil => rfl
  | cons h t ih => rw [List.map_cons, List.map_cons, ih, h.1]
theorem pe_star {m k v : Expr} {pos : Pos} {tm tk tv : TE} (hm : PE X m tm) (hk : PE X k tk) (hv : PE X v tv) : PE X (.Dict [none, some k] [m, v] pos) (tStarD tm tk tv) := by
  refine ⟨fun pins s σ H Q I q => ?_⟩
  have hn := I.hok.fresh (Nat.le_refl s.heap.objs.size)
  have I1 := I.laid (a := s.heap.objs.size) (o := .dK []) (h' := s.heap.push { cls := .type "dict", data := .dict #[] }) (t' := s.toks) (fun _ _ q => Heap.get?_push_of_some _ q) (Nat.le_refl _) (dk_empty s.heap I.big)
  rw [arm_eval_Dict]
  refine wpAny_bind (wpAny_standAt ?_)
  show wpAny _ _ (dictDisplay [(none, do let x ← eval m X.env; standAt pos; pure x), (some (eval k X.env), do let x ← eval v X.env; standAt pos; pure x)]) _ _ _
  unfold dictDisplay
  dsimp only
  simp only [List.forIn_cons, List.forIn_nil, List.isEmpty_nil, if_true, pure_bind, bind_assoc]
  refine wpAny_bind (wpAny_alloc ?_)
  refine wpAny_bind (wpAny_holding (wpAny_bind (thn (hm.run pins _ σ _ _ I1 (q _ hn)) fun u s1 ⟨x, H1, I2, rx, a, kvs, ex, pa, ha, hp, hz, q2⟩ => wpAny_bind (wpAny_standAt (wpAny_pure ?_)))))
  subst ex
  obtain rfl : u = Value.ref a := rx
  obtain ⟨z0, hsp, vs0, r0, dp⟩ := dk_of I2.hok hp
  cases r0
  obtain ⟨z1, hsa, vs, rel, da⟩ := dk_of I2.hok ha
  have lv : kvs.length = vs.length := by have e := congrArg List.length rel.keys; simpa using e
  have nv : (vs.map (·.1)).Nodup := let ⟨_, _, _, _, _, _, _, _, n⟩ := da; n
  refine wpAny_bind (wpAny_onRaise (wpAny_tryCatch (wpAny_onRaise (wpAny_holding (wpAny_mergeMapping (knd := mixKind X.prog X.w) pa hsa dp da (fun h' dp' _ hs => ?_) (by simp; omega))))))
  rw [merged_nil_of_nodup _ nv] at dp'
  have hex : ∀ {h' : Heap} {b : Addr} {zs : List (Key × Value)}, h'.DictOf (mixKind X.prog X.w) b zs → ∃ q, h'.get? b = some q := fun dd' => let ⟨q, _, _, hq, _⟩ := dd'; ⟨q, hq⟩
  have I3 := d_write (t' := s1.toks) I2 (by rw [hp]; exact True.intro) hs (hex dp') (dk_new z1 hsp rel dp')
  simp only [List.nil_append, List.length_singleton, show ((1 : Nat) == 17) = false from rfl, Bool.false_eq_true, if_false, pure_bind, List.isEmpty_cons]
  have hn3 := I3.hok.fresh (Nat.le_refl _)
  have I4 := I3.laid (a := h'.objs.size) (o := .dK []) (h' := h'.push { cls := .type "dict", data := .dict #[] }) (t' := s1.toks) (fun _ _ q => Heap.get?_push_of_some _ q) (Nat.le_refl _) (dk_empty h' I3.big)
  refine wpAny_bind (wpAny_bind (wpAny_holding (wpAny_subDict (knd := mixKind X.prog X.w) (by simp) (evalPairs_cons (thn (hk.run pins _ σ _ _ I4 (q2 _ hn3)) fun u2 s2 ⟨y, H2, I5, ry, q3⟩ => wpAny_bind (thn (hv.run pins _ σ _ _ I5 q3) fun u3 s3 ⟨z, H3, I6, rz, hp3, hq3, key, ey, q4⟩ => wpAny_bind (wpAny_standAt (wpAny_pure (evalPairs_nil ?_)))))))))
  subst ey
  obtain ⟨_, hsq, vs4, r4, dq⟩ := dk_of I6.hok hq3
  cases r4
  refine ⟨[(key, u3)], ⟨kV_is ry, rfl, True.intro⟩, dq, fun h5 dq' hs5 => ?_⟩
  rw [merged_nil_of_nodup [(key, u3)] (List.nodup_cons.mpr ⟨List.not_mem_nil, List.nodup_nil⟩)] at dq'
  have rel5 : KV [(key, z)] [(key, u3)] := .cons ⟨rfl, rz⟩ .nil
  have I7 := d_write (t' := s3.toks + 1) I6 (by rw [hq3]; exact True.intro) hs5 (hex dq') (dk_new (kvs := [(key, z)]) (small (by show 1 ≤ 1000; decide)) hsq rel5 dq')
  have npq : s.heap.objs.size ≠ h'.objs.size := fun e => by rw [← e, upd_same] at hn3; cases hn3
  have hp7 : upd H3 h'.objs.size (.dK [(key, z)]) s.heap.objs.size = some (.dK kvs) := by rw [upd_ne npq]; exact hp3
  obtain ⟨_, _, vs7, rel7, dp7⟩ := dk_of I7.hok hp7
  have lv7 : kvs.length = vs7.length := by have e := congrArg List.length rel7.keys; simpa using e
  refine wpAny_bind (wpAny_onRaise (wpAny_holding (wpAny_mergeMapping (knd := mixKind X.prog X.w) npq hsq dp7 dq' (fun h8 dp8 _ hs8 => ?_) (by rw [List.length_singleton]; omega))))
  refine wpAny_pure (wpAny_pure ⟨.ref s.heap.objs.size, _, ?_, rfl, q4⟩)
  refine d_write I7 (by rw [hp7]; exact True.intro) hs8 (hex dp8) (dk_new ?_ hsp (rel7.put key rz) dp8)
  have := length_putK kvs key z
  omega
end

/-! ### what a name means, as the program keeps it -/
theorem ps_never {X : Cx} {st : Stmt} : PS X st (fun _ _ _ => False) := ⟨fun _ _ _ _ _ _ h => h.elim⟩
def mean (u : Ent) : List V := match u.dom with
  | none => [.str "value", .int (lvI u.lv), .str (kindS u.k)]
  | some d => [.str "function", .int (lvI u.lv), .str (kindS d), .str (kindS u.k)]
def meanK (u : Ent) : List NestedKey := match u.dom with
  | none => [.text "value", .num (lvI u.lv), .text (kindS u.k)]
  | some d => [.text "function", .num (lvI u.lv), .text (kindS d), .text (kindS u.k)]
def entK : Option Ent → NestedKey
  | none => .none
  | some u => .tup (meanK u)
theorem mean_key (H : Hp) (u : Ent) : KyAll H (meanK u) (mean u) := by
  unfold meanK mean
  cases u.dom with
  | none => exact .cons (.str _) (.cons (.int _) (.cons (.str _) .nil))
  | some d => exact .cons (.str _) (.cons (.int _) (.cons (.str _) (.cons (.str _) .nil)))
theorem lvI_inj {a b : Bool} (h : lvI a = lvI b) : a = b := by cases a <;> cases b <;> first | rfl | cases h
theorem entK_inj : ∀ {a b : Option Ent}, entK a = entK b → a = b
  | none, none, _ => rfl
  | none, some _, h => by cases h
  | some _, none, h => by cases h
  | some ⟨l, none, k⟩, some ⟨l', none, k'⟩, h => by
    simp only [entK, meanK, NestedKey.tup.injEq, List.cons.injEq, NestedKey.num.injEq, NestedKey.text.injEq] at h
    rw [lvI_inj h.2.1, kindS_inj h.2.2.1]
  | some ⟨l, some d, k⟩, some ⟨l', some d', k'⟩, h => by
    simp only [entK, meanK, NestedKey.tup.injEq, List.cons.injEq, NestedKey.num.injEq, NestedKey.text.injEq] at h
    rw [lvI_inj h.2.1, kindS_inj h.2.2.1, kindS_inj h.2.2.2.1]
  | some ⟨l, none, k⟩, some ⟨l', some d', k'⟩, h => by simp [entK, meanK] at h
  | some ⟨l, some d, k⟩, some ⟨l', none, k'⟩, h => by simp [entK, meanK] at h
theorem entK_deep (o : Option Ent) : (entK o).depth ≤ 1 := by
  rcases o with _ | ⟨l, d, k⟩
  · exact Nat.zero_le _
  · cases d <;> simp [entK, meanK, NestedKey.depth, NestedKey.depthAll]
theorem ents_flat (E : Env) : ∀ ls : List Str, NestedKey.depthAll (ls.map fun x => entK (E x)) ≤ 1
  | [] => Nat.zero_le _
  | x :: r => by
    have := entK_deep (E x)
    have := ents_flat E r
    simp only [List.map_cons, NestedKey.depthAll]
    omega
def keyOf (p : Nat) (l b : Bool) (ms : List NestedKey) : NestedKey := .tup [.num (p : Int), .num (lvI l), .num (if b = true then 1 else 0), .tup ms]
theorem keyOf_deep (p : Nat) (l b : Bool) (E : Env) (ls : List Str) : (keyOf p l b (ls.map fun x => entK (E x))).depth ≤ 8 := by
  have := ents_flat E ls
  simp only [keyOf, NestedKey.depth, NestedKey.depthAll]
  omega
theorem num_b_inj {a b : Bool} (h : (if a = true then (1 : Int) else 0) = if b = true then 1 else 0) : a = b := by cases a <;> cases b <;> first | rfl | simp at h
theorem keyOf_inj {p q : Nat} {l l' b b' : Bool} {ms ns : List NestedKey} (h : keyOf p l b ms = keyOf q l' b' ns) : p = q ∧ l = l' ∧ b = b' ∧ ms = ns := by
  unfold keyOf at h
  simp only [NestedKey.tup.injEq, List.cons.injEq, NestedKey.num.injEq, and_true] at h
  exact ⟨Int.ofNat.inj h.1, lvI_inj h.2.1, num_b_inj h.2.2.1, h.2.2.2⟩
/-! ### a kind rests on the loose names alone -/
theorem set_agree {E E' : Env} {x : Str} {u : Ent} {r : List Str} (h : ∀ y ∈ keep (.str x) r, E y = E' y) : ∀ y ∈ r, E.set x u y = E'.set x u y := fun y hy => by
  unfold Env.set
  by_cases e : y = x
  · rw [if_pos e, if_pos e]
  · rw [if_neg e, if_neg e]
    exact h y (keep_mem.mpr ⟨hy, fun z => e (V.str.inj z)⟩)
theorem kd_agree : ∀ (t : Tm) {E E' : Env} (l fr : Bool), (∀ x ∈ t.raw, E x = E' x) → kd t l E fr = kd t l E' fr := by
  intro t
  induction t with
  | num n => intro E E' l fr _; rfl
  | name x => intro E E' l fr h; simp only [kd, h x (by simp [Tm.raw])]
  | bin o a b iha ihb => intro E E' l fr h; simp only [kd, iha l fr fun x m => h x (List.mem_append_left _ m), ihb l fr fun x m => h x (List.mem_append_right _ m)]
  | cond c a b ihc iha ihb => intro E E' l fr h; simp only [kd, ihc l fr fun x m => h x (List.mem_append_left _ m), iha l fr fun x m => h x (List.mem_append_right _ (List.mem_append_left _ m)), ihb l fr fun x m => h x (List.mem_append_right _ (List.mem_append_right _ m))]
  | letx x a b iha ihb =>
    intro E E' l fr h
    have e : (fun k => kd b l (E.set x ⟨l, none, k⟩) fr) = fun k => kd b l (E'.set x ⟨l, none, k⟩) fr := funext fun k => ihb l fr (set_agree fun y m => h y (List.mem_append_right _ m))
    simp only [kd, iha l fr fun y m => h y (List.mem_append_left _ m), e]
  | turns n x a b iha ihb =>
    intro E E' l fr h
    have e : (fun k => (kd b l (E.set x ⟨l, none, k⟩) fr).want k) = fun k => (kd b l (E'.set x ⟨l, none, k⟩) fr).want k := funext fun k => by rw [ihb l fr (set_agree fun y m => h y (List.mem_append_right _ m))]
    simp only [kd, iha l fr fun y m => h y (List.mem_append_left _ m), e]
  | deff f x k a b iha ihb =>
    intro E E' l fr h
    have e : (fun j => kd b l (E.set f ⟨l, some k, j⟩) fr) = fun j => kd b l (E'.set f ⟨l, some k, j⟩) fr := funext fun j => ihb l fr (set_agree fun y m => h y (List.mem_append_right _ m))
    simp only [kd, iha l false (set_agree (u := ⟨l, none, k⟩) fun y m => h y (List.mem_append_left _ m)), e]
  | use f a iha => intro E E' l fr h; simp only [kd, h f List.mem_cons_self, iha l fr fun x m => h x (List.mem_cons_of_mem _ m)]
  | un o a iha =>
    intro E E' l fr h
    have h' : ∀ x ∈ a.raw, E x = E' x := h
    cases o <;> simp only [kd, iha _ _ h']
theorem kd_loose {t : Tm} {E E' : Env} {l fr : Bool} (h : (t.loose.map fun x => entK (E x)) = t.loose.map fun x => entK (E' x)) : kd t l E fr = kd t l E' fr :=
  kd_agree t l fr fun x m => entK_inj (List.map_inj_left.mp h x (mem_putAll.mpr (.inr m)))
/-! ### a written dict: .get -/
def WD (K : PySem.W.Frag) (w : World) (p : Addr) : Prop := ∃ es n, K.lookup p = some ⟨.type "dict", none, .dict es n, #[]⟩ ∧ PySem.W.KeysLit w.params es.toList ∧ (p == sysModules) = false
def WGot : Option Value → V → VK → Hp → Prop
  | none, z, Q, H => Q z H
  | some u, _, Q, H => ∃ v, RelV v u ∧ Q v H
def tWGet2 (K : PySem.W.Frag) (w : World) (td ty tx : TE) : TE := fun σ H Q => td σ H fun x H1 => ∃ p, x = .ref p ∧ WD K w p ∧ ty σ H1 fun y H2 => tx σ H2 fun z H3 => ∃ (x0 : Str) (r : Option Value), y = .str x0 ∧ PySem.W.nsIn K p x0 = some r ∧ WGot r z Q H3
theorem pe_wget2 {X : Cx} {o e f : Expr} {apos cpos : Pos} {td ty tx : TE} (ho : PE X o td) (he : PE X e ty) (hf : PE X f tx) (m : M2 X o "get" apos e f cpos) : PE X (.Call (.Attribute o "get" apos) [e, f] [] cpos) (tWGet2 X.K X.w td ty tx) := by
  refine ⟨fun pins s σ H Q I h => ?_⟩
  refine wpAny_Call_method m.base m.few m.line PySem.F.plainAttrs_dict PySem.F.slot_dict_get PySem.F.type_dict_get (thn (ho.run pins s σ H _ I h) fun u s1 ⟨x, H1, I1, rx, p, ex, ⟨es, n, hl, hk, low⟩, q1⟩ => ?_)
  subst ex
  obtain rfl : u = Value.ref p := rx
  have hm1 := PySem.W.mapOf_K (prog := X.prog) (w := X.w) I1.kIn hl hk
  refine ⟨hm1.typeIs, fun b q => ?_, ?_⟩
  · cases q
    exact ⟨_, I1.kIn _ _ hl, rfl⟩
  rw [m.trees]
  refine Calls.callWith_builtin rfl (Calls.evalArgs_plain (Calls.spliced_cons (thn (he.run pins s1 σ H1 _ I1 q1) fun iv s2 ⟨y, H2, I2, ry, q2⟩ =>
    Calls.spliced_cons (thn (hf.run pins s2 σ H2 _ I2 q2) fun fv s3 ⟨z, H3, I3, rz, x0, r, ey, hr, q3⟩ => Calls.spliced_nil ?_))))
  subst ey
  obtain ⟨t, rfl⟩ := (show ∃ t, iv = Value.str x0 t from ry)
  have hm := PySem.W.mapOf_K (prog := X.prog) (w := X.w) I3.kIn hl hk
  have hf := PySem.W.find_K hl hr
  refine call_meetsIn PySem.F.slot_dict_get hm.typeIs PySem.F.entry_dict_get (PySem.F.args_dict_get_3 _ _ _) (meets_dict_get_default (strKind X.prog X.w) p (strKind_is X.prog X.w x0 t) low fv) ⟨_, hm, ?_⟩
  rw [hf]
  cases r with
  | none => exact ⟨z, H3, I3.tok _, rz, q3⟩
  | some u => obtain ⟨v, rv, q⟩ := q3; exact ⟨v, H3, I3.tok _, rv, q⟩
/-! ### a local name that holds a def -/
structure HeldK (P : Program) (w : World) (K : PySem.W.Frag) (mg : Str → Option Value) (base : Heap) (k : Nat) (f : Addr) (sp : Sp) : Prop where
  ex : ∃ (fd : FuncData) (ps : List Str), FnOk P w K mg base CX0 k f fd ps sp ∧ PySem.W.keepIn K (.ref f) = true ∧ Binds K fd ps []
def tCallK (P : Program) (w : World) (K : PySem.W.Frag) (mg : Str → Option Value) (base : Heap) (k i : Nat) (E : XK) (t : TA) : TE := fun σ H Q => ∃ f sp, σ[i]? = some (some (.ref f)) ∧ HeldK P w K mg base k f sp ∧ t σ H fun vs H1 => sp vs H1 Q E
theorem pe_callK {X : Cx} {k i : Nat} {E : XK} {x : Str} {p pos : Pos} {e : Expr} {es : List Expr} {t : TA} (hr : Room k X.A) (hN : X.N[i]? = some x) (hv : Vis X.env.scope x) (ha : PA X (e :: es) t)
    (hdb : (x == ("__debug__" : Str)) = false := by decide) (hcd : (x == ("__classdict__" : Str)) = false := by decide)
    (he : starEach (e :: es) X.env = (false, eval e X.env) :: starEach es X.env := by rfl) (hpl : (backTo pos (starEach es X.env)).any (·.1) = false := by rfl) : PE X (.Call (.Name x p) (e :: es) [] pos) (tCallK X.prog X.w X.K X.mg X.base k i E t) := by
  refine ⟨fun pins s σ H Q I h => ?_⟩
  obtain ⟨f, sp, hs, ⟨⟨fd, ps, F, hk, hb⟩⟩, ht⟩ := h
  refine (pe_callL (i := i) (f := f) (sp := sp) (dvs := []) (E := E) F hr hN hv hk hb .nil (fun _ _ _ _ _ _ _ z => z.elim) ha hdb hcd he hpl).run pins s σ H Q I ⟨hs, ?_⟩
  have e0 : (fun (vs : List V) (H1 : Hp) => sp (vs ++ []) H1 Q E) = fun vs H1 => sp vs H1 Q E := by
    funext vs H1
    rw [List.append_nil]
  show t σ H (fun vs H1 => sp (vs ++ []) H1 Q E)
  rw [e0]
  exact ht
theorem FnOk.weakK {P : Program} {w : World} {K : PySem.W.Frag} {mg : Str → Option Value} {base : Heap} {CX : CXT} {k : Nat} {f : Addr} {fd : FuncData} {ps : List Str} {sp sp' : Sp} (F : FnOk P w K mg base CX k f fd ps sp) (h : ∀ vs H Q E, sp' vs H Q E → sp vs H Q E) :
    FnOk P w K mg base CX k f fd ps sp' := ⟨fun vs H Q E q => F.len vs H Q E (h _ _ _ _ q), fun A outer s H args us vs Q E hr e b v q => F.run A outer s H args us vs Q E hr e b v (h _ _ _ _ q)⟩

/-! ### how the heap bears it -/
theorem iteN {c A B : Prop} [Decidable c] (h : ¬ c) (b : B) : if c then A else B := by
  rw [if_neg h]
  exact b
theorem iteY {c A B : Prop} [Decidable c] (h : c) (a : A) : if c then A else B := by
  rw [if_pos h]
  exact a
theorem fk_lb : ¬ (("level" : Str) = "barred") := by decide +kernel
theorem fk_ln : ¬ (("level" : Str) = "names") := by decide +kernel
theorem fk_bn : ¬ (("barred" : Str) = "names") := by decide +kernel
theorem fk_rl : ¬ (("rows" : Str) = "loose") := by decide +kernel
theorem fk_rk : ¬ (("rows" : Str) = "known") := by decide +kernel
theorem fk_lk : ¬ (("loose" : Str) = "known") := by decide +kernel
theorem putG_few {f : Str} {v : V} {fs : List (Str × V)} {n : Nat} (h : fs.length ≤ n) (l : n + 1 < 1000 := by decide) : (putF f v fs).length < 1000 := by have := length_putF f v fs; omega
def af (l b n : V) : List (Str × V) := putF "names" n (putF "barred" b (putF "level" l []))
theorem af_level (l b n : V) : (af l b n).lookup ("level" : Str) = some l := by
  unfold af
  rw [lookup_putF, if_neg fk_ln, lookup_putF, if_neg fk_lb, lookup_putF, if_pos rfl]
theorem af_barred (l b n : V) : (af l b n).lookup ("barred" : Str) = some b := by
  unfold af
  rw [lookup_putF, if_neg fk_bn, lookup_putF, if_pos rfl]
theorem af_names (l b n : V) : (af l b n).lookup ("names" : Str) = some n := by
  unfold af
  rw [lookup_putF, if_pos rfl]
theorem af_no (l b n : V) {m : Str} (h1 : ¬ m = "names") (h2 : ¬ m = "barred") (h3 : ¬ m = "level") : (af l b n).lookup m = none := by
  unfold af
  rw [lookup_putF, if_neg h1, lookup_putF, if_neg h2, lookup_putF, if_neg h3]
  rfl
def kf (R S D : Addr) : List (Str × V) := putF "known" (.ref D) (putF "loose" (.ref S) (putF "rows" (.ref R) []))
theorem kf_rows (R S D : Addr) : (kf R S D).lookup ("rows" : Str) = some (.ref R) := by
  unfold kf
  rw [lookup_putF, if_neg fk_rk, lookup_putF, if_neg fk_rl, lookup_putF, if_pos rfl]
theorem kf_loose (R S D : Addr) : (kf R S D).lookup ("loose" : Str) = some (.ref S) := by
  unfold kf
  rw [lookup_putF, if_neg fk_lk, lookup_putF, if_pos rfl]
theorem kf_known (R S D : Addr) : (kf R S D).lookup ("known" : Str) = some (.ref D) := by
  unfold kf
  rw [lookup_putF, if_pos rfl]
theorem kf_no (R S D : Addr) {m : Str} (h1 : ¬ m = "known") (h2 : ¬ m = "loose") (h3 : ¬ m = "rows") : (kf R S D).lookup m = none := by
  unfold kf
  rw [lookup_putF, if_neg h1, lookup_putF, if_neg h2, lookup_putF, if_neg h3]
  rfl
/-- at D stands a dict -/
def Nd (H : Hp) (D : Addr) : Prop := ∃ o, H D = some o ∧ (∀ ys, o ≠ .lst ys) ∧ (∀ ys, o ≠ .tup ys) ∧ ∀ c d f, o ≠ .ins c d f
theorem Nd.lst {H : Hp} {D b : Addr} {ys : List V} (n : Nd H D) (h : H b = some (.lst ys)) : b ≠ D := fun e => by
  obtain ⟨o, h1, h2, _⟩ := n
  rw [e, h1] at h
  exact h2 _ (Option.some.inj h)
theorem Nd.tup {H : Hp} {D b : Addr} {ys : List V} (n : Nd H D) (h : H b = some (.tup ys)) : b ≠ D := fun e => by
  obtain ⟨o, h1, _, h2, _⟩ := n
  rw [e, h1] at h
  exact h2 _ (Option.some.inj h)
theorem Nd.ins {H : Hp} {D b c d : Addr} {f : List (Str × V)} (n : Nd H D) (h : H b = some (.ins c d f)) : b ≠ D := fun e => by
  obtain ⟨o, h1, _, _, h2⟩ := n
  rw [e, h1] at h
  exact h2 _ _ _ (Option.some.inj h)
theorem Nd.tups {H H' : Hp} {D : Addr} (n : Nd H D) (b : But D H H') : Tups H H' := fun a ys h => b a _ (n.tup h) h
theorem IsEx.nd {P : Program} {w : World} {H : Hp} {D : Addr} {xs : KE} (h : IsEx P w H D xs) : Nd H D := by
  rcases h with h | ⟨h, _⟩
  · exact ⟨_, h, fun ys z => (by unfold rawE at z; cases z), fun ys z => (by unfold rawE at z; cases z), fun c d f z => (by unfold rawE at z; cases z)⟩
  · exact ⟨_, h, fun ys z => (by cases z), fun ys z => (by cases z), fun c d f z => (by cases z)⟩
def RowK (H : Hp) (R : Addr) (ts : List Tm) : Prop := ∃ rs : List V, H R = some (.lst rs) ∧ rs.length = ts.length ∧ ∀ (i : Nat) (t : Tm), ts[i]? = some t →
  ∃ (r h pl : Addr) (ps : List Nat), rs[i]? = some (.ref r) ∧ H r = some (.tup [.ref h, .ref pl]) ∧ H h = some (.tup t.head) ∧ H pl = some (.lst (nats ps)) ∧ PlacesOf ts i t.parts ps
theorem RowsAt.rowK {H : Hp} {R : Addr} {ts : List Tm} {Ps : List Addr} (h : RowsAt H R ts Ps) : RowK H R ts := by
  obtain ⟨rs, h1, h2, h3⟩ := h
  refine ⟨rs, h1, h2, fun i t hi => ?_⟩
  obtain ⟨r, h, pl, ps, a1, a2, a3, a4, _, a6⟩ := h3 i t hi
  exact ⟨r, h, pl, ps, a1, a2, a3, a4, a6⟩
theorem RowK.but {H H' : Hp} {R D : Addr} {ts : List Tm} (n : Nd H D) (b : But D H H') (h : RowK H R ts) : RowK H' R ts := by
  obtain ⟨rs, h1, h2, h3⟩ := h
  refine ⟨rs, b _ _ (n.lst h1) h1, h2, fun i t hi => ?_⟩
  obtain ⟨r, h, pl, ps, a1, a2, a3, a4, a6⟩ := h3 i t hi
  exact ⟨r, h, pl, ps, a1, b _ _ (n.tup a2) a2, b _ _ (n.tup a3) a3, b _ _ (n.lst a4) a4, a6⟩
def LsAt (H : Hp) (ws : List V) (ts : List Tm) : Prop := ws.length = ts.length ∧ ∀ (i : Nat) (t : Tm), ts[i]? = some t → ∃ a, ws[i]? = some (.ref a) ∧ H a = some (.lst (t.loose.map V.str))
theorem LsAt.but {H H' : Hp} {D : Addr} {ws : List V} {ts : List Tm} (n : Nd H D) (b : But D H H') (h : LsAt H ws ts) : LsAt H' ws ts := ⟨h.1, fun i t hi => by
  obtain ⟨a, h1, h2⟩ := h.2 i t hi
  exact ⟨a, h1, b _ _ (n.lst h2) h2⟩⟩
/-- an entry of the memo tells right -/
def Tells (ts : List Tm) (x : NestedKey × Addr × V) : Prop := ∃ (p : Nat) (t : Tm) (l b k : Bool) (ms : List NestedKey), x.1 = keyOf p l b ms ∧ ts[p]? = some t ∧ x.2.2 = .str (kindS k) ∧ ∀ E : Env, (t.loose.map fun x => entK (E x)) = ms → kd t l E (!b) = .ok k
structure KI (P : Program) (w : World) (CK : Addr) (H : Hp) (kb R S D : Addr) (ts : List Tm) (c : Nat) : Prop where
  ins : ∃ dx, H kb = some (.ins CK dx (kf R S D))
  rows : RowK H R ts
  loose : ∃ ws, H S = some (.lst ws) ∧ LsAt H ws ts
  few : ts.length ≤ 900000 ∧ ∀ u ∈ ts, u.size ≤ 900000
  memo : ∃ xs, IsEx P w H D xs ∧ KsAt H xs ∧ xs.length ≤ c ∧ ∀ x ∈ xs, Tells ts x
section
variable {P : Program} {w : World} {CK CA : Addr} {H H' : Hp} {kb R S D : Addr} {ts : List Tm} {c c' : Nat}
theorem KI.nd (h : KI P w CK H kb R S D ts c) : Nd H D := by
  obtain ⟨xs, h1, _⟩ := h.memo
  exact h1.nd
theorem KI.keep (h : KI P w CK H kb R S D ts c) (b : But D H H') (m : ∃ xs, IsEx P w H' D xs ∧ KsAt H' xs ∧ xs.length ≤ c' ∧ ∀ x ∈ xs, Tells ts x) : KI P w CK H' kb R S D ts c' where
  ins := by
    obtain ⟨dx, z⟩ := h.ins
    exact ⟨dx, b _ _ (h.nd.ins z) z⟩
  rows := h.rows.but h.nd b
  loose := by
    obtain ⟨ws, z, y⟩ := h.loose
    exact ⟨ws, b _ _ (h.nd.lst z) z, y.but h.nd b⟩
  few := h.few
  memo := m
theorem KsAt.mono {xs : KE} (e : Tups H H') (h : KsAt H xs) : KsAt H' xs := fun x hx => ⟨KyAt.mono e _ _ (h x hx).1, (h x hx).2⟩
theorem IsEx.keep {xs : KE} (h : IsEx P w H D xs) (e : ∀ o, H D = some o → H' D = some o) : IsEx P w H' D xs := by
  rcases h with h | ⟨h, z⟩
  · exact .inl (e _ h)
  · exact .inr ⟨e _ h, z⟩
theorem KI.same (h : KI P w CK H kb R S D ts c) (e : Same H H') : KI P w CK H' kb R S D ts c := by
  obtain ⟨xs, h1, h2, h3, h4⟩ := h.memo
  exact h.keep (.of_same e) ⟨xs, h1.keep fun o z => e _ _ z, h2.mono (.of_same e), h3, h4⟩
theorem KI.more (h : KI P w CK H kb R S D ts c) (l : c ≤ c') : KI P w CK H kb R S D ts c' := by
  obtain ⟨xs, h1, h2, h3, h4⟩ := h.memo
  exact h.keep (.refl _ _) ⟨xs, h1, h2, Nat.le_trans h3 l, h4⟩
/-- what stands around a term -/
def Names (H : Hp) (kvs : List (Key × V)) (E : Env) : Prop := ∀ x, match E x with
  | none => valV kvs (.inr x) = none
  | some u => ∃ p, valV kvs (.inr x) = some (.ref p) ∧ H p = some (.tup (mean u))
def Ard (CA : Addr) (H : Hp) (D r : Addr) (l b : Bool) (E : Env) (e : Nat) : Prop := ∃ (dx nd : Addr) (kvs : List (Key × V)), H r = some (.ins CA dx (af (.int (lvI l)) (.bl b) (.ref nd))) ∧ nd ≠ D ∧ H nd = some (.dK kvs) ∧ kvs.length ≤ e ∧ Names H kvs E
theorem Names.mono {kvs : List (Key × V)} {E : Env} (t : Tups H H') (h : Names H kvs E) : Names H' kvs E := fun x => by
  have z := h x
  cases e : E x with
  | none => rw [e] at z; exact z
  | some u => rw [e] at z; obtain ⟨p, z1, z2⟩ := z; exact ⟨p, z1, t _ _ z2⟩
theorem Ard.but {r : Addr} {l b : Bool} {E : Env} {e : Nat} (n : Nd H D) (k : But D H H') (h : Ard CA H D r l b E e) : Ard CA H' D r l b E e := by
  obtain ⟨dx, nd, kvs, h1, h2, h3, h4, h5⟩ := h
  exact ⟨dx, nd, kvs, k _ _ (n.ins h1) h1, h2, k _ _ h2 h3, h4, h5.mono (n.tups k)⟩
theorem Ard.same {r : Addr} {l b : Bool} {E : Env} {e : Nat} (k : Same H H') (h : Ard CA H D r l b E e) : Ard CA H' D r l b E e := by
  obtain ⟨dx, nd, kvs, h1, h2, h3, h4, h5⟩ := h
  exact ⟨dx, nd, kvs, k _ _ h1, h2, k _ _ h3, h4, h5.mono (.of_same k)⟩
theorem Ard.more {r : Addr} {l b : Bool} {E : Env} {e e' : Nat} (h : Ard CA H D r l b E e) (k : e ≤ e') : Ard CA H D r l b E e' := by
  obtain ⟨dx, nd, kvs, h1, h2, h3, h4, h5⟩ := h
  exact ⟨dx, nd, kvs, h1, h2, h3, Nat.le_trans h4 k, h5⟩
theorem Names.set {kvs : List (Key × V)} {E : Env} {x : Str} {u : Ent} {p : Addr} (t : Tups H H') (h : Names H kvs E) (hp : H' p = some (.tup (mean u))) : Names H' (putK kvs (.inr x) (.ref p)) (E.set x u) := fun y => by
  have z := h.mono t y
  unfold Env.set
  by_cases e : y = x
  · rw [if_pos e]
    show ∃ p, _ ∧ _
    rw [valV_put, if_pos (by rw [e])]
    exact ⟨p, rfl, hp⟩
  · rw [if_neg e]
    have e' : ¬ (Sum.inr y : Key) = Sum.inr x := fun q => e (Sum.inr.inj q)
    rw [valV_put, if_neg e']
    exact z
end
structure TcA (K : PySem.W.Frag) (C : Addr) : Prop where
  cl : Cls K C
  nL : NoAttr K C "level"
  nB : NoAttr K C "barred"
  nN : NoAttr K C "names"
structure TcK (K : PySem.W.Frag) (C : Addr) : Prop where
  cl : Cls K C
  nR : NoAttr K C "rows"
  nL : NoAttr K C "loose"
  nK : NoAttr K C "known"
def spArInit (CA : Addr) : Sp := fun vs H Q _ => ∃ (p dx : Addr) (a b c : V), vs = [.ref p, a, b, c] ∧ H p = some (.ins CA dx []) ∧ ∀ H', (∀ b, b ≠ p → H' b = H b) → H' p = some (.ins CA dx (af a b c)) → Q .non H'
def spIn (CA : Addr) (lv : Bool) : Sp := fun vs H Q _ => ∃ (r D : Addr) (l b : Bool) (E : Env) (e : Nat), vs = [.ref r] ∧ Ard CA H D r l b E e ∧ Nd H D ∧ ∀ r' H', Same H H' → Ard CA H' D r' lv true E e → Q (.ref r') H'
def spWithV (CA : Addr) : Sp := fun vs H Q _ => ∃ (r D : Addr) (l b k : Bool) (E : Env) (e : Nat) (x : Str), vs = [.ref r, .str x, .str (kindS k)] ∧ Ard CA H D r l b E e ∧ e ≤ 100000 ∧ Nd H D ∧ ∀ r' H', Same H H' → Ard CA H' D r' l b (E.set x ⟨l, none, k⟩) (e + 1) → Q (.ref r') H'
def spInF (CA : Addr) : Sp := fun vs H Q _ => ∃ (r D : Addr) (l b k : Bool) (E : Env) (e : Nat) (x : Str), vs = [.ref r, .str x, .str (kindS k)] ∧ Ard CA H D r l b E e ∧ e ≤ 100000 ∧ Nd H D ∧ ∀ r' H', Same H H' → Ard CA H' D r' l true (E.set x ⟨l, none, k⟩) (e + 1) → Q (.ref r') H'
def spWithF (CA : Addr) : Sp := fun vs H Q _ => ∃ (r D : Addr) (l b d k : Bool) (E : Env) (e : Nat) (x : Str), vs = [.ref r, .str x, .str (kindS d), .str (kindS k)] ∧ Ard CA H D r l b E e ∧ e ≤ 100000 ∧ Nd H D ∧ ∀ r' H', Same H H' → Ard CA H' D r' l b (E.set x ⟨l, some d, k⟩) (e + 1) → Q (.ref r') H'
def spMeaning (CA : Addr) : Sp := fun vs H Q _ => ∃ (r D : Addr) (l b : Bool) (E : Env) (e : Nat) (x : Str) (u : Ent), vs = [.ref r, .str x] ∧ Ard CA H D r l b E e ∧ E x = some u ∧ u.lv = l ∧ ∀ p, H p = some (.tup (mean u)) → Q (.ref p) H
abbrev s_Around_init : Stmt := inClass (topS 22) 0
theorem sc_Around_init : FnScope ["self", "level", "barred", "names"] ["self", "level", "barred", "names"] (defScope s_Around_init) := ⟨rfl, rfl, rfl, by decide +kernel, rfl, by decide +kernel, by decide +kernel⟩
abbrev s_Around_within_quote : Stmt := inClass (topS 22) 1
theorem sc_Around_within_quote : FnScope ["self"] ["self"] (defScope s_Around_within_quote) := ⟨rfl, rfl, rfl, by decide +kernel, rfl, by decide +kernel, by decide +kernel⟩
abbrev s_Around_within_hole : Stmt := inClass (topS 22) 2
theorem sc_Around_within_hole : FnScope ["self"] ["self"] (defScope s_Around_within_hole) := ⟨rfl, rfl, rfl, by decide +kernel, rfl, by decide +kernel, by decide +kernel⟩
abbrev s_Around_with_value : Stmt := inClass (topS 22) 3
theorem sc_Around_with_value : FnScope ["self", "name", "kind"] ["self", "name", "kind"] (defScope s_Around_with_value) := ⟨rfl, rfl, rfl, by decide +kernel, rfl, by decide +kernel, by decide +kernel⟩
abbrev s_Around_with_function : Stmt := inClass (topS 22) 4
theorem sc_Around_with_function : FnScope ["self", "name", "wanted", "kind"] ["self", "name", "wanted", "kind"] (defScope s_Around_with_function) := ⟨rfl, rfl, rfl, by decide +kernel, rfl, by decide +kernel, by decide +kernel⟩
abbrev s_Around_within_function : Stmt := inClass (topS 22) 5
theorem sc_Around_within_function : FnScope ["self", "name", "kind"] ["self", "name", "kind"] (defScope s_Around_within_function) := ⟨rfl, rfl, rfl, by decide +kernel, rfl, by decide +kernel, by decide +kernel⟩
abbrev s_Around_meaning_of : Stmt := inClass (topS 22) 6
theorem sc_Around_meaning_of : FnScope ["self", "name", "meaning"] ["self", "name"] (defScope s_Around_meaning_of) := ⟨rfl, rfl, rfl, by decide +kernel, rfl, by decide +kernel, by decide +kernel⟩
section
variable {P : Program} {w : World} {K : PySem.W.Frag} {mg : Str → Option Value} {base : Heap} {CA f f1 f2 f3 f4 f5 f6 f7 f8 : Addr} {fd fd1 fd2 fd3 fd4 fd5 fd6 fd7 fd8 : FuncData}
theorem ok_ar_init (F : Fun K "__init__" "Around.__init__" s_Around_init f fd) (TC_Around : TcA K CA) : FnOk P w K mg base CX0 1 f fd ["self", "level", "barred", "names"] (spArInit CA) := by
  refine F.ok sc_Around_init (fun vs H Q E h => ?_) (fun cdv A outer s H vs Q E hr h => ?_)
  · obtain ⟨p, dx, a, b, c, rfl, _⟩ := h
    rfl
  obtain ⟨p, dx, a, b, c, rfl, hp, q⟩ := h
  refine ⟨_, (pss_cons (ps_fld (pv 0) (pv 1) rfl)
      (pss_cons (ps_fld (pv 0) (pv 2) rfl)
      (pss_one (ps_fld (pv 0) (pv 3) rfl)))), ?_⟩
  refine ⟨_, rfl, _, rfl, p, CA, dx, _, rfl, hp, TC_Around.cl, TC_Around.nL, by show 0 < 1000; decide, ?_⟩
  refine ⟨_, rfl, _, rfl, p, CA, dx, _, rfl, upd_same, TC_Around.cl, TC_Around.nB, putG_few (n := 0) (Nat.le_refl _), ?_⟩
  refine ⟨_, rfl, _, rfl, p, CA, dx, _, rfl, upd_same, TC_Around.cl, TC_Around.nN, putG_few (n := 1) (length_putF _ _ _), ?_⟩
  exact q _ (fun b n => by rw [upd_ne n, upd_ne n, upd_ne n]) upd_same
/-- a new object: what stood there stands -/
theorem made_same {H H' : Hp} {p dx C : Addr} (np : H p = none) (nd : H dx = none) (k : ∀ b, b ≠ p → H' b = upd (upd H dx (.own p)) p (.ins C dx []) b) : Same H H' := fun b o z => by
  have b1 := ne_of_none z np
  rw [k b b1, upd_ne b1, upd_ne (ne_of_none z nd)]
  exact z
theorem ard_made {H H1 : Hp} {nd D : Addr} {kvs : List (Key × V)} {l b : Bool} {E : Env} {e : Nat} {Q : VK} (g : Same H H1) (h3 : H1 nd = some (.dK kvs)) (h4 : kvs.length ≤ e) (h5 : Names H1 kvs E) (h2 : nd ≠ D)
    (q : ∀ r' H', Same H H' → Ard CA H' D r' l b E e → Q (.ref r') H') : ∀ x dx, H1 x = none → H1 dx = none → dx ≠ x → spArInit CA (.ref x :: ([.int (lvI l), .bl b, .ref nd] ++ [])) (upd (upd H1 dx (.own x)) x (.ins CA dx [])) (fun v H2 => v = .non ∧ Q (.ref x) H2) E0 := by
  intro x dx nx ndx ne
  refine ⟨x, dx, _, _, _, rfl, upd_same, fun H' k hx => ⟨rfl, ?_⟩⟩
  have s := made_same nx ndx k
  exact q x H' (g.trans s) ⟨dx, nd, kvs, hx, h2, s _ _ h3, h4, h5.mono (.of_same s)⟩
theorem star_end {H : Hp} {p q0 pt : Addr} {kvs : List (Key × V)} {k : Key} {z : V} {o : List V} (np : H p = none) (nq : upd (upd H p (.dK [])) p (.dK kvs) q0 = none) (nt : upd (upd (upd H p (.dK [])) p (.dK kvs)) q0 (.dK []) pt = none) :
    Same H (upd (upd (upd (upd (upd (upd H p (.dK [])) p (.dK kvs)) q0 (.dK [])) pt (.tup o)) q0 (.dK [(k, z)])) p (.dK (putK kvs k z))) ∧ upd (upd (upd (upd (upd (upd H p (.dK [])) p (.dK kvs)) q0 (.dK [])) pt (.tup o)) q0 (.dK [(k, z)])) p (.dK (putK kvs k z)) pt = some (.tup o) ∧
    upd (upd (upd (upd H p (.dK [])) p (.dK kvs)) q0 (.dK [])) pt (.tup o) p = some (.dK kvs) ∧ upd (upd (upd (upd H p (.dK [])) p (.dK kvs)) q0 (.dK [])) pt (.tup o) q0 = some (.dK []) := by
  have n1 : q0 ≠ p := fun e => by rw [e, upd_same] at nq; cases nq
  have n2 : pt ≠ q0 := fun e => by rw [e, upd_same] at nt; cases nt
  have n3 : pt ≠ p := fun e => by rw [e, upd_ne n1.symm, upd_same] at nt; cases nt
  have hq : H q0 = none := by rw [upd_ne n1, upd_ne n1] at nq; exact nq
  have ht : H pt = none := by rw [upd_ne n2, upd_ne n3, upd_ne n3] at nt; exact nt
  refine ⟨fun b u h => ?_, ?_, ?_, ?_⟩
  · have b1 := ne_of_none h np
    have b2 := ne_of_none h hq
    have b3 := ne_of_none h ht
    rw [upd_ne b1, upd_ne b2, upd_ne b3, upd_ne b2, upd_ne b1, upd_ne b1]
    exact h
  · rw [upd_ne n3, upd_ne n2, upd_same]
  · rw [upd_ne n3.symm, upd_ne n1.symm, upd_same]
  · rw [upd_ne n2.symm, upd_same]
theorem szE {n : Nat} (h : n ≤ 100000) : n < sizeLine := Nat.lt_of_le_of_lt h (by decide)
theorem ok_within_quote (F : Fun K "within_quote" "Around.within_quote" s_Around_within_quote f fd) (TC_Around : TcA K CA) (MK_Around : CalC P w K mg base "Around" CA ["self", "level", "barred", "names"] 1 (spArInit CA) f1 fd1) : FnOk P w K mg base CX0 3 f fd ["self"] (spIn CA true) := by
  refine F.ok sc_Around_within_quote (fun vs H Q E h => ?_) (fun cdv A outer s H vs Q E hr h => ?_)
  · obtain ⟨r, D, l, b, E, e, rfl, _⟩ := h
    rfl
  obtain ⟨r, D, l, b, E, e, rfl, ⟨dx, nd, kvs, h1, h2, h3, h4, h5⟩, hn, q⟩ := h
  refine ⟨_, (pss_one (ps_ret (pe_make MK_Around.mkr MK_Around.ok (hr.mono (by first | decide | omega)) rfl MK_Around.m MK_Around.b .nil pass0 (pa_cons pe_int (pa_cons pe_bl (pa_cons (pe_fld (pv 0) rfl) pa_nil)))))), ?_⟩
  refine ⟨_, rfl, r, CA, dx, _, _, rfl, h1, TC_Around.cl, TC_Around.nN, af_names _ _ _, ?_⟩
  exact ard_made (Same.refl _) h3 h4 h5 h2 q
theorem ok_within_hole (F : Fun K "within_hole" "Around.within_hole" s_Around_within_hole f fd) (TC_Around : TcA K CA) (MK_Around : CalC P w K mg base "Around" CA ["self", "level", "barred", "names"] 1 (spArInit CA) f1 fd1) : FnOk P w K mg base CX0 3 f fd ["self"] (spIn CA false) := by
  refine F.ok sc_Around_within_hole (fun vs H Q E h => ?_) (fun cdv A outer s H vs Q E hr h => ?_)
  · obtain ⟨r, D, l, b, E, e, rfl, _⟩ := h
    rfl
  obtain ⟨r, D, l, b, E, e, rfl, ⟨dx, nd, kvs, h1, h2, h3, h4, h5⟩, hn, q⟩ := h
  refine ⟨_, (pss_one (ps_ret (pe_make MK_Around.mkr MK_Around.ok (hr.mono (by first | decide | omega)) rfl MK_Around.m MK_Around.b .nil pass0 (pa_cons pe_int (pa_cons pe_bl (pa_cons (pe_fld (pv 0) rfl) pa_nil)))))), ?_⟩
  refine ⟨_, rfl, r, CA, dx, _, _, rfl, h1, TC_Around.cl, TC_Around.nN, af_names _ _ _, ?_⟩
  exact ard_made (Same.refl _) h3 h4 h5 h2 q
theorem ok_with_value (F : Fun K "with_value" "Around.with_value" s_Around_with_value f fd) (TC_Around : TcA K CA) (MK_Around : CalC P w K mg base "Around" CA ["self", "level", "barred", "names"] 1 (spArInit CA) f1 fd1) : FnOk P w K mg base CX0 3 f fd ["self", "name", "kind"] (spWithV CA) := by
  refine F.ok sc_Around_with_value (fun vs H Q E h => ?_) (fun cdv A outer s H vs Q E hr h => ?_)
  · obtain ⟨r, D, l, b, k, E, e, x, rfl, _⟩ := h
    rfl
  obtain ⟨r, D, l, b, k, E, e, x, rfl, ⟨dx, nd, kvs, h1, h2, h3, h4, h5⟩, he, hn, q⟩ := h
  refine ⟨_, (pss_one (ps_ret (pe_make MK_Around.mkr MK_Around.ok (hr.mono (by first | decide | omega)) rfl MK_Around.m MK_Around.b .nil pass0 (pa_cons (pe_fld (pv 0) rfl) (pa_cons (pe_fld (pv 0) rfl) (pa_cons (pe_star (pe_fld (pv 0) rfl) (pv 1) (pe_tup (pa_cons pe_str (pa_cons (pe_fld (pv 0) rfl) (pa_cons (pv 2) pa_nil))))) pa_nil)))))), ?_⟩
  refine ⟨_, rfl, r, CA, dx, _, _, rfl, h1, TC_Around.cl, TC_Around.nL, af_level _ _ _, _, rfl, r, CA, dx, _, _, rfl, h1, TC_Around.cl, TC_Around.nB, af_barred _ _ _, fun p np => ?_⟩
  have s1 := same_new np (.dK [])
  refine ⟨_, rfl, r, CA, dx, _, _, rfl, s1 _ _ h1, TC_Around.cl, TC_Around.nN, af_names _ _ _, nd, kvs, rfl, (ne_of_none h3 np).symm, s1 _ _ h3, upd_same, szE (by omega), fun q0 nq => ?_⟩
  have n1 : q0 ≠ p := fun z => by rw [z, upd_same] at nq; cases nq
  have hq : H q0 = none := by rw [upd_ne n1, upd_ne n1] at nq; exact nq
  have h1' : upd (upd (upd H p (.dK [])) p (.dK kvs)) q0 (.dK []) r = some (.ins CA dx (af (.int (lvI l)) (.bl b) (.ref nd))) := by rw [upd_ne (ne_of_none h1 hq), upd_ne (ne_of_none h1 np), upd_ne (ne_of_none h1 np)]; exact h1
  refine ⟨_, rfl, _, rfl, r, CA, dx, _, _, rfl, h1', TC_Around.cl, TC_Around.nL, af_level _ _ _, _, rfl, sz 3, fun pt nt => ?_⟩
  obtain ⟨g, g1, g2, g3⟩ := star_end (o := _) (k := .inr x) (z := .ref pt) np nq nt
  refine ⟨g2, g3, .inr x, rfl, ?_⟩
  have pD : p ≠ D := fun z => by obtain ⟨o, ho, _⟩ := hn; rw [← z, np] at ho; cases ho
  refine ard_made (e := e + 1) g upd_same (by have := length_putK kvs (.inr x) (.ref pt); omega) ?_ pD q
  exact h5.set (.of_same g) g1
theorem ok_with_function (F : Fun K "with_function" "Around.with_function" s_Around_with_function f fd) (TC_Around : TcA K CA) (MK_Around : CalC P w K mg base "Around" CA ["self", "level", "barred", "names"] 1 (spArInit CA) f1 fd1) : FnOk P w K mg base CX0 3 f fd ["self", "name", "wanted", "kind"] (spWithF CA) := by
  refine F.ok sc_Around_with_function (fun vs H Q E h => ?_) (fun cdv A outer s H vs Q E hr h => ?_)
  · obtain ⟨r, D, l, b, d, k, E, e, x, rfl, _⟩ := h
    rfl
  obtain ⟨r, D, l, b, d, k, E, e, x, rfl, ⟨dx, nd, kvs, h1, h2, h3, h4, h5⟩, he, hn, q⟩ := h
  refine ⟨_, (pss_one (ps_ret (pe_make MK_Around.mkr MK_Around.ok (hr.mono (by first | decide | omega)) rfl MK_Around.m MK_Around.b .nil pass0 (pa_cons (pe_fld (pv 0) rfl) (pa_cons (pe_fld (pv 0) rfl) (pa_cons (pe_star (pe_fld (pv 0) rfl) (pv 1) (pe_tup (pa_cons pe_str (pa_cons (pe_fld (pv 0) rfl) (pa_cons (pv 2) (pa_cons (pv 3) pa_nil)))))) pa_nil)))))), ?_⟩
  refine ⟨_, rfl, r, CA, dx, _, _, rfl, h1, TC_Around.cl, TC_Around.nL, af_level _ _ _, _, rfl, r, CA, dx, _, _, rfl, h1, TC_Around.cl, TC_Around.nB, af_barred _ _ _, fun p np => ?_⟩
  have s1 := same_new np (.dK [])
  refine ⟨_, rfl, r, CA, dx, _, _, rfl, s1 _ _ h1, TC_Around.cl, TC_Around.nN, af_names _ _ _, nd, kvs, rfl, (ne_of_none h3 np).symm, s1 _ _ h3, upd_same, szE (by omega), fun q0 nq => ?_⟩
  have n1 : q0 ≠ p := fun z => by rw [z, upd_same] at nq; cases nq
  have hq : H q0 = none := by rw [upd_ne n1, upd_ne n1] at nq; exact nq
  have h1' : upd (upd (upd H p (.dK [])) p (.dK kvs)) q0 (.dK []) r = some (.ins CA dx (af (.int (lvI l)) (.bl b) (.ref nd))) := by rw [upd_ne (ne_of_none h1 hq), upd_ne (ne_of_none h1 np), upd_ne (ne_of_none h1 np)]; exact h1
  refine ⟨_, rfl, _, rfl, r, CA, dx, _, _, rfl, h1', TC_Around.cl, TC_Around.nL, af_level _ _ _, _, rfl, _, rfl, sz 4, fun pt nt => ?_⟩
  obtain ⟨g, g1, g2, g3⟩ := star_end (o := _) (k := .inr x) (z := .ref pt) np nq nt
  refine ⟨g2, g3, .inr x, rfl, ?_⟩
  have pD : p ≠ D := fun z => by obtain ⟨o, ho, _⟩ := hn; rw [← z, np] at ho; cases ho
  refine ard_made (e := e + 1) g upd_same (by have := length_putK kvs (.inr x) (.ref pt); omega) ?_ pD q
  exact h5.set (.of_same g) g1
theorem ok_within_function (F : Fun K "within_function" "Around.within_function" s_Around_within_function f fd) (TC_Around : TcA K CA) (MK_Around : CalC P w K mg base "Around" CA ["self", "level", "barred", "names"] 1 (spArInit CA) f1 fd1) : FnOk P w K mg base CX0 3 f fd ["self", "name", "kind"] (spInF CA) := by
  refine F.ok sc_Around_within_function (fun vs H Q E h => ?_) (fun cdv A outer s H vs Q E hr h => ?_)
  · obtain ⟨r, D, l, b, k, E, e, x, rfl, _⟩ := h
    rfl
  obtain ⟨r, D, l, b, k, E, e, x, rfl, ⟨dx, nd, kvs, h1, h2, h3, h4, h5⟩, he, hn, q⟩ := h
  refine ⟨_, (pss_one (ps_ret (pe_make MK_Around.mkr MK_Around.ok (hr.mono (by first | decide | omega)) rfl MK_Around.m MK_Around.b .nil pass0 (pa_cons (pe_fld (pv 0) rfl) (pa_cons pe_bl (pa_cons (pe_star (pe_fld (pv 0) rfl) (pv 1) (pe_tup (pa_cons pe_str (pa_cons (pe_fld (pv 0) rfl) (pa_cons (pv 2) pa_nil))))) pa_nil)))))), ?_⟩
  refine ⟨_, rfl, r, CA, dx, _, _, rfl, h1, TC_Around.cl, TC_Around.nL, af_level _ _ _, fun p np => ?_⟩
  have s1 := same_new np (.dK [])
  refine ⟨_, rfl, r, CA, dx, _, _, rfl, s1 _ _ h1, TC_Around.cl, TC_Around.nN, af_names _ _ _, nd, kvs, rfl, (ne_of_none h3 np).symm, s1 _ _ h3, upd_same, szE (by omega), fun q0 nq => ?_⟩
  have n1 : q0 ≠ p := fun z => by rw [z, upd_same] at nq; cases nq
  have hq : H q0 = none := by rw [upd_ne n1, upd_ne n1] at nq; exact nq
  have h1' : upd (upd (upd H p (.dK [])) p (.dK kvs)) q0 (.dK []) r = some (.ins CA dx (af (.int (lvI l)) (.bl b) (.ref nd))) := by rw [upd_ne (ne_of_none h1 hq), upd_ne (ne_of_none h1 np), upd_ne (ne_of_none h1 np)]; exact h1
  refine ⟨_, rfl, _, rfl, r, CA, dx, _, _, rfl, h1', TC_Around.cl, TC_Around.nL, af_level _ _ _, _, rfl, sz 3, fun pt nt => ?_⟩
  obtain ⟨g, g1, g2, g3⟩ := star_end (o := _) (k := .inr x) (z := .ref pt) np nq nt
  refine ⟨g2, g3, .inr x, rfl, ?_⟩
  have pD : p ≠ D := fun z => by obtain ⟨o, ho, _⟩ := hn; rw [← z, np] at ho; cases ho
  refine ard_made (e := e + 1) g upd_same (by have := length_putK kvs (.inr x) (.ref pt); omega) ?_ pD q
  exact h5.set (.of_same g) g1
theorem ok_meaning_of (F : Fun K "meaning_of" "Around.meaning_of" s_Around_meaning_of f fd) (TC_Around : TcA K CA) : FnOk P w K mg base CX0 1 f fd ["self", "name"] (spMeaning CA) := by
  refine F.ok sc_Around_meaning_of (fun vs H Q E h => ?_) (fun cdv A outer s H vs Q E hr h => ?_)
  · obtain ⟨r, D, l, b, E, e, x, u, rfl, _⟩ := h
    rfl
  obtain ⟨r, D, l, b, E, e, x, u, rfl, ⟨dx, nd, kvs, h1, h2, h3, h4, h5⟩, hu, hl, q⟩ := h
  have z := h5 x
  rw [hu] at z
  obtain ⟨p, hp, hm⟩ := z
  obtain ⟨m0, ms, em, e1⟩ : ∃ m0 ms, mean u = m0 :: .int (lvI l) :: ms ∧ True := by
    unfold mean
    rw [hl]
    cases u.dom with
    | none => exact ⟨_, _, rfl, True.intro⟩
    | some d => exact ⟨_, _, rfl, True.intro⟩
  refine ⟨_, (pss_cons (ps_if (pt_cmp (pc_dnotin (hu_of hr) (pv 1) (pe_fld (pv 0) rfl))) (pss_one ps_never) pss_nil)
      (pss_cons (ps_set (i := 2) sc_Around_meaning_of.nd rfl (Or.inl rfl) (pe_dget (hu_of hr) (pe_fld (pv 0) rfl) (pv 1) (fun _ _ => rfl)))
      (pss_cons (ps_if (pt_cmpR op_ne (pe_ix ix_tup (pv 2) pe_int (fun _ _ => rfl)) (pe_fld (pv 0) rfl) (nomark _)) (pss_one ps_never) pss_nil)
      (pss_one (ps_ret (pv 2)))))), ?_⟩
  refine ⟨_, rfl, _, rfl, r, CA, dx, _, _, rfl, h1, TC_Around.cl, TC_Around.nN, af_names _ _ _, nd, _, rfl, .inl ⟨kvs, .inr x, .inl h3, rfl, hp.symm⟩, _, rfl, iteN (by simp) ?_⟩
  refine ⟨_, rfl, r, CA, dx, _, _, rfl, h1, TC_Around.cl, TC_Around.nN, af_names _ _ _, _, rfl, nd, _, rfl, .inl ⟨kvs, .inr x, .inl h3, rfl, hp.symm⟩, ?_⟩
  have hm2 := hm
  rw [em] at hm2
  refine ⟨_, rfl, p, _, _, _, rfl, rfl, SqT.of hm2, atI_n (n := 1) rfl rfl, _, rfl, r, CA, dx, _, _, rfl, h1, TC_Around.cl, TC_Around.nL, af_level _ _ _, rfl, ?_⟩
  refine ⟨_, rfl, iteN (by simp) ?_⟩
  exact ⟨_, rfl, q p hm⟩
end

/-! ### the kinds of the rows -/
theorem want_ok' {r : Kd} {k j : Bool} (h : r.want k = .ok j) : r = .ok k ∧ j = k := by
  cases r with
  | error e => cases h
  | ok i =>
    unfold Kd.want at h
    dsimp only at h
    by_cases e : i = k
    · rw [if_pos e] at h
      cases h
      exact ⟨by rw [e], rfl⟩
    · rw [if_neg e] at h
      cases h
theorem and_ok' {r : Kd} {f : Bool → Kd} {k : Bool} (h : r.and f = .ok k) : ∃ j, r = .ok j ∧ f j = .ok k := by
  cases r with
  | error e => cases h
  | ok i => exact ⟨i, rfl, h⟩
theorem places1 {ts : List Tm} {i : Nat} {a : Tm} {ps : List Nat} (h : PlacesOf ts i [a] ps) : ∃ p, ps = [p] ∧ ts[p]? = some a := by
  match ps, h with
  | [p], ⟨⟨_, h1⟩, _⟩ => exact ⟨p, rfl, h1⟩
theorem places2 {ts : List Tm} {i : Nat} {a b : Tm} {ps : List Nat} (h : PlacesOf ts i [a, b] ps) : ∃ p q, ps = [p, q] ∧ ts[p]? = some a ∧ ts[q]? = some b := by
  match ps, h with
  | [p, q], ⟨⟨_, h1⟩, ⟨_, h2⟩, _⟩ => exact ⟨p, q, rfl, h1, h2⟩
theorem places3 {ts : List Tm} {i : Nat} {a b c : Tm} {ps : List Nat} (h : PlacesOf ts i [a, b, c] ps) : ∃ p q r, ps = [p, q, r] ∧ ts[p]? = some a ∧ ts[q]? = some b ∧ ts[r]? = some c := by
  match ps, h with
  | [p, q, r], ⟨⟨_, h1⟩, ⟨_, h2⟩, ⟨_, h3⟩, _⟩ => exact ⟨p, q, r, rfl, h1, h2, h3⟩
def spKinInit (P : Program) (w : World) (CK : Addr) : Sp := fun vs H Q _ => ∃ (p dx R : Addr) (ts : List Tm) (Ps : List Addr), vs = [.ref p, .ref R] ∧ H p = some (.ins CK dx []) ∧ RowsAt H R ts Ps ∧ ts.length ≤ 900000 ∧ (∀ u ∈ ts, u.size ≤ 900000) ∧
  ∀ (S D : Addr) (H' : Hp), (∀ b o, b ≠ p → H b = some o → H' b = some o) → KI P w CK H' p R S D ts 0 → H D = none → Q .non H'
def spKind (P : Program) (w : World) (CK CA : Addr) (n : Nat) : Sp := fun vs H Q _ => ∃ (kb R S D r : Addr) (ts : List Tm) (c p : Nat) (t : Tm) (l b k : Bool) (E : Env) (e : Nat), vs = [.ref kb, .int (p : Int), .ref r] ∧ KI P w CK H kb R S D ts c ∧ Ard CA H D r l b E e ∧ ts[p]? = some t ∧
  kd t l E (!b) = .ok k ∧ t.deep ≤ n ∧ c + t.size ≤ 900000 ∧ e + t.deep ≤ 900 ∧ ∀ H', But D H H' → KI P w CK H' kb R S D ts (c + t.size) → Q (.str (kindS k)) H'
def spLooked (P : Program) (w : World) (CK CA : Addr) (n : Nat) : Sp := fun vs H Q _ => ∃ (kb R S D r : Addr) (ts : List Tm) (c p : Nat) (t : Tm) (l b k : Bool) (E : Env) (e : Nat), vs = [.ref kb, .int (p : Int), .ref r] ∧ KI P w CK H kb R S D ts c ∧ Ard CA H D r l b E e ∧ ts[p]? = some t ∧
  kd t l E (!b) = .ok k ∧ t.deep ≤ n + 1 ∧ c + sizes t.parts ≤ 900000 ∧ e + t.deep ≤ 900 ∧ ∀ H', But D H H' → KI P w CK H' kb R S D ts (c + sizes t.parts) → Q (.str (kindS k)) H'
def spWant (P : Program) (w : World) (CK CA : Addr) (n : Nat) : Sp := fun vs H Q _ => ∃ (kb R S D r : Addr) (ts : List Tm) (c p : Nat) (t : Tm) (l b k : Bool) (E : Env) (e : Nat), vs = [.ref kb, .str (kindS k), .int (p : Int), .ref r] ∧ KI P w CK H kb R S D ts c ∧ Ard CA H D r l b E e ∧ ts[p]? = some t ∧
  kd t l E (!b) = .ok k ∧ t.deep ≤ n ∧ c + t.size ≤ 900000 ∧ e + t.deep ≤ 900 ∧ ∀ H', But D H H' → KI P w CK H' kb R S D ts (c + t.size) → Q .non H'
def spLook (P : Program) (w : World) (CK CA : Addr) (n : Nat) (u : W) : Sp := fun vs H Q _ => ∃ (kb R S D r hd pl : Addr) (ts : List Tm) (c i : Nat) (ps : List Nat) (t : Tm) (l b k : Bool) (E : Env) (e : Nat), vs = [.ref kb, .ref hd, .ref pl, .ref r] ∧ t.w = u ∧ KI P w CK H kb R S D ts c ∧ Ard CA H D r l b E e ∧
  H hd = some (.tup t.head) ∧ H pl = some (.lst (nats ps)) ∧ PlacesOf ts i t.parts ps ∧ kd t l E (!b) = .ok k ∧ t.deep ≤ n + 1 ∧ c + sizes t.parts ≤ 900000 ∧ e + t.deep ≤ 900 ∧ ∀ H', But D H H' → KI P w CK H' kb R S D ts (c + sizes t.parts) → Q (.str (kindS k)) H'
structure KLk (K : PySem.W.Frag) (w : World) (mg : Str → Option Value) (FL : W → Addr) (DL DO : Addr) : Prop where
  lev : mg "LEVEL_OF" = some (.ref DL)
  looks : mg "LOOKS" = some (.ref DO)
  wd : WD K w DL
  at' : ∀ u : W, ∃ r, PySem.W.nsIn K DL u.str = some r ∧ match r with
    | none => u ≠ .quote ∧ u ≠ .hole ∧ u ≠ .lift ∧ u ≠ .run
    | some v => (u = .quote ∨ u = .hole ∨ u = .lift ∨ u = .run) ∧ RelV (.int (lvI (decide (u = .hole)))) v
  fn : ∀ u : W, KDct K w DO u.str (.ref (FL u))
abbrev s_Kinds_init : Stmt := inClass (topS 23) 0
theorem sc_Kinds_init : FnScope ["self", "rows"] ["self", "rows"] (defScope s_Kinds_init) := ⟨rfl, rfl, rfl, by decide +kernel, rfl, by decide +kernel, by decide +kernel⟩
abbrev s_Kinds_kind_at : Stmt := inClass (topS 23) 1
theorem sc_Kinds_kind_at : FnScope ["self", "place", "around", "meanings", "key", "name"] ["self", "place", "around"] (defScope s_Kinds_kind_at) := ⟨rfl, rfl, rfl, by decide +kernel, rfl, by decide +kernel, by decide +kernel⟩
abbrev s_Kinds_looked_at : Stmt := inClass (topS 23) 2
theorem sc_Kinds_looked_at : FnScope ["self", "place", "around", "head", "places", "look"] ["self", "place", "around"] (defScope s_Kinds_looked_at) := ⟨rfl, rfl, rfl, by decide +kernel, rfl, by decide +kernel, by decide +kernel⟩
abbrev s_Kinds_want : Stmt := inClass (topS 23) 3
theorem sc_Kinds_want : FnScope ["self", "kind", "place", "around"] ["self", "kind", "place", "around"] (defScope s_Kinds_want) := ⟨rfl, rfl, rfl, by decide +kernel, rfl, by decide +kernel, by decide +kernel⟩
abbrev s_look_at_num : Stmt := topS 24
theorem sc_look_at_num : FnScope ["kinds", "head", "places", "around"] ["kinds", "head", "places", "around"] (defScope s_look_at_num) := ⟨rfl, rfl, rfl, by decide +kernel, rfl, by decide +kernel, by decide +kernel⟩
abbrev s_look_at_name : Stmt := topS 25
theorem sc_look_at_name : FnScope ["kinds", "head", "places", "around", "meaning"] ["kinds", "head", "places", "around"] (defScope s_look_at_name) := ⟨rfl, rfl, rfl, by decide +kernel, rfl, by decide +kernel, by decide +kernel⟩
abbrev s_look_at_numbers : Stmt := topS 26
theorem sc_look_at_numbers : FnScope ["kinds", "head", "places", "around", "place"] ["kinds", "head", "places", "around"] (defScope s_look_at_numbers) := ⟨rfl, rfl, rfl, by decide +kernel, rfl, by decide +kernel, by decide +kernel⟩
abbrev s_look_at_when : Stmt := topS 27
theorem sc_look_at_when : FnScope ["kinds", "head", "places", "around", "kind"] ["kinds", "head", "places", "around"] (defScope s_look_at_when) := ⟨rfl, rfl, rfl, by decide +kernel, rfl, by decide +kernel, by decide +kernel⟩
abbrev s_look_at_let : Stmt := topS 28
theorem sc_look_at_let : FnScope ["kinds", "head", "places", "around", "kind"] ["kinds", "head", "places", "around"] (defScope s_look_at_let) := ⟨rfl, rfl, rfl, by decide +kernel, rfl, by decide +kernel, by decide +kernel⟩
abbrev s_look_at_turns : Stmt := topS 29
theorem sc_look_at_turns : FnScope ["kinds", "head", "places", "around", "kind"] ["kinds", "head", "places", "around"] (defScope s_look_at_turns) := ⟨rfl, rfl, rfl, by decide +kernel, rfl, by decide +kernel, by decide +kernel⟩
abbrev s_look_at_def : Stmt := topS 30
theorem sc_look_at_def : FnScope ["kinds", "head", "places", "around", "kind"] ["kinds", "head", "places", "around"] (defScope s_look_at_def) := ⟨rfl, rfl, rfl, by decide +kernel, rfl, by decide +kernel, by decide +kernel⟩
abbrev s_look_at_use : Stmt := topS 31
theorem sc_look_at_use : FnScope ["kinds", "head", "places", "around", "meaning"] ["kinds", "head", "places", "around"] (defScope s_look_at_use) := ⟨rfl, rfl, rfl, by decide +kernel, rfl, by decide +kernel, by decide +kernel⟩
abbrev s_look_at_quote : Stmt := topS 32
theorem sc_look_at_quote : FnScope ["kinds", "head", "places", "around"] ["kinds", "head", "places", "around"] (defScope s_look_at_quote) := ⟨rfl, rfl, rfl, by decide +kernel, rfl, by decide +kernel, by decide +kernel⟩
abbrev s_look_at_hole : Stmt := topS 33
theorem sc_look_at_hole : FnScope ["kinds", "head", "places", "around"] ["kinds", "head", "places", "around"] (defScope s_look_at_hole) := ⟨rfl, rfl, rfl, by decide +kernel, rfl, by decide +kernel, by decide +kernel⟩
abbrev s_look_at_lift : Stmt := topS 34
theorem sc_look_at_lift : FnScope ["kinds", "head", "places", "around"] ["kinds", "head", "places", "around"] (defScope s_look_at_lift) := ⟨rfl, rfl, rfl, by decide +kernel, rfl, by decide +kernel, by decide +kernel⟩
abbrev s_look_at_run : Stmt := topS 35
theorem sc_look_at_run : FnScope ["kinds", "head", "places", "around"] ["kinds", "head", "places", "around"] (defScope s_look_at_run) := ⟨rfl, rfl, rfl, by decide +kernel, rfl, by decide +kernel, by decide +kernel⟩
section
variable {P : Program} {w : World} {K : PySem.W.Frag} {mg : Str → Option Value} {base : Heap} {CK CA C DL DO f f1 f2 f3 f4 f5 f6 f7 f8 : Addr} {FL : W → Addr} {fd fd1 fd2 fd3 fd4 fd5 fd6 fd7 fd8 : FuncData} {n : Nat}
theorem ok_look_num (F : Fun K "look_at_num" "look_at_num" s_look_at_num f fd) (TC_Kinds : TcK K CK) (TC_Around : TcA K CA) : FnOk P w K mg base CX0 (4 * n + 4) f fd ["kinds", "head", "places", "around"] (spLook P w CK CA n .num) := by
  refine F.ok (k := 4 * n + 3) sc_look_at_num (fun vs H Q E h => ?_) (fun cdv A outer s H vs Q E hr h => ?_)
  · obtain ⟨kb, R, S, D, r, hd, pl, ts, c, i, ps, t, l, b, k, E, e, rfl, _⟩ := h
    rfl
  obtain ⟨kb, R, S, D, r, hd, pl, ts, c, i, ps, t, l, b, k, E, e, rfl, hw, hK, hA, hh, hp, hps, hk, hdp, hc, he, q⟩ := h
  obtain ⟨m, rfl⟩ := w_num hw
  cases hk
  refine ⟨_, (pss_one (ps_ret pe_str)), ?_⟩
  exact q H (.refl _ _) (hK.more (by omega))
theorem ok_look_quote (F : Fun K "look_at_quote" "look_at_quote" s_look_at_quote f fd) (TC_Kinds : TcK K CK) (TC_Around : TcA K CA) (C_want : CalM P w K mg base CK "want" ["self", "kind", "place", "around"] (4 * n + 3) (spWant P w CK CA n) f1 fd1) (C_within_quote : CalM P w K mg base CA "within_quote" ["self"] 3 (spIn CA true) f3 fd3) : FnOk P w K mg base CX0 (4 * n + 4) f fd ["kinds", "head", "places", "around"] (spLook P w CK CA n .quote) := by
  refine F.ok (k := 4 * n + 3) sc_look_at_quote (fun vs H Q E h => ?_) (fun cdv A outer s H vs Q E hr h => ?_)
  · obtain ⟨kb, R, S, D, r, hd, pl, ts, c, i, ps, t, l, b, k, E, e, rfl, _⟩ := h
    rfl
  obtain ⟨kb, R, S, D, r, hd, pl, ts, c, i, ps, t, l, b, k, E, e, rfl, hw, hK, hA, hh, hp, hps, hk, hdp, hc, he, q⟩ := h
  obtain ⟨a, rfl⟩ := w_un (o := .quote) hw
  obtain ⟨p0, rfl, h0⟩ := places1 hps
  have hs : sizes (Tm.un .quote a).parts = a.size := by simp [Tm.parts, sizes]
  rw [hs] at hc q
  simp only [Tm.deep] at hdp he
  have ⟨h1, ek⟩ : kd a true E false = .ok false ∧ k = true := by
    simp only [kd] at hk
    split at hk
    · cases hk
    · obtain ⟨_, z1, z2⟩ := and_ok' hk
      cases z2
      exact ⟨(want_ok' z1).1, rfl⟩
  subst ek
  obtain ⟨dx, hkb⟩ := hK.ins
  have hn := hK.nd
  obtain ⟨ax, nd, kvs, ha, _⟩ := id hA
  refine ⟨_, (pss_cons (ps_expr (pe_meth (pv 0) TC_Kinds.cl C_want.m C_want.ok (hr.mono (by first | decide | omega)) C_want.b .nil pass0 (pa_cons pe_str (pa_cons (pe_ix ix_list (pv 2) pe_int (fun _ _ => rfl)) (pa_cons (pe_meth0 (pv 3) TC_Around.cl C_within_quote.m C_within_quote.ok (hr.mono (by first | decide | omega)) C_within_quote.b .nil pass0) pa_nil)))))
      (pss_one (ps_ret pe_str))), ?_⟩
  refine ⟨_, rfl, kb, dx, _, rfl, hkb, kf_no _ _ _ (by decide +kernel) (by decide +kernel) (by decide +kernel), _, rfl, pl, _, _, _, rfl, rfl, SqL.of hp, atI_n (n := 0) rfl rfl, _, rfl, r, ax, _, rfl, ha, af_no _ _ _ (by decide +kernel) (by decide +kernel) (by decide +kernel), r, D, l, b, E, e, rfl, hA, hn, fun r1 H1 g hA1 => ?_⟩
  refine ⟨kb, R, S, D, r1, ts, c, p0, a, true, true, false, E, e, rfl, hK.same g, hA1, h0, h1, by omega, by omega, by omega, fun H2 b2 K2 => ?_⟩
  exact q H2 ((But.of_same g).trans b2) K2
theorem ok_look_hole (F : Fun K "look_at_hole" "look_at_hole" s_look_at_hole f fd) (TC_Kinds : TcK K CK) (TC_Around : TcA K CA) (C_want : CalM P w K mg base CK "want" ["self", "kind", "place", "around"] (4 * n + 3) (spWant P w CK CA n) f1 fd1) (C_within_hole : CalM P w K mg base CA "within_hole" ["self"] 3 (spIn CA false) f3 fd3) : FnOk P w K mg base CX0 (4 * n + 4) f fd ["kinds", "head", "places", "around"] (spLook P w CK CA n .hole) := by
  refine F.ok (k := 4 * n + 3) sc_look_at_hole (fun vs H Q E h => ?_) (fun cdv A outer s H vs Q E hr h => ?_)
  · obtain ⟨kb, R, S, D, r, hd, pl, ts, c, i, ps, t, l, b, k, E, e, rfl, _⟩ := h
    rfl
  obtain ⟨kb, R, S, D, r, hd, pl, ts, c, i, ps, t, l, b, k, E, e, rfl, hw, hK, hA, hh, hp, hps, hk, hdp, hc, he, q⟩ := h
  obtain ⟨a, rfl⟩ := w_un (o := .hole) hw
  obtain ⟨p0, rfl, h0⟩ := places1 hps
  have hs : sizes (Tm.un .hole a).parts = a.size := by simp [Tm.parts, sizes]
  rw [hs] at hc q
  simp only [Tm.deep] at hdp he
  have ⟨h1, ek⟩ : kd a false E false = .ok true ∧ k = false := by
    simp only [kd] at hk
    split at hk
    · cases hk
    · obtain ⟨_, z1, z2⟩ := and_ok' hk
      cases z2
      exact ⟨(want_ok' z1).1, rfl⟩
  subst ek
  obtain ⟨dx, hkb⟩ := hK.ins
  have hn := hK.nd
  obtain ⟨ax, nd, kvs, ha, _⟩ := id hA
  refine ⟨_, (pss_cons (ps_expr (pe_meth (pv 0) TC_Kinds.cl C_want.m C_want.ok (hr.mono (by first | decide | omega)) C_want.b .nil pass0 (pa_cons pe_str (pa_cons (pe_ix ix_list (pv 2) pe_int (fun _ _ => rfl)) (pa_cons (pe_meth0 (pv 3) TC_Around.cl C_within_hole.m C_within_hole.ok (hr.mono (by first | decide | omega)) C_within_hole.b .nil pass0) pa_nil)))))
      (pss_one (ps_ret pe_str))), ?_⟩
  refine ⟨_, rfl, kb, dx, _, rfl, hkb, kf_no _ _ _ (by decide +kernel) (by decide +kernel) (by decide +kernel), _, rfl, pl, _, _, _, rfl, rfl, SqL.of hp, atI_n (n := 0) rfl rfl, _, rfl, r, ax, _, rfl, ha, af_no _ _ _ (by decide +kernel) (by decide +kernel) (by decide +kernel), r, D, l, b, E, e, rfl, hA, hn, fun r1 H1 g hA1 => ?_⟩
  refine ⟨kb, R, S, D, r1, ts, c, p0, a, false, true, true, E, e, rfl, hK.same g, hA1, h0, h1, by omega, by omega, by omega, fun H2 b2 K2 => ?_⟩
  exact q H2 ((But.of_same g).trans b2) K2
theorem ok_look_lift (F : Fun K "look_at_lift" "look_at_lift" s_look_at_lift f fd) (TC_Kinds : TcK K CK) (TC_Around : TcA K CA) (C_want : CalM P w K mg base CK "want" ["self", "kind", "place", "around"] (4 * n + 3) (spWant P w CK CA n) f1 fd1) : FnOk P w K mg base CX0 (4 * n + 4) f fd ["kinds", "head", "places", "around"] (spLook P w CK CA n .lift) := by
  refine F.ok (k := 4 * n + 3) sc_look_at_lift (fun vs H Q E h => ?_) (fun cdv A outer s H vs Q E hr h => ?_)
  · obtain ⟨kb, R, S, D, r, hd, pl, ts, c, i, ps, t, l, b, k, E, e, rfl, _⟩ := h
    rfl
  obtain ⟨kb, R, S, D, r, hd, pl, ts, c, i, ps, t, l, b, k, E, e, rfl, hw, hK, hA, hh, hp, hps, hk, hdp, hc, he, q⟩ := h
  obtain ⟨a, rfl⟩ := w_un (o := .lift) hw
  obtain ⟨p0, rfl, h0⟩ := places1 hps
  have hs : sizes (Tm.un .lift a).parts = a.size := by simp [Tm.parts, sizes]
  rw [hs] at hc q
  simp only [Tm.deep] at hdp he
  have ⟨h1, ek⟩ : kd a l E (!b) = .ok false ∧ k = true := by
    simp only [kd] at hk
    split at hk
    · cases hk
    · rename_i z
      obtain ⟨_, z1, z2⟩ := and_ok' hk
      cases z2
      cases l with
      | true => exact absurd rfl z
      | false => exact ⟨(want_ok' z1).1, rfl⟩
  subst ek
  obtain ⟨dx, hkb⟩ := hK.ins
  have hn := hK.nd
  obtain ⟨ax, nd, kvs, ha, _⟩ := id hA
  refine ⟨_, (pss_cons (ps_expr (pe_meth (pv 0) TC_Kinds.cl C_want.m C_want.ok (hr.mono (by first | decide | omega)) C_want.b .nil pass0 (pa_cons pe_str (pa_cons (pe_ix ix_list (pv 2) pe_int (fun _ _ => rfl)) (pa_cons (pv 3) pa_nil)))))
      (pss_one (ps_ret pe_str))), ?_⟩
  refine ⟨_, rfl, kb, dx, _, rfl, hkb, kf_no _ _ _ (by decide +kernel) (by decide +kernel) (by decide +kernel), _, rfl, pl, _, _, _, rfl, rfl, SqL.of hp, atI_n (n := 0) rfl rfl, _, rfl, kb, R, S, D, r, ts, c, p0, a, l, b, false, E, e, rfl, hK, hA, h0, h1, by omega, by omega, by omega, fun H2 b2 K2 => ?_⟩
  exact q H2 b2 K2
theorem ok_look_run (F : Fun K "look_at_run" "look_at_run" s_look_at_run f fd) (TC_Kinds : TcK K CK) (TC_Around : TcA K CA) (C_want : CalM P w K mg base CK "want" ["self", "kind", "place", "around"] (4 * n + 3) (spWant P w CK CA n) f1 fd1) : FnOk P w K mg base CX0 (4 * n + 4) f fd ["kinds", "head", "places", "around"] (spLook P w CK CA n .run) := by
  refine F.ok (k := 4 * n + 3) sc_look_at_run (fun vs H Q E h => ?_) (fun cdv A outer s H vs Q E hr h => ?_)
  · obtain ⟨kb, R, S, D, r, hd, pl, ts, c, i, ps, t, l, b, k, E, e, rfl, _⟩ := h
    rfl
  obtain ⟨kb, R, S, D, r, hd, pl, ts, c, i, ps, t, l, b, k, E, e, rfl, hw, hK, hA, hh, hp, hps, hk, hdp, hc, he, q⟩ := h
  obtain ⟨a, rfl⟩ := w_un (o := .run) hw
  obtain ⟨p0, rfl, h0⟩ := places1 hps
  have hs : sizes (Tm.un .run a).parts = a.size := by simp [Tm.parts, sizes]
  rw [hs] at hc q
  simp only [Tm.deep] at hdp he
  have ⟨h1, ek, eb⟩ : kd a l E (!b) = .ok true ∧ k = false ∧ b = false := by
    simp only [kd] at hk
    split at hk
    · cases hk
    · rename_i z
      obtain ⟨_, z1, z2⟩ := and_ok' hk
      cases z2
      cases l with
      | true => exact absurd (.inl rfl) z
      | false =>
        cases b with
        | true => exact absurd (.inr rfl) z
        | false => exact ⟨(want_ok' z1).1, rfl, rfl⟩
  subst ek eb
  obtain ⟨dx, hkb⟩ := hK.ins
  have hn := hK.nd
  obtain ⟨ax, nd, kvs, ha, _⟩ := id hA
  refine ⟨_, (pss_cons (ps_if (pt_truth (pe_fld (pv 3) rfl) (by intro _; rfl)) (pss_one ps_never) pss_nil)
      (pss_cons (ps_expr (pe_meth (pv 0) TC_Kinds.cl C_want.m C_want.ok (hr.mono (by first | decide | omega)) C_want.b .nil pass0 (pa_cons pe_str (pa_cons (pe_ix ix_list (pv 2) pe_int (fun _ _ => rfl)) (pa_cons (pv 3) pa_nil)))))
      (pss_one (ps_ret pe_str)))), ?_⟩
  refine ⟨_, rfl, r, CA, ax, _, _, rfl, ha, TC_Around.cl, TC_Around.nB, af_barred _ _ _, ?_⟩
  refine ⟨_, rfl, iteN (by decide) ?_⟩
  refine ⟨_, rfl, kb, dx, _, rfl, hkb, kf_no _ _ _ (by decide +kernel) (by decide +kernel) (by decide +kernel), _, rfl, pl, _, _, _, rfl, rfl, SqL.of hp, atI_n (n := 0) rfl rfl, _, rfl, kb, R, S, D, r, ts, c, p0, a, l, false, true, E, e, rfl, hK, hA, h0, h1, by omega, by omega, by omega, fun H2 b2 K2 => ?_⟩
  exact q H2 b2 K2
theorem ok_look_let (F : Fun K "look_at_let" "look_at_let" s_look_at_let f fd) (TC_Kinds : TcK K CK) (TC_Around : TcA K CA) (C_kind_at : CalM P w K mg base CK "kind_at" ["self", "place", "around"] (4 * n + 2) (spKind P w CK CA n) f2 fd2) (C_with_value : CalM P w K mg base CA "with_value" ["self", "name", "kind"] 3 (spWithV CA) f3 fd3) : FnOk P w K mg base CX0 (4 * n + 4) f fd ["kinds", "head", "places", "around"] (spLook P w CK CA n .let) := by
  refine F.ok (k := 4 * n + 3) sc_look_at_let (fun vs H Q E h => ?_) (fun cdv A outer s H vs Q E hr h => ?_)
  · obtain ⟨kb, R, S, D, r, hd, pl, ts, c, i, ps, t, l, b, k, E, e, rfl, _⟩ := h
    rfl
  obtain ⟨kb, R, S, D, r, hd, pl, ts, c, i, ps, t, l, b, k, E, e, rfl, hw, hK, hA, hh, hp, hps, hk, hdp, hc, he, q⟩ := h
  obtain ⟨x, a, b2, rfl⟩ := w_let hw
  obtain ⟨p0, p1, rfl, h0, h1⟩ := places2 hps
  have hs : sizes (Tm.letx x a b2).parts = a.size + b2.size := by simp [Tm.parts, sizes]
  rw [hs] at hc q
  simp only [Tm.deep] at hdp he
  obtain ⟨j, k0, k1⟩ := and_ok' (show Kd.and (kd a l E (!b)) (fun k => kd b2 l (E.set x ⟨l, none, k⟩) (!b)) = .ok k from hk)
  obtain ⟨dx, hkb⟩ := hK.ins
  have hn := hK.nd
  obtain ⟨ax, nd, kvs, ha, _⟩ := id hA
  refine ⟨_, (pss_cons (ps_set (i := 4) sc_look_at_let.nd rfl (Or.inl rfl) (pe_meth (pv 0) TC_Kinds.cl C_kind_at.m C_kind_at.ok (hr.mono (by first | decide | omega)) C_kind_at.b .nil pass0 (pa_cons (pe_ix ix_list (pv 2) pe_int (fun _ _ => rfl)) (pa_cons (pv 3) pa_nil))))
      (pss_one (ps_ret (pe_meth (pv 0) TC_Kinds.cl C_kind_at.m C_kind_at.ok (hr.mono (by first | decide | omega)) C_kind_at.b .nil pass0 (pa_cons (pe_ix ix_list (pv 2) pe_int (fun _ _ => rfl)) (pa_cons (pe_meth (pv 3) TC_Around.cl C_with_value.m C_with_value.ok (hr.mono (by first | decide | omega)) C_with_value.b .nil pass0 (pa_cons (pe_ix ix_tup (pv 1) pe_int (fun _ _ => rfl)) (pa_cons (pv 4) pa_nil))) pa_nil)))))), ?_⟩
  refine ⟨_, rfl, kb, dx, _, rfl, hkb, kf_no _ _ _ (by decide +kernel) (by decide +kernel) (by decide +kernel), _, rfl, pl, _, _, _, rfl, rfl, SqL.of hp, atI_n (n := 0) rfl rfl, _, rfl, kb, R, S, D, r, ts, c, p0, a, l, b, j, E, e, rfl, hK, hA, h0, k0, by omega, by omega, by omega, fun H1 g1 K1 => ?_⟩
  have hA1 := hA.but hn g1
  have hp1 := g1 _ _ (hn.lst hp) hp
  have hh1 := g1 _ _ (hn.tup hh) hh
  obtain ⟨dx1, hkb1⟩ := K1.ins
  have hn1 := K1.nd
  obtain ⟨ax1, nd1, kvs1, ha1, _⟩ := id hA1
  refine ⟨_, rfl, kb, dx1, _, rfl, hkb1, kf_no _ _ _ (by decide +kernel) (by decide +kernel) (by decide +kernel), _, rfl, pl, _, _, _, rfl, rfl, SqL.of hp1, atI_n (n := 1) rfl rfl, _, rfl, r, ax1, _, rfl, ha1, af_no _ _ _ (by decide +kernel) (by decide +kernel) (by decide +kernel), _, rfl, hd, _, _, _, rfl, rfl, SqT.of hh1, atI_n (n := 1) rfl rfl, _, rfl, r, D, l, b, j, E, e, x, rfl, hA1, by omega, hn1, fun r2 H2 g2 hA2 => ?_⟩
  refine ⟨kb, R, S, D, r2, ts, c + a.size, p1, b2, l, b, k, _, e + 1, rfl, K1.same g2, hA2, h1, k1, by omega, by omega, by omega, fun H3 g3 K3 => ?_⟩
  exact q H3 (g1.trans ((But.of_same g2).trans g3)) (by rw [← Nat.add_assoc]; exact K3)
theorem ok_look_turns (F : Fun K "look_at_turns" "look_at_turns" s_look_at_turns f fd) (TC_Kinds : TcK K CK) (TC_Around : TcA K CA) (C_want : CalM P w K mg base CK "want" ["self", "kind", "place", "around"] (4 * n + 3) (spWant P w CK CA n) f1 fd1) (C_kind_at : CalM P w K mg base CK "kind_at" ["self", "place", "around"] (4 * n + 2) (spKind P w CK CA n) f2 fd2) (C_with_value : CalM P w K mg base CA "with_value" ["self", "name", "kind"] 3 (spWithV CA) f3 fd3) : FnOk P w K mg base CX0 (4 * n + 4) f fd ["kinds", "head", "places", "around"] (spLook P w CK CA n .turns) := by
  refine F.ok (k := 4 * n + 3) sc_look_at_turns (fun vs H Q E h => ?_) (fun cdv A outer s H vs Q E hr h => ?_)
  · obtain ⟨kb, R, S, D, r, hd, pl, ts, c, i, ps, t, l, b, k, E, e, rfl, _⟩ := h
    rfl
  obtain ⟨kb, R, S, D, r, hd, pl, ts, c, i, ps, t, l, b, k, E, e, rfl, hw, hK, hA, hh, hp, hps, hk, hdp, hc, he, q⟩ := h
  obtain ⟨m, x, a, b2, rfl⟩ := w_turns hw
  obtain ⟨p0, p1, rfl, h0, h1⟩ := places2 hps
  have hs : sizes (Tm.turns m x a b2).parts = a.size + b2.size := by simp [Tm.parts, sizes]
  rw [hs] at hc q
  simp only [Tm.deep] at hdp he
  obtain ⟨j, k0, k1⟩ := and_ok' (show Kd.and (kd a l E (!b)) (fun k => (kd b2 l (E.set x ⟨l, none, k⟩) (!b)).want k) = .ok k from hk)
  obtain ⟨k1, ek⟩ := want_ok' k1
  subst ek
  obtain ⟨dx, hkb⟩ := hK.ins
  have hn := hK.nd
  obtain ⟨ax, nd, kvs, ha, _⟩ := id hA
  refine ⟨_, (pss_cons (ps_set (i := 4) sc_look_at_turns.nd rfl (Or.inl rfl) (pe_meth (pv 0) TC_Kinds.cl C_kind_at.m C_kind_at.ok (hr.mono (by first | decide | omega)) C_kind_at.b .nil pass0 (pa_cons (pe_ix ix_list (pv 2) pe_int (fun _ _ => rfl)) (pa_cons (pv 3) pa_nil))))
      (pss_cons (ps_expr (pe_meth (pv 0) TC_Kinds.cl C_want.m C_want.ok (hr.mono (by first | decide | omega)) C_want.b .nil pass0 (pa_cons (pv 4) (pa_cons (pe_ix ix_list (pv 2) pe_int (fun _ _ => rfl)) (pa_cons (pe_meth (pv 3) TC_Around.cl C_with_value.m C_with_value.ok (hr.mono (by first | decide | omega)) C_with_value.b .nil pass0 (pa_cons (pe_ix ix_tup (pv 1) pe_int (fun _ _ => rfl)) (pa_cons (pv 4) pa_nil))) pa_nil)))))
      (pss_one (ps_ret (pv 4))))), ?_⟩
  refine ⟨_, rfl, kb, dx, _, rfl, hkb, kf_no _ _ _ (by decide +kernel) (by decide +kernel) (by decide +kernel), _, rfl, pl, _, _, _, rfl, rfl, SqL.of hp, atI_n (n := 0) rfl rfl, _, rfl, kb, R, S, D, r, ts, c, p0, a, l, b, k, E, e, rfl, hK, hA, h0, k0, by omega, by omega, by omega, fun H1 g1 K1 => ?_⟩
  have hA1 := hA.but hn g1
  have hp1 := g1 _ _ (hn.lst hp) hp
  have hh1 := g1 _ _ (hn.tup hh) hh
  obtain ⟨dx1, hkb1⟩ := K1.ins
  have hn1 := K1.nd
  obtain ⟨ax1, nd1, kvs1, ha1, _⟩ := id hA1
  refine ⟨_, rfl, kb, dx1, _, rfl, hkb1, kf_no _ _ _ (by decide +kernel) (by decide +kernel) (by decide +kernel), _, rfl, _, rfl, pl, _, _, _, rfl, rfl, SqL.of hp1, atI_n (n := 1) rfl rfl, _, rfl, r, ax1, _, rfl, ha1, af_no _ _ _ (by decide +kernel) (by decide +kernel) (by decide +kernel), _, rfl, hd, _, _, _, rfl, rfl, SqT.of hh1, atI_n (n := 2) rfl rfl, _, rfl, r, D, l, b, k, E, e, x, rfl, hA1, by omega, hn1, fun r2 H2 g2 hA2 => ?_⟩
  refine ⟨kb, R, S, D, r2, ts, c + a.size, p1, b2, l, b, k, _, e + 1, rfl, K1.same g2, hA2, h1, k1, by omega, by omega, by omega, fun H3 g3 K3 => ?_⟩
  exact ⟨_, rfl, q H3 (g1.trans ((But.of_same g2).trans g3)) (by rw [← Nat.add_assoc]; exact K3)⟩
theorem ok_look_when (F : Fun K "look_at_when" "look_at_when" s_look_at_when f fd) (TC_Kinds : TcK K CK) (TC_Around : TcA K CA) (C_want : CalM P w K mg base CK "want" ["self", "kind", "place", "around"] (4 * n + 3) (spWant P w CK CA n) f1 fd1) (C_kind_at : CalM P w K mg base CK "kind_at" ["self", "place", "around"] (4 * n + 2) (spKind P w CK CA n) f2 fd2) : FnOk P w K mg base CX0 (4 * n + 4) f fd ["kinds", "head", "places", "around"] (spLook P w CK CA n .when) := by
  refine F.ok (k := 4 * n + 3) sc_look_at_when (fun vs H Q E h => ?_) (fun cdv A outer s H vs Q E hr h => ?_)
  · obtain ⟨kb, R, S, D, r, hd, pl, ts, c, i, ps, t, l, b, k, E, e, rfl, _⟩ := h
    rfl
  obtain ⟨kb, R, S, D, r, hd, pl, ts, c, i, ps, t, l, b, k, E, e, rfl, hw, hK, hA, hh, hp, hps, hk, hdp, hc, he, q⟩ := h
  obtain ⟨x, a, b2, rfl⟩ := w_when hw
  obtain ⟨p0, p1, p2, rfl, h0, h1, h2⟩ := places3 hps
  have hs : sizes (Tm.cond x a b2).parts = x.size + (a.size + b2.size) := by simp [Tm.parts, sizes]
  rw [hs] at hc q
  simp only [Tm.deep] at hdp he
  obtain ⟨_, k0, k1⟩ := and_ok' (show Kd.and ((kd x l E (!b)).want false) (fun _ => (kd a l E (!b)).and fun k => (kd b2 l E (!b)).want k) = .ok k from hk)
  obtain ⟨k0, _⟩ := want_ok' k0
  obtain ⟨j, k1, k2⟩ := and_ok' k1
  obtain ⟨k2, ek⟩ := want_ok' k2
  subst ek
  obtain ⟨dx, hkb⟩ := hK.ins
  have hn := hK.nd
  obtain ⟨ax, nd, kvs, ha, _⟩ := id hA
  refine ⟨_, (pss_cons (ps_expr (pe_meth (pv 0) TC_Kinds.cl C_want.m C_want.ok (hr.mono (by first | decide | omega)) C_want.b .nil pass0 (pa_cons pe_str (pa_cons (pe_ix ix_list (pv 2) pe_int (fun _ _ => rfl)) (pa_cons (pv 3) pa_nil)))))
      (pss_cons (ps_set (i := 4) sc_look_at_when.nd rfl (Or.inl rfl) (pe_meth (pv 0) TC_Kinds.cl C_kind_at.m C_kind_at.ok (hr.mono (by first | decide | omega)) C_kind_at.b .nil pass0 (pa_cons (pe_ix ix_list (pv 2) pe_int (fun _ _ => rfl)) (pa_cons (pv 3) pa_nil))))
      (pss_cons (ps_expr (pe_meth (pv 0) TC_Kinds.cl C_want.m C_want.ok (hr.mono (by first | decide | omega)) C_want.b .nil pass0 (pa_cons (pv 4) (pa_cons (pe_ix ix_list (pv 2) pe_int (fun _ _ => rfl)) (pa_cons (pv 3) pa_nil)))))
      (pss_one (ps_ret (pv 4)))))), ?_⟩
  refine ⟨_, rfl, kb, dx, _, rfl, hkb, kf_no _ _ _ (by decide +kernel) (by decide +kernel) (by decide +kernel), _, rfl, pl, _, _, _, rfl, rfl, SqL.of hp, atI_n (n := 0) rfl rfl, _, rfl, kb, R, S, D, r, ts, c, p0, x, l, b, false, E, e, rfl, hK, hA, h0, k0, by omega, by omega, by omega, fun H1 g1 K1 => ?_⟩
  have hA1 := hA.but hn g1
  have hp1 := g1 _ _ (hn.lst hp) hp
  obtain ⟨dx1, hkb1⟩ := K1.ins
  have hn1 := K1.nd
  obtain ⟨ax1, nd1, kvs1, ha1, _⟩ := id hA1
  refine ⟨_, rfl, kb, dx1, _, rfl, hkb1, kf_no _ _ _ (by decide +kernel) (by decide +kernel) (by decide +kernel), _, rfl, pl, _, _, _, rfl, rfl, SqL.of hp1, atI_n (n := 1) rfl rfl, _, rfl, kb, R, S, D, r, ts, _, p1, a, l, b, k, E, e, rfl, K1, hA1, h1, k1, by omega, by omega, by omega, fun H2 g2 K2 => ?_⟩
  have hA2 := hA1.but hn1 g2
  have hp2 := g2 _ _ (hn1.lst hp1) hp1
  obtain ⟨dx2, hkb2⟩ := K2.ins
  have hn2 := K2.nd
  obtain ⟨ax2, nd2, kvs2, ha2, _⟩ := id hA2
  refine ⟨_, rfl, kb, dx2, _, rfl, hkb2, kf_no _ _ _ (by decide +kernel) (by decide +kernel) (by decide +kernel), _, rfl, _, rfl, pl, _, _, _, rfl, rfl, SqL.of hp2, atI_n (n := 2) rfl rfl, _, rfl, kb, R, S, D, r, ts, _, p2, b2, l, b, k, E, e, rfl, K2, hA2, h2, k2, by omega, by omega, by omega, fun H3 g3 K3 => ?_⟩
  exact ⟨_, rfl, q H3 (g1.trans (g2.trans g3)) (by rw [← Nat.add_assoc, ← Nat.add_assoc]; exact K3)⟩
theorem ok_look_def (F : Fun K "look_at_def" "look_at_def" s_look_at_def f fd) (TC_Kinds : TcK K CK) (TC_Around : TcA K CA) (C_kind_at : CalM P w K mg base CK "kind_at" ["self", "place", "around"] (4 * n + 2) (spKind P w CK CA n) f2 fd2) (C_with_function : CalM P w K mg base CA "with_function" ["self", "name", "wanted", "kind"] 3 (spWithF CA) f3 fd3) (C_within_function : CalM P w K mg base CA "within_function" ["self", "name", "kind"] 3 (spInF CA) f4 fd4) : FnOk P w K mg base CX0 (4 * n + 4) f fd ["kinds", "head", "places", "around"] (spLook P w CK CA n .def) := by
  refine F.ok (k := 4 * n + 3) sc_look_at_def (fun vs H Q E h => ?_) (fun cdv A outer s H vs Q E hr h => ?_)
  · obtain ⟨kb, R, S, D, r, hd, pl, ts, c, i, ps, t, l, b, k, E, e, rfl, _⟩ := h
    rfl
  obtain ⟨kb, R, S, D, r, hd, pl, ts, c, i, ps, t, l, b, k, E, e, rfl, hw, hK, hA, hh, hp, hps, hk, hdp, hc, he, q⟩ := h
  obtain ⟨g, x, d, a, b2, rfl⟩ := w_def hw
  obtain ⟨p0, p1, rfl, h0, h1⟩ := places2 hps
  have hs : sizes (Tm.deff g x d a b2).parts = a.size + b2.size := by simp [Tm.parts, sizes]
  rw [hs] at hc q
  simp only [Tm.deep] at hdp he
  have ⟨hld, j, k0, k1⟩ : ¬ (l = true ∧ d = true) ∧ ∃ j, kd a l (E.set x ⟨l, none, d⟩) false = .ok j ∧ kd b2 l (E.set g ⟨l, some d, j⟩) (!b) = .ok k := by
    simp only [kd] at hk
    split at hk
    · cases hk
    · rename_i z
      exact ⟨z, and_ok' hk⟩
  obtain ⟨dx, hkb⟩ := hK.ins
  have hn := hK.nd
  obtain ⟨ax, nd, kvs, ha, _⟩ := id hA
  refine ⟨_, (pss_cons (ps_if (pt_k (PW.pt (pw_and (pt_cmpR op_eq (pe_fld (pv 3) rfl) pe_int (nomark _)) (pw_and1 (pt_cmpR op_ne (pe_ix ix_tup (pv 1) pe_int (fun _ _ => rfl)) pe_str (nomark _)))))) (pss_one ps_never) pss_nil)
      (pss_cons (ps_set (i := 4) sc_look_at_def.nd rfl (Or.inl rfl) (pe_meth (pv 0) TC_Kinds.cl C_kind_at.m C_kind_at.ok (hr.mono (by first | decide | omega)) C_kind_at.b .nil pass0 (pa_cons (pe_ix ix_list (pv 2) pe_int (fun _ _ => rfl)) (pa_cons (pe_meth (pv 3) TC_Around.cl C_within_function.m C_within_function.ok (hr.mono (by first | decide | omega)) C_within_function.b .nil pass0 (pa_cons (pe_ix ix_tup (pv 1) pe_int (fun _ _ => rfl)) (pa_cons (pe_ix ix_tup (pv 1) pe_int (fun _ _ => rfl)) pa_nil))) pa_nil))))
      (pss_one (ps_ret (pe_meth (pv 0) TC_Kinds.cl C_kind_at.m C_kind_at.ok (hr.mono (by first | decide | omega)) C_kind_at.b .nil pass0 (pa_cons (pe_ix ix_list (pv 2) pe_int (fun _ _ => rfl)) (pa_cons (pe_meth (pv 3) TC_Around.cl C_with_function.m C_with_function.ok (hr.mono (by first | decide | omega)) C_with_function.b .nil pass0 (pa_cons (pe_ix ix_tup (pv 1) pe_int (fun _ _ => rfl)) (pa_cons (pe_ix ix_tup (pv 1) pe_int (fun _ _ => rfl)) (pa_cons (pv 4) pa_nil)))) pa_nil))))))), ?_⟩
  refine ⟨fun bb H1 => bb = false ∧ H1 = H, ⟨_, rfl, r, CA, ax, _, _, rfl, ha, TC_Around.cl, TC_Around.nL, af_level _ _ _, rfl, ?_⟩, ?_⟩
  · by_cases hl : l = true
    · have hdf : d = false := by
        cases d with
        | false => rfl
        | true => exact absurd ⟨hl, rfl⟩ hld
      exact ⟨_, rfl, iteY (by simp [hl, lvI]) ⟨_, rfl, hd, _, _, _, rfl, rfl, SqT.of hh, atI_n (n := 3) rfl rfl, rfl, _, rfl, by simp [hdf, kindS], rfl⟩⟩
    · exact ⟨_, rfl, iteN (by cases l with | true => exact absurd rfl hl | false => decide) ⟨rfl, rfl⟩⟩
  rintro _ _ ⟨rfl, rfl⟩
  refine iteN (by decide) ?_
  refine ⟨_, rfl, kb, dx, _, rfl, hkb, kf_no _ _ _ (by decide +kernel) (by decide +kernel) (by decide +kernel), _, rfl, pl, _, _, _, rfl, rfl, SqL.of hp, atI_n (n := 0) rfl rfl, _, rfl, r, ax, _, rfl, ha, af_no _ _ _ (by decide +kernel) (by decide +kernel) (by decide +kernel), _, rfl, hd, _, _, _, rfl, rfl, SqT.of hh, atI_n (n := 2) rfl rfl, _, rfl, hd, _, _, _, rfl, rfl, SqT.of hh, atI_n (n := 3) rfl rfl, r, D, l, b, d, E, e, x, rfl, hA, by omega, hn, fun r1 H1 g1 hA1 => ?_⟩
  refine ⟨kb, R, S, D, r1, ts, c, p0, a, l, true, j, _, e + 1, rfl, hK.same g1, hA1, h0, k0, by omega, by omega, by omega, fun H2 g2 K2 => ?_⟩
  have g12 := (But.of_same g1).trans g2
  have hA2 := hA.but hn g12
  have hp2 := g12 _ _ (hn.lst hp) hp
  have hh2 := g12 _ _ (hn.tup hh) hh
  obtain ⟨dx2, hkb2⟩ := K2.ins
  have hn2 := K2.nd
  obtain ⟨ax2, nd2, kvs2, ha2, _⟩ := id hA2
  refine ⟨_, rfl, kb, dx2, _, rfl, hkb2, kf_no _ _ _ (by decide +kernel) (by decide +kernel) (by decide +kernel), _, rfl, pl, _, _, _, rfl, rfl, SqL.of hp2, atI_n (n := 1) rfl rfl, _, rfl, r, ax2, _, rfl, ha2, af_no _ _ _ (by decide +kernel) (by decide +kernel) (by decide +kernel), _, rfl, hd, _, _, _, rfl, rfl, SqT.of hh2, atI_n (n := 1) rfl rfl, _, rfl, hd, _, _, _, rfl, rfl, SqT.of hh2, atI_n (n := 3) rfl rfl, _, rfl, r, D, l, b, d, j, E, e, g, rfl, hA2, by omega, hn2, fun r3 H3 g3 hA3 => ?_⟩
  refine ⟨kb, R, S, D, r3, ts, c + a.size, p1, b2, l, b, k, _, e + 1, rfl, K2.same g3, hA3, h1, k1, by omega, by omega, by omega, fun H4 g4 K4 => ?_⟩
  exact q H4 (g12.trans ((But.of_same g3).trans g4)) (by rw [← Nat.add_assoc]; exact K4)
theorem ok_look_name (F : Fun K "look_at_name" "look_at_name" s_look_at_name f fd) (TC_Kinds : TcK K CK) (TC_Around : TcA K CA) (C_meaning_of : CalM P w K mg base CA "meaning_of" ["self", "name"] 1 (spMeaning CA) f3 fd3) : FnOk P w K mg base CX0 (4 * n + 4) f fd ["kinds", "head", "places", "around"] (spLook P w CK CA n .name) := by
  refine F.ok (k := 4 * n + 3) sc_look_at_name (fun vs H Q E h => ?_) (fun cdv A outer s H vs Q E hr h => ?_)
  · obtain ⟨kb, R, S, D, r, hd, pl, ts, c, i, ps, t, l, b, k, E, e, rfl, _⟩ := h
    rfl
  obtain ⟨kb, R, S, D, r, hd, pl, ts, c, i, ps, t, l, b, k, E, e, rfl, hw, hK, hA, hh, hp, hps, hk, hdp, hc, he, q⟩ := h
  obtain ⟨x, rfl⟩ := w_name hw
  have ⟨u, hu, hl, hd0, ek⟩ : ∃ u, E x = some u ∧ u.lv = l ∧ u.dom = none ∧ u.k = k := by
    simp only [kd] at hk
    cases z : E x with
    | none => rw [z] at hk; cases hk
    | some u =>
      rw [z] at hk
      dsimp only at hk
      split at hk
      · rename_i y
        cases z2 : u.dom with
        | none => rw [z2] at hk; cases hk; exact ⟨u, rfl, y, z2, rfl⟩
        | some d => rw [z2] at hk; cases hk
      · cases hk
  obtain ⟨dx, hkb⟩ := hK.ins
  have hn := hK.nd
  obtain ⟨ax, nd, kvs, ha, _⟩ := id hA
  refine ⟨_, (pss_cons (ps_set (i := 4) sc_look_at_name.nd rfl (Or.inl rfl) (pe_meth (pv 3) TC_Around.cl C_meaning_of.m C_meaning_of.ok (hr.mono (by first | decide | omega)) C_meaning_of.b .nil pass0 (pa_cons (pe_ix ix_tup (pv 1) pe_int (fun _ _ => rfl)) pa_nil)))
      (pss_cons (ps_if (pt_cmpR op_eq (pe_ix ix_tup (pv 4) pe_int (fun _ _ => rfl)) pe_str (nomark _)) (pss_one ps_never) pss_nil)
      (pss_one (ps_ret (pe_ix ix_tup (pv 4) pe_int (fun _ _ => rfl)))))), ?_⟩
  refine ⟨_, rfl, r, ax, _, rfl, ha, af_no _ _ _ (by decide +kernel) (by decide +kernel) (by decide +kernel), _, rfl, hd, _, _, _, rfl, rfl, SqT.of hh, atI_n (n := 1) rfl rfl, r, D, l, b, E, e, x, u, rfl, hA, hu, hl, fun p hm => ?_⟩
  have em : mean u = [.str "value", .int (lvI u.lv), .str (kindS u.k)] := by unfold mean; rw [hd0]
  rw [em] at hm
  refine ⟨_, rfl, p, _, _, _, rfl, rfl, SqT.of hm, atI_n (n := 0) rfl rfl, rfl, ?_⟩
  refine ⟨_, rfl, iteN (by decide) ?_⟩
  refine ⟨_, rfl, p, _, _, _, rfl, rfl, SqT.of hm, atI_n (n := 2) rfl rfl, ?_⟩
  rw [ek]
  exact q H (.refl _ _) (hK.more (Nat.le_add_right _ _))
theorem ok_look_use (F : Fun K "look_at_use" "look_at_use" s_look_at_use f fd) (TC_Kinds : TcK K CK) (TC_Around : TcA K CA) (C_want : CalM P w K mg base CK "want" ["self", "kind", "place", "around"] (4 * n + 3) (spWant P w CK CA n) f1 fd1) (C_meaning_of : CalM P w K mg base CA "meaning_of" ["self", "name"] 1 (spMeaning CA) f3 fd3) : FnOk P w K mg base CX0 (4 * n + 4) f fd ["kinds", "head", "places", "around"] (spLook P w CK CA n .use) := by
  refine F.ok (k := 4 * n + 3) sc_look_at_use (fun vs H Q E h => ?_) (fun cdv A outer s H vs Q E hr h => ?_)
  · obtain ⟨kb, R, S, D, r, hd, pl, ts, c, i, ps, t, l, b, k, E, e, rfl, _⟩ := h
    rfl
  obtain ⟨kb, R, S, D, r, hd, pl, ts, c, i, ps, t, l, b, k, E, e, rfl, hw, hK, hA, hh, hp, hps, hk, hdp, hc, he, q⟩ := h
  obtain ⟨x, a, rfl⟩ := w_use hw
  obtain ⟨p0, rfl, h0⟩ := places1 hps
  have hs : sizes (Tm.use x a).parts = a.size := by simp [Tm.parts, sizes]
  rw [hs] at hc q
  simp only [Tm.deep] at hdp he
  have ⟨u, d, hu, hl, hd0, k0, ek⟩ : ∃ u d, E x = some u ∧ u.lv = l ∧ u.dom = some d ∧ kd a l E (!b) = .ok d ∧ u.k = k := by
    simp only [kd] at hk
    cases z : E x with
    | none => rw [z] at hk; cases hk
    | some u =>
      rw [z] at hk
      dsimp only at hk
      split at hk
      · rename_i y
        cases z2 : u.dom with
        | none => rw [z2] at hk; cases hk
        | some d =>
          rw [z2] at hk
          obtain ⟨_, z3, z4⟩ := and_ok' hk
          cases z4
          exact ⟨u, d, rfl, y, z2, (want_ok' z3).1, rfl⟩
      · cases hk
  obtain ⟨dx, hkb⟩ := hK.ins
  have hn := hK.nd
  obtain ⟨ax, nd, kvs, ha, _⟩ := id hA
  refine ⟨_, (pss_cons (ps_set (i := 4) sc_look_at_use.nd rfl (Or.inl rfl) (pe_meth (pv 3) TC_Around.cl C_meaning_of.m C_meaning_of.ok (hr.mono (by first | decide | omega)) C_meaning_of.b .nil pass0 (pa_cons (pe_ix ix_tup (pv 1) pe_int (fun _ _ => rfl)) pa_nil)))
      (pss_cons (ps_if (pt_cmpR op_ne (pe_ix ix_tup (pv 4) pe_int (fun _ _ => rfl)) pe_str (nomark _)) (pss_one ps_never) pss_nil)
      (pss_cons (ps_expr (pe_meth (pv 0) TC_Kinds.cl C_want.m C_want.ok (hr.mono (by first | decide | omega)) C_want.b .nil pass0 (pa_cons (pe_ix ix_tup (pv 4) pe_int (fun _ _ => rfl)) (pa_cons (pe_ix ix_list (pv 2) pe_int (fun _ _ => rfl)) (pa_cons (pv 3) pa_nil)))))
      (pss_one (ps_ret (pe_ix ix_tup (pv 4) pe_int (fun _ _ => rfl))))))), ?_⟩
  refine ⟨_, rfl, r, ax, _, rfl, ha, af_no _ _ _ (by decide +kernel) (by decide +kernel) (by decide +kernel), _, rfl, hd, _, _, _, rfl, rfl, SqT.of hh, atI_n (n := 1) rfl rfl, r, D, l, b, E, e, x, u, rfl, hA, hu, hl, fun p hm => ?_⟩
  have em : mean u = [.str "function", .int (lvI u.lv), .str (kindS d), .str (kindS u.k)] := by unfold mean; rw [hd0]
  rw [em] at hm
  refine ⟨_, rfl, p, _, _, _, rfl, rfl, SqT.of hm, atI_n (n := 0) rfl rfl, rfl, ?_⟩
  refine ⟨_, rfl, iteN (by decide) ?_⟩
  refine ⟨_, rfl, kb, dx, _, rfl, hkb, kf_no _ _ _ (by decide +kernel) (by decide +kernel) (by decide +kernel), _, rfl, p, _, _, _, rfl, rfl, SqT.of hm, atI_n (n := 2) rfl rfl, _, rfl, pl, _, _, _, rfl, rfl, SqL.of hp, atI_n (n := 0) rfl rfl, _, rfl, kb, R, S, D, r, ts, c, p0, a, l, b, d, E, e, rfl, hK, hA, h0, k0, by omega, by omega, by omega, fun H1 g1 K1 => ?_⟩
  refine ⟨_, rfl, p, _, _, _, rfl, rfl, SqT.of (g1 _ _ (hn.tup hm) hm), atI_n (n := 3) rfl rfl, ?_⟩
  rw [ek]
  exact q H1 g1 K1
theorem ok_look_numbers (F : Fun K "look_at_numbers" "look_at_numbers" s_look_at_numbers f fd) (TC_Kinds : TcK K CK) (TC_Around : TcA K CA) (C_want : CalM P w K mg base CK "want" ["self", "kind", "place", "around"] (4 * n + 3) (spWant P w CK CA n) f1 fd1) : FnOk P w K mg base CX0 (4 * n + 4) f fd ["kinds", "head", "places", "around"] (fun vs H Q E => ∃ o : Bin, spLook P w CK CA n o.w vs H Q E) := by
  refine F.ok (k := 4 * n + 3) sc_look_at_numbers (fun vs H Q E h => ?_) (fun cdv A outer s H vs Q E hr h => ?_)
  · obtain ⟨o, kb, R, S, D, r, hd, pl, ts, c, i, ps, t, l, b, k, E, e, rfl, _⟩ := h
    rfl
  obtain ⟨o, kb, R, S, D, r, hd, pl, ts, c, i, ps, t, l, b, k, E, e, rfl, hw, hK, hA, hh, hp, hps, hk, hdp, hc, he, q⟩ := h
  obtain ⟨a, b2, rfl⟩ := w_bin hw
  obtain ⟨p0, p1, rfl, h0, h1⟩ := places2 hps
  have hs : sizes (Tm.bin o a b2).parts = a.size + b2.size := by simp [Tm.parts, sizes]
  rw [hs] at hc q
  simp only [Tm.deep] at hdp he
  obtain ⟨_, k0, k1⟩ := and_ok' (show Kd.and ((kd a l E (!b)).want false) (fun _ => (kd b2 l E (!b)).want false) = .ok k from hk)
  obtain ⟨k0, _⟩ := want_ok' k0
  obtain ⟨k1b, ek⟩ := want_ok' k1
  subst ek
  obtain ⟨dx, hkb⟩ := hK.ins
  have hn := hK.nd
  obtain ⟨ax, nd, kvs, ha, _⟩ := id hA
  refine ⟨_, (pss_cons (ps_for PassesOwn.never rfl (pi_list (pv 2)) (pg_name (i := 4) sc_look_at_numbers.nd rfl (Or.inl rfl)) (pss_one (ps_expr (pe_meth (pv 0) TC_Kinds.cl C_want.m C_want.ok (hr.mono (by first | decide | omega)) C_want.b .nil pass0 (pa_cons pe_str (pa_cons (pv 4) (pa_cons (pv 3) pa_nil)))))))
      (pss_one (ps_ret pe_str))), ?_⟩
  refine ⟨_, rfl, pl, rfl, ⟨_, SqL.of hp⟩, for_list (K := K) (a := pl) (xs := nats [p0, p1]) (fun i σ H' => ∃ o1 : Option V, σ = [some (.ref kb), some (.ref hd), some (.ref pl), some (.ref r), o1] ∧ But D H H' ∧ KI P w CK H' kb R S D ts (c + sizes ([a, b2].take i)))
    ⟨none, rfl, .refl _ _, hK⟩ (fun i σ H' _ ⟨_, _, z, _⟩ => SqL.of (z _ _ (hn.lst hp) hp)) ?_ ?_⟩
  · rintro i x σ H' hi ⟨o1, rfl, g, K1⟩
    obtain ⟨u, p, ex, hu, ku, hz, hz2, hz3⟩ : ∃ (u : Tm) (p : Nat), x = .int (p : Int) ∧ ts[p]? = some u ∧ kd u l E (!b) = .ok false ∧ sizes ([a, b2].take (i + 1)) = sizes ([a, b2].take i) + u.size ∧ sizes ([a, b2].take i) + u.size ≤ a.size + b2.size ∧ u.deep ≤ max a.deep b2.deep := by
      match i, hi with
      | 0, hi => cases hi; exact ⟨a, p0, rfl, h0, k0, by simp [sizes], by simp [sizes], by omega⟩
      | 1, hi => cases hi; exact ⟨b2, p1, rfl, h1, k1b, by simp [sizes], by simp [sizes], by omega⟩
      | i + 2, hi => simp [nats] at hi
    subst ex
    obtain ⟨dx1, hkb1⟩ := K1.ins
    refine ⟨_, rfl, kb, dx1, _, rfl, hkb1, kf_no _ _ _ (by decide +kernel) (by decide +kernel) (by decide +kernel), _, rfl, _, rfl, kb, R, S, D, r, ts, _, p, u, l, b, false, E, e, rfl, K1, hA.but hn g, hu, ku, by omega, by omega, by omega, fun H2 g2 K2 => ⟨_, rfl, g.trans g2, ?_⟩⟩
    rw [hz, ← Nat.add_assoc]
    exact K2
  · rintro σ H' ⟨o1, rfl, g, K1⟩
    exact q H' g (K1.more (by simp [nats, sizes]))
end

/-! ### the memo; the kind of a term -/
section
variable {P : Program} {w : World} {K : PySem.W.Frag} {mg : Str → Option Value} {base : Heap} {CK CA C DL DO f f1 f2 f3 f4 f5 f6 f7 f8 : Addr} {FL : W → Addr} {fd fd1 fd2 fd3 fd4 fd5 fd6 fd7 fd8 : FuncData} {n : Nat}
theorem ok_want (F : Fun K "want" "Kinds.want" s_Kinds_want f fd) (TC_Kinds : TcK K CK) (C_kind_at : CalM P w K mg base CK "kind_at" ["self", "place", "around"] (4 * n + 2) (spKind P w CK CA n) f2 fd2) : FnOk P w K mg base CX0 (4 * n + 3) f fd ["self", "kind", "place", "around"] (spWant P w CK CA n) := by
  refine F.ok (k := 4 * n + 2) sc_Kinds_want (fun vs H Q E h => ?_) (fun cdv A outer s H vs Q E hr h => ?_)
  · obtain ⟨kb, R, S, D, r, ts, c, p, t, l, b, k, E, e, rfl, _⟩ := h
    rfl
  obtain ⟨kb, R, S, D, r, ts, c, p, t, l, b, k, E, e, rfl, hK, hA, ht, hk, hdp, hc, he, q⟩ := h
  refine ⟨_, (pss_one (ps_if (pt_cmpR op_ne (pe_meth (pv 0) TC_Kinds.cl C_kind_at.m C_kind_at.ok (hr.mono (by first | decide | omega)) C_kind_at.b .nil pass0 (pa_cons (pv 2) (pa_cons (pv 3) pa_nil))) (pv 1) (nomark _)) (pss_one ps_never) pss_nil)), ?_⟩
  obtain ⟨dx, hkb⟩ := hK.ins
  refine ⟨_, rfl, kb, dx, _, rfl, hkb, kf_no _ _ _ (by decide +kernel) (by decide +kernel) (by decide +kernel), _, rfl, _, rfl, kb, R, S, D, r, ts, c, p, t, l, b, k, E, e, rfl, hK, hA, ht, hk, hdp, hc, he, fun H1 g1 K1 => ?_⟩
  refine ⟨_, rfl, rfl, ?_⟩
  refine ⟨_, rfl, iteN (by simp) ?_⟩
  exact q H1 g1 K1
theorem KyAll.snocK {H : Hp} {k : NestedKey} {v : V} (hk : KyAt H k v) : ∀ {ks : List NestedKey} {vs : List V}, KyAll H ks vs → KyAll H (ks ++ [k]) (vs ++ [v])
  | _, _, .nil => .cons hk .nil
  | _, _, .cons h1 h2 => .cons h1 (KyAll.snocK hk h2)
theorem wg_end {r : Option Value} {z : V} {Q : VK} {H : Hp} (h : ∀ u, r = some u → RelV z u) (q : Q z H) : WGot r z Q H := by
  cases r with
  | none => exact q
  | some u => exact ⟨z, h u rfl, q⟩
theorem kd_level {t : Tm} {l fr k : Bool} {E : Env} (h : kd t l E fr = .ok k) (hw : t.w = .quote ∨ t.w = .hole ∨ t.w = .lift ∨ t.w = .run) : l = decide (t.w = .hole) := by
  cases t with
  | un o a =>
    cases o <;> cases l <;> first | rfl | (simp [kd] at h)
  | bin o a b => cases o <;> simp [Tm.w, Bin.w] at hw
  | _ => simp [Tm.w] at hw
theorem ok_looked_at (F : Fun K "looked_at" "Kinds.looked_at" s_Kinds_looked_at f fd) (TC_Kinds : TcK K CK) (TC_Around : TcA K CA) (KL : KLk K w mg FL DL DO) (HL : ∀ u : W, HeldK P w K mg base (4 * n + 4) (FL u) (spLook P w CK CA n u)) : FnOk P w K mg base CX0 (4 * n + 5) f fd ["self", "place", "around"] (spLooked P w CK CA n) := by
  refine F.ok (k := 4 * n + 4) sc_Kinds_looked_at (fun vs H Q E h => ?_) (fun cdv A outer s H vs Q E hr h => ?_)
  · obtain ⟨kb, R, S, D, r, ts, c, p, t, l, b, k, E, e, rfl, _⟩ := h
    rfl
  obtain ⟨kb, R, S, D, r, ts, c, p, t, l, b, k, E, e, rfl, hK, hA, ht, hk, hdp, hc, he, q⟩ := h
  refine ⟨_, (pss_cons (ps_asg (pe_ix ix_list (pe_fld (pv 0) rfl) (pv 1) (fun _ _ => rfl)) (pg_tup rfl (pgs_cons (pg_name (i := 3) sc_Kinds_looked_at.nd rfl (Or.inl rfl)) (pgs_cons (pg_name (i := 4) sc_Kinds_looked_at.nd rfl (Or.inl rfl)) pgs_nil))))
      (pss_cons (ps_if (pt_cmpR op_ne (pe_wget2 (pe_glob (v := V.ref _) rfl KL.lev rfl) (pe_ix ix_tup (pv 3) pe_int (fun _ _ => rfl)) (pe_fld (pv 2) rfl) ⟨rfl, rfl, rfl, rfl⟩) (pe_fld (pv 2) rfl) (nomark _)) (pss_one ps_never) pss_nil)
      (pss_cons (ps_set (i := 5) sc_Kinds_looked_at.nd rfl (Or.inl rfl) (pe_ix ix_kdict (pe_glob (v := V.ref _) rfl KL.looks rfl) (pe_ix ix_tup (pv 3) pe_int (fun _ _ => rfl)) (fun _ _ => rfl)))
      (pss_one (ps_ret (pe_callK (k := 4 * n + 4) (E := E0) (i := 5) (hr.mono (by first | decide | omega)) rfl (Or.inl rfl) (pa_cons (pv 0) (pa_cons (pv 3) (pa_cons (pv 4) (pa_cons (pv 2) pa_nil)))))))))), ?_⟩
  obtain ⟨dx, hkb⟩ := hK.ins
  have hn := hK.nd
  obtain ⟨ax, nd, kvs, ha, _⟩ := id hA
  obtain ⟨rs, hR, rl, hrs⟩ := hK.rows
  obtain ⟨rw, hd, pl, ps, a1, a2, a3, a4, a6⟩ := hrs p t ht
  refine ⟨_, rfl, kb, CK, dx, _, _, rfl, hkb, TC_Kinds.cl, TC_Kinds.nR, kf_rows _ _ _, _, rfl, R, _, _, _, rfl, rfl, SqL.of hR, atI_n (n := p) rfl a1, ?_⟩
  refine ⟨rw, _, rfl, SqT.of a2, rfl, _, _, rfl, _, _, rfl, rfl, ?_⟩
  have a3' := a3
  rw [t.head_eq] at a3'
  obtain ⟨r0, hr0, hc0⟩ := KL.at' t.w
  refine ⟨DL, rfl, KL.wd, _, rfl, hd, _, _, _, rfl, rfl, SqT.of a3', atI_n (n := 0) rfl rfl, _, rfl, r, CA, ax, _, _, rfl, ha, TC_Around.cl, TC_Around.nL, af_level _ _ _, t.w.str, r0, rfl, hr0, ?_⟩
  refine wg_end (z := .int (lvI l)) ?_ ?_
  · intro u eu
    subst eu
    obtain ⟨z1, z2⟩ := hc0
    rw [kd_level hk z1]
    exact z2
  refine ⟨_, rfl, r, CA, ax, _, _, rfl, ha, TC_Around.cl, TC_Around.nL, af_level _ _ _, rfl, ?_⟩
  refine ⟨_, rfl, iteN (by simp) ?_⟩
  refine ⟨_, rfl, hd, _, _, _, rfl, rfl, SqT.of a3', atI_n (n := 0) rfl rfl, DO, _, _, rfl, rfl, KL.fn t.w, ?_⟩
  exact ⟨FL t.w, _, rfl, HL t.w, _, rfl, _, rfl, _, rfl, _, rfl, kb, R, S, D, r, hd, pl, ts, c, p, ps, t, l, b, k, E, e, rfl, rfl, hK, hA, a3, a4, a6, hk, hdp, hc, he, fun H1 g1 K1 => q H1 g1 K1⟩
theorem ok_kind_at (F : Fun K "kind_at" "Kinds.kind_at" s_Kinds_kind_at f fd) (T : Txt mg) (TC_Kinds : TcK K CK) (TC_Around : TcA K CA) (C_looked_at : CalM P w K mg base CK "looked_at" ["self", "place", "around"] (4 * n + 5) (spLooked P w CK CA n) f1 fd1) : FnOk P w K mg base CX0 (4 * n + 6) f fd ["self", "place", "around"] (spKind P w CK CA (n + 1)) := by
  refine F.ok (k := 4 * n + 5) sc_Kinds_kind_at (fun vs H Q E h => ?_) (fun cdv A outer s H vs Q E hr h => ?_)
  · obtain ⟨kb, R, S, D, r, ts, c, p, t, l, b, k, E, e, rfl, _⟩ := h
    rfl
  obtain ⟨kb, R, S, D, r, ts, c, p, t, l, b, k, E, e, rfl, hK, hA, ht, hk, hdp, hc, he, q⟩ := h
  refine ⟨_, (pss_cons (ps_set (i := 3) sc_Kinds_kind_at.nd rfl (Or.inl rfl) (pe_callTy call_tuple_of (by rfl) T.tuple (by decide +kernel) (pa_cons (pe_lc (own := [("name", 5)]) (g := (gName 5)) (tt := tYes) (te := tDGet1 (tFld K (tVar 2) "names") (tVar 5)) (by rfl) sc_Kinds_kind_at.nd (pi_list (pe_ix ix_list (pe_fld (pv 0) rfl) (pv 1) (fun _ _ => rfl))) (blkOk_by (own := [("name", 5)]) (N := ["self", "place", "around", "meanings", "key", "name"]) (sc := defScope s_Kinds_kind_at) (by decide +kernel)) (fun _ _ _ _ _ => (pg_name (i := 5) sc_Kinds_kind_at.nd rfl (Or.inl rfl))) (fun _ _ _ _ _ => pts_nil) (fun _ _ _ _ _ => (pe_dget1 (hu_of hr) (pe_fld (pv 2) rfl) (pv 5) ⟨rfl, rfl, rfl, rfl⟩))) pa_nil)))
      (pss_cons (ps_set (i := 4) sc_Kinds_kind_at.nd rfl (Or.inl rfl) (pe_tup (pa_cons (pv 1) (pa_cons (pe_fld (pv 2) rfl) (pa_cons (pe_fld (pv 2) rfl) (pa_cons (pv 3) pa_nil))))))
      (pss_cut (ps_if (pt_cmp (pc_knotin (hu9 hr) (pv 4) (pe_fld (pv 0) rfl))) (pss_one (ps_kput (hu9 hr) (pe_fld (pv 0) rfl) (pv 4) (pe_meth (pv 0) TC_Kinds.cl C_looked_at.m C_looked_at.ok (hr.mono (by first | decide | omega)) C_looked_at.b .nil pass0 (pa_cons (pv 1) (pa_cons (pv 2) pa_nil))) rfl)) pss_nil)
      (pss_one (ps_ret (pe_kget (hu9 hr) (pe_fld (pv 0) rfl) (pv 4) (fun _ _ => rfl))))))), ?_⟩
  obtain ⟨dx, hkb⟩ := hK.ins
  have hn := hK.nd
  obtain ⟨ax, nd, kvs, ha, hnd, hkv, hl, hN⟩ := id hA
  obtain ⟨ws, hS, wl, hws⟩ := hK.loose
  obtain ⟨la, hla, hlo⟩ := hws p t ht
  have ha0 : ∀ {H3 : Hp}, Same H H3 → H3 r = some (.ins CA ax (af (.int (lvI l)) (.bl b) (.ref nd))) := fun g => g _ _ ha
  refine ⟨_, rfl, kb, CK, dx, _, _, rfl, hkb, TC_Kinds.cl, TC_Kinds.nL, kf_loose _ _ _, _, rfl, S, _, _, _, rfl, rfl, SqL.of hS, atI_n (n := p) rfl hla, la, rfl, ⟨_, SqL.of hlo⟩, fun M nM => ?_⟩
  refine lc_list (K := K) (a := la) (xs := t.loose.map V.str) (fun j H3 => Same H H3 ∧ ∃ vs, H3 M = some (.lst vs) ∧ vs.length = j ∧ KyAll H3 ((t.loose.take j).map fun x => entK (E x)) vs) ⟨same_new nM _, [], upd_same, rfl, by rw [List.take_zero]; exact .nil⟩ (fun j H3 _ z => SqL.of (z.1 _ _ hlo)) ?_ ?_
  · rintro j y H3 hj ⟨g3, vs, hM, vl, hvs⟩
    rw [List.getElem?_map] at hj
    obtain ⟨x, hx⟩ : ∃ x, t.loose[j]? = some x := by
      cases z : t.loose[j]? with
      | none => rw [z] at hj; cases hj
      | some x => exact ⟨x, rfl⟩
    rw [hx] at hj
    cases hj
    have jl : j < t.loose.length := (List.getElem?_eq_some_iff.mp hx).1
    have ll := t.loose_len
    refine ⟨rfl, _, rfl, r, CA, ax, _, _, rfl, ha0 g3, TC_Around.cl, TC_Around.nN, af_names _ _ _, nd, rfl, .inl ⟨kvs, .inl (g3 _ _ hkv)⟩, _, rfl, _, .inl ⟨kvs, .inr x, .inl (g3 _ _ hkv), rfl, rfl⟩, _, hM, sz9 (by omega), fun b2 o2 z => ?_, _, upd_same, ?_, ?_⟩
    · rw [upd_ne (ne_of_none z nM)]
      exact g3 b2 o2 z
    · rw [List.length_append, vl]; rfl
    · have tM : Tups H3 (upd H3 M (.lst (vs ++ [(valV kvs (.inr x)).getD .non]))) := Tups.put hM
      rw [List.take_add_one, hx, List.map_append]
      refine KyAll.snocK ?_ (KyAll.mono tM _ _ hvs)
      have z := hN x
      cases ex : E x with
      | none =>
        rw [ex] at z
        rw [show valV kvs (.inr x) = none from z]
        show KyAt _ (entK (E x)) _
        rw [ex]
        exact .non
      | some u =>
        rw [ex] at z
        obtain ⟨pu, z1, z2⟩ := z
        rw [z1]
        have tM' := tM
        rw [z1] at tM'
        show KyAt _ (entK (E x)) _
        rw [ex]
        exact .tup (tM' _ _ (g3 _ _ z2)) (mean_key _ u)
  · rintro H3 ⟨g3, vs, hM, vl, hvs⟩
    have e9 : (t.loose.map V.str).length = t.loose.length := List.length_map _
    rw [e9, List.take_length] at hvs
    refine ⟨M, vs, rfl, .inl ⟨SqL.of hM, fun mt nmt => ?_⟩⟩
    have s1 := same_new nmt (.tup vs)
    have g4 := g3.trans s1
    have hmt : upd H3 mt (.tup vs) mt = some (.tup vs) := upd_same
    have hvs4 : KyAll (upd H3 mt (.tup vs)) _ vs := KyAll.mono (.of_same s1) _ _ hvs
    generalize upd H3 mt (.tup vs) = H4 at g4 hmt hvs4 ⊢
    refine ⟨_, rfl, _, rfl, r, CA, ax, _, _, rfl, ha0 g4, TC_Around.cl, TC_Around.nL, af_level _ _ _, _, rfl, r, CA, ax, _, _, rfl, ha0 g4, TC_Around.cl, TC_Around.nB, af_barred _ _ _, _, rfl, sz 4, fun kt nkt => ?_⟩
    have s2 := same_new nkt (.tup [V.int (p : Int), .int (lvI l), .bl b, .ref mt])
    have g5 := g4.trans s2
    have hky : KyAt (upd H4 kt (.tup [V.int (p : Int), .int (lvI l), .bl b, .ref mt])) (keyOf p l b (t.loose.map fun x => entK (E x))) (.ref kt) := .tup upd_same (.cons (.int _) (.cons (.int _) (.cons (.bl _) (.cons (.tup (s2 _ _ hmt) (KyAll.mono (.of_same s2) _ _ hvs4)) .nil))))
    generalize upd H4 kt (.tup [V.int (p : Int), .int (lvI l), .bl b, .ref mt]) = H5 at g5 hky ⊢
    have K5 := hK.same g5
    have hn5 := K5.nd
    have hA5 := hA.same g5
    have hdk := keyOf_deep p l b E t.loose
    have hsz := t.size_parts
    refine ⟨fun σ H' => ∃ o, σ = [some (.ref kb), some (.int (p : Int)), some (.ref r), some (.ref mt), some (.ref kt), o] ∧ But D H H' ∧ KI P w CK H' kb R S D ts (c + t.size) ∧ ∃ xs, IsEx P w H' D xs ∧ KsAt H' xs ∧ KyAt H' (keyOf p l b (t.loose.map fun x => entK (E x))) (.ref kt) ∧ atE xs (keyOf p l b (t.loose.map fun x => entK (E x))) = some (.str (kindS k)), ?_, ?_⟩
    · obtain ⟨xs, m1, m2, m3, m4⟩ := K5.memo
      obtain ⟨dx5, hkb5⟩ := K5.ins
      refine ⟨_, rfl, _, rfl, kb, CK, dx5, _, _, rfl, hkb5, TC_Kinds.cl, TC_Kinds.nK, kf_known _ _ _, D, kt, xs, keyOf p l b (t.loose.map fun x => entK (E x)), rfl, rfl, m1, m2, hky, hdk, _, rfl, ?_⟩
      cases hat : atE xs (keyOf p l b (t.loose.map fun x => entK (E x))) with
      | none =>
        refine iteY (by simp) ?_
        refine ⟨_, rfl, kb, dx5, _, rfl, hkb5, kf_no _ _ _ (by decide +kernel) (by decide +kernel) (by decide +kernel), _, rfl, _, rfl, kb, R, S, D, r, ts, c, p, t, l, b, k, E, e, rfl, K5, hA5, ht, hk, hdp, by omega, he, fun H6 g6 K6 => ?_⟩
        obtain ⟨xs6, n1, n2, n3, n4⟩ := K6.memo
        obtain ⟨dx6, hkb6⟩ := K6.ins
        have hn6 := K6.nd
        have hky6 := KyAt.mono (hn5.tups g6) _ _ hky
        refine ⟨_, rfl, kb, CK, dx6, _, _, rfl, hkb6, TC_Kinds.cl, TC_Kinds.nK, kf_known _ _ _, _, rfl, D, kt, xs6, _, rfl, rfl, n1, n2, hky6, hdk, sz9 (by omega), ?_⟩
        have g7 := But.put D H6 (rawE P w D (putE xs6 (keyOf p l b (t.loose.map fun x => entK (E x))) kt (.str (kindS k))))
        have t7 := hn6.tups g7
        have hky7 := KyAt.mono t7 _ _ hky6
        have hks7 : KsAt (upd H6 D (rawE P w D (putE xs6 (keyOf p l b (t.loose.map fun x => entK (E x))) kt (.str (kindS k))))) (putE xs6 (keyOf p l b (t.loose.map fun x => entK (E x))) kt (.str (kindS k))) := fun y hy => by
          rcases mem_putE hy with z | ⟨z1, _, z3⟩
          · exact (n2.mono t7) y z
          · rw [z1]
            refine ⟨?_, hdk⟩
            rcases z3 with z3 | ⟨y2, y3, y4, y5⟩
            · rw [z3]; exact hky7
            · have w9 := ((n2.mono t7) y2 y3).1
              rw [y4, y5] at w9
              exact w9
        have len7 := putE_len xs6 (keyOf p l b (t.loose.map fun x => entK (E x))) kt (.str (kindS k))
        have tells7 : ∀ y ∈ putE xs6 (keyOf p l b (t.loose.map fun x => entK (E x))) kt (.str (kindS k)), Tells ts y := fun y hy => by
          rcases mem_putE hy with z | ⟨z1, z2, _⟩
          · exact n4 y z
          · exact ⟨p, t, l, b, k, _, z1, ht, z2, fun E' he' => by rw [kd_loose he']; exact hk⟩
        exact ⟨_, rfl, (But.of_same g5).trans (g6.trans g7), K6.keep g7 ⟨_, .inl upd_same, hks7, by omega, tells7⟩, _, .inl upd_same, hks7, hky7, atE_put _ _ _ _⟩
      | some v =>
        refine iteN (by simp) ?_
        obtain ⟨y, hy, e1, e2⟩ := atE_mem hat
        obtain ⟨p', t', l', b', k', ms', f1, f2, f3, f4⟩ := m4 y hy
        rw [e1] at f1
        obtain ⟨j1, j2, j3, j4⟩ := keyOf_inj f1
        subst j1 j2 j3 j4
        rw [ht] at f2
        cases f2
        have f5 := f4 E rfl
        rw [hk] at f5
        cases f5
        exact ⟨_, rfl, .of_same g5, K5.more (by omega), xs, m1, m2, hky, by rw [hat, ← e2, f3]⟩
    · rintro σ H' ⟨o, rfl, gb, K6, xs, m1, m2, m3, m4⟩
      obtain ⟨dx6, hkb6⟩ := K6.ins
      exact ⟨_, rfl, kb, CK, dx6, _, _, rfl, hkb6, TC_Kinds.cl, TC_Kinds.nK, kf_known _ _ _, _, rfl, D, kt, xs, _, .str (kindS k), rfl, rfl, m1, m2, m3, hdk, m4, q H' gb K6⟩
end

/-! ### kind_of -/
def spKindOfN (N : Nat) : Sp := fun vs H Q _ => ∃ (t : Tm) (v : V) (k : Bool), vs = [v] ∧ TmAt H t v ∧ t.Ok ∧ t.deep ≤ N ∧ t.size ≤ 900000 ∧ kd t false Env.nil true = .ok k ∧ ∀ H', Same H H' → Q (.str (kindS k)) H'
abbrev spKindOf : Sp := spKindOfN 18
abbrev s_kind_of : Stmt := topS 21
theorem sc_kind_of : FnScope ["term", "rows"] ["term"] (defScope s_kind_of) := ⟨rfl, rfl, rfl, by decide +kernel, rfl, by decide +kernel, by decide +kernel⟩
theorem RowsAt.lists {H : Hp} {R : Addr} {ts : List Tm} {Ps : List Addr} (h : RowsAt H R ts Ps) : ∃ Ps', RowsAt H R ts Ps' ∧ ∀ p ∈ Ps', ∃ ys, H p = some (.lst ys) := by
  classical
  obtain ⟨rs, h1, h2, h3⟩ := h
  refine ⟨Ps.filter fun p => decide (∃ ys, H p = some (.lst ys)), ⟨rs, h1, h2, fun i t hi => ?_⟩, fun p hp => of_decide_eq_true (List.mem_filter.mp hp).2⟩
  obtain ⟨r, h, pl, ps, a1, a2, a3, a4, a5, a6⟩ := h3 i t hi
  exact ⟨r, h, pl, ps, a1, a2, a3, a4, List.mem_filter.mpr ⟨a5, decide_eq_true ⟨_, a4⟩⟩, a6⟩
theorem RowK.move {H H' : Hp} {R : Addr} {ts : List Tm} (m : ∀ b o, ((∃ ys, o = HO.lst ys) ∨ ∃ ys, o = HO.tup ys) → H b = some o → H' b = some o) (h : RowK H R ts) : RowK H' R ts := by
  obtain ⟨rs, h1, h2, h3⟩ := h
  refine ⟨rs, m _ _ (.inl ⟨_, rfl⟩) h1, h2, fun i t hi => ?_⟩
  obtain ⟨r, h, pl, ps, a1, a2, a3, a4, a6⟩ := h3 i t hi
  exact ⟨r, h, pl, ps, a1, m _ _ (.inr ⟨_, rfl⟩) a2, m _ _ (.inr ⟨_, rfl⟩) a3, m _ _ (.inl ⟨_, rfl⟩) a4, a6⟩
section
variable {P : Program} {w : World} {K : PySem.W.Frag} {mg : Str → Option Value} {base : Heap} {CK CA C DL DO f f1 f2 f3 f4 f5 f6 f7 f8 g : Addr} {FL : W → Addr} {fd fd1 fd2 fd3 fd4 fd5 fd6 fd7 fd8 fg : FuncData} {n : Nat}
theorem ok_kin_init (F : Fun K "__init__" "Kinds.__init__" s_Kinds_init f fd) (TC_Kinds : TcK K CK) (C_loose_in_rows : Cal P w K mg base "loose_in_rows" ["rows"] 3 spLooseRows f1 fd1) : FnOk P w K mg base CX0 4 f fd ["self", "rows"] (spKinInit P w CK) := by
  refine F.ok (k := 3) sc_Kinds_init (fun vs H Q E h => ?_) (fun cdv A outer s H vs Q E hr h => ?_)
  · obtain ⟨p, dx, R, ts, Ps, rfl, _⟩ := h
    rfl
  obtain ⟨p, dx, R, ts, Ps, rfl, hp, hR, hl, hall, q⟩ := h
  refine ⟨_, (pss_cons (ps_fld (pv 0) (pv 1) rfl)
      (pss_cons (ps_fld (pv 0) (pe_call C_loose_in_rows.ok (hr.mono (by first | decide | omega)) rfl C_loose_in_rows.m C_loose_in_rows.kp C_loose_in_rows.b .nil pass0 (pa_cons (pv 1) pa_nil)) rfl)
      (pss_one (ps_fld (pv 0) pe_dnewK rfl)))), ?_⟩
  obtain ⟨Ps', hR', hPs⟩ := hR.lists
  have hRK := hR.rowK
  obtain ⟨rs, hRl, _⟩ := id hRK
  have pR : R ≠ p := fun z => by rw [z, hp] at hRl; cases hRl
  refine ⟨_, rfl, _, rfl, p, CK, dx, _, rfl, hp, TC_Kinds.cl, TC_Kinds.nR, by show 0 < 1000; decide, ?_⟩
  have k1 : Keeps R [] Ps' H (upd H p (.ins CK dx (putF "rows" (.ref R) []))) := fun b o h z => by
    rw [upd_ne fun e => ?_]
    · exact h
    · rw [e, hp] at h
      cases h
      rcases z with z | z | z | ⟨ys, z⟩
      · exact pR (z.symm.trans e)
      · cases z
      · obtain ⟨ys, y⟩ := hPs _ z
        rw [e, hp] at y
        cases y
      · cases z
  have hR1 := hR'.keep k1
  have hp1 : upd H p (.ins CK dx (putF "rows" (.ref R) [])) p = some (.ins CK dx (putF "rows" (.ref R) [])) := upd_same
  have m1 : ∀ b o, b ≠ p → H b = some o → upd H p (.ins CK dx (putF "rows" (.ref R) [])) b = some o := fun b o n h => by rw [upd_ne n]; exact h
  have f1 : ∀ b, upd H p (.ins CK dx (putF "rows" (.ref R) [])) b = none → H b = none := fun b h => by
    have n : b ≠ p := fun e => by rw [e, upd_same] at h; cases h
    rw [upd_ne n] at h
    exact h
  generalize upd H p (.ins CK dx (putF "rows" (.ref R) [])) = H1 at hR1 hp1 m1 f1 ⊢
  refine ⟨_, rfl, R, ts, Ps', rfl, hR1, hl, hall, fun S ws H2 nS e2 hS hvs hnew => ?_⟩
  have hp2 := e2 _ _ hp1
  have Sp : S ≠ p := fun e => by rw [e, hp1] at nS; cases nS
  refine ⟨_, rfl, p, CK, dx, _, rfl, hp2, TC_Kinds.cl, TC_Kinds.nL, putG_few (n := 0) (Nat.le_refl _), fun D nD => ?_⟩
  have Dp : D ≠ p := fun e => by rw [e, upd_same] at nD; cases nD
  rw [upd_ne Dp] at nD
  refine ⟨_, rfl, p, CK, dx, _, rfl, by rw [upd_ne Dp.symm]; exact upd_same, TC_Kinds.cl, TC_Kinds.nK, putG_few (n := 1) (length_putF _ _ _), ?_⟩
  have mv : ∀ b o, b ≠ p → H2 b = some o → upd (upd (upd H2 p (.ins CK dx (putF "loose" (.ref S) (putF "rows" (.ref R) [])))) D (.dK [])) p (.ins CK dx (kf R S D)) b = some o := fun b o n h => by
    rw [upd_ne n, upd_ne (ne_of_none h nD), upd_ne n]
    exact h
  refine q S D _ (fun b o n h => mv b o n (e2 _ _ (m1 b o n h))) ⟨⟨dx, upd_same⟩, hRK.move fun b o z h => ?_, ⟨ws, mv _ _ Sp hS, ?_, fun i t hi => ?_⟩, ⟨hl, hall⟩, [], .inr ⟨by rw [upd_ne Dp, upd_same], rfl⟩, fun x hx => (by cases hx), Nat.le_refl _, fun x hx => (by cases hx)⟩ (f1 _ (e2.free nD))
  · have n : b ≠ p := fun e => by
      rw [e, hp] at h
      cases h
      rcases z with ⟨_, z⟩ | ⟨_, z⟩ <;> cases z
    exact mv b o n (e2 _ _ (m1 b o n h))
  · have z := hvs.len
    rw [List.length_map] at z
    exact z
  · obtain ⟨a, a1, _, a3⟩ := hvs.get (i := i) (l := t.loose) (by rw [List.getElem?_map, hi]; rfl)
    refine ⟨a, a1, mv a _ (fun e => ?_) a3⟩
    rw [e, hp2] at a3
    cases a3
theorem ok_kind_of {N : Nat} (hN : 16 ≤ N ∧ N ≤ 60) (F : Fun K "kind_of" "kind_of" s_kind_of f fd) (TC_Kinds : TcK K CK) (TC_Around : TcA K CA) (C_rows_of : Cal P w K mg base "rows_of" ["term"] 65 spRows f1 fd1) (MK_Kinds : CalC P w K mg base "Kinds" CK ["self", "rows"] 4 (spKinInit P w CK) f2 fd2)
    (MK_Around : CalC P w K mg base "Around" CA ["self", "level", "barred", "names"] 1 (spArInit CA) f3 fd3) (C_kind_at : CalM P w K mg base CK "kind_at" ["self", "place", "around"] (4 * N + 2) (spKind P w CK CA N) f4 fd4) (T : Txt mg) : FnOk P w K mg base CX0 (4 * N + 3) f fd ["term"] (spKindOfN N) := by
  refine F.ok (k := 4 * N + 2) sc_kind_of (fun vs H Q E h => ?_) (fun cdv A outer s H vs Q E hr h => ?_)
  · obtain ⟨t, v, k, rfl, _⟩ := h
    rfl
  obtain ⟨t, v, k, rfl, ht, hok, hd, hz, hk, q⟩ := h
  refine ⟨_, (pss_cons (ps_set (i := 1) sc_kind_of.nd rfl (Or.inl rfl) (pe_call C_rows_of.ok (hr.mono (by first | decide | omega)) rfl C_rows_of.m C_rows_of.kp C_rows_of.b .nil pass0 (pa_cons (pv 0) pa_nil)))
      (pss_one (ps_ret (pe_meth (pe_make MK_Kinds.mkr MK_Kinds.ok (hr.mono (by first | decide | omega)) rfl MK_Kinds.m MK_Kinds.b .nil pass0 (pa_cons (pv 1) pa_nil)) TC_Kinds.cl C_kind_at.m C_kind_at.ok (hr.mono (by first | decide | omega)) C_kind_at.b .nil pass0 (pa_cons (pe_op op_sub (pe_callB call_len_seq (by rfl) T.len PySem.boot_len (pa_cons (pv 1) pa_nil)) pe_int) (pa_cons (pe_make MK_Around.mkr MK_Around.ok (hr.mono (by first | decide | omega)) rfl MK_Around.m MK_Around.b .nil pass0 (pa_cons pe_int (pa_cons pe_bl (pa_cons pe_dnewK pa_nil)))) pa_nil)))))), ?_⟩
  refine ⟨_, rfl, t, v, rfl, ht, hok, by omega, hz, fun R ts Ps H1 e1 hrows nR nP hl hlast hall => ?_⟩
  refine ⟨_, rfl, fun x dx nx ndx ne => ?_⟩
  have sx : Same H1 (upd (upd H1 dx (.own x)) x (.ins CK dx [])) := fun b o z => by rw [upd_ne (ne_of_none z nx), upd_ne (ne_of_none z ndx)]; exact z
  have hrows' := hrows.keep (Keeps.of_same (Ls := []) sx)
  refine ⟨x, dx, R, ts, Ps, rfl, upd_same, hrows', by omega, fun u hu => Nat.le_trans (hall u hu) hz, fun S D H2 k2 K2 nD => ⟨rfl, ?_⟩⟩
  have e12 : Same H1 H2 := fun b o z => k2 b o (ne_of_none z nx) (sx b o z)
  obtain ⟨dx2, hx2⟩ := K2.ins
  obtain ⟨rs, hR2, rl, _⟩ := id K2.rows
  have n2 := K2.nd
  obtain ⟨more, em⟩ := hlast
  have lt : ts.length = more.length + 1 := by rw [em, List.length_append]; rfl
  refine ⟨x, dx2, _, rfl, hx2, kf_no _ _ _ (by decide +kernel) (by decide +kernel) (by decide +kernel), _, rfl, R, rs, rfl, .inl (SqL.of hR2), _, _, rfl, rfl, fun nd nnd => ?_⟩
  have s3 := same_new nnd (.dK [])
  refine fun r ax nr nax nrax => ⟨r, ax, _, _, _, rfl, upd_same, fun H4 k4 hr4 => ⟨rfl, ?_⟩⟩
  have s4 : Same (upd H2 nd (.dK [])) H4 := made_same nr nax k4
  have e24 := s3.trans s4
  have hA : Ard CA H4 D r false false Env.nil 0 := by
    refine ⟨ax, nd, [], hr4, fun e => ?_, s4 _ _ upd_same, Nat.le_refl _, fun y => rfl⟩
    obtain ⟨o, ho, _⟩ := n2
    rw [← e, nnd] at ho
    cases ho
  have htl : ts[more.length]? = some t := by rw [em, List.getElem?_append_right (Nat.le_refl _), Nat.sub_self]; rfl
  refine ⟨x, R, S, D, r, ts, 0, more.length, t, false, false, k, Env.nil, 0, by simp; omega, K2.same e24, hA, htl, hk, hd, by omega, by omega, fun H5 g5 _ => ?_⟩
  have nD1 : H1 D = none := sx.free nD
  exact q H5 fun b o z => g5 b o (ne_of_none (e1 _ _ z) nD1) (e24 _ _ (e12 _ _ (e1 _ _ z)))
end

/-! ### del xs[i:] -/
section
open PySem PySem.Spec
variable {prog : Program} {w : World} {A : Around} {E : Value → Shared → Prop} {s : Shared}
theorem keepLow {α : Type} (a : Nat) (p : Nat → Bool) : ∀ (xs : List α) (i : Nat), (∀ k, i ≤ k → k < i + xs.length → p k = decide (a ≤ k)) →
    ((xs.zipIdx i).filterMap fun q => if p q.2 = true then none else some q.1) = xs.take (a - i)
  | [], i, _ => by simp
  | x :: r, i, h => by
    have ih := keepLow a p r (i + 1) fun k h1 h2 => h k (by omega) (by rw [List.length_cons]; omega)
    rw [List.zipIdx_cons, List.filterMap_cons]
    have hp := h i (Nat.le_refl _) (by rw [List.length_cons]; omega)
    by_cases c : a ≤ i
    · rw [decide_eq_true c] at hp
      dsimp only
      rw [hp, if_pos rfl, ih, show a - (i + 1) = 0 by omega, show a - i = 0 by omega, List.take_zero, List.take_zero]
    · rw [decide_eq_false c] at hp
      dsimp only
      rw [hp, if_neg Bool.false_ne_true, ih]
      dsimp only
      rw [show a - i = (a - (i + 1)) + 1 by omega, List.take_succ_cons]
theorem bounds_from {a n : Nat} (ha : a ≤ n) : sliceBounds (some (a : Int)) none none n = ((a : Int), (n : Int), 1) := by
  simp only [sliceBounds, Option.getD_none]
  have h1 : ¬ ((a : Int) < 0) := by omega
  simp only [h1, if_false, show (1 : Int) > 0 by decide, if_true]
  congr 1
  omega
theorem delItem_from {l sl : Addr} {items : List Value} {n : Nat} {vl vu : Value} {a : Nat} {Q : Unit → Shared → Prop}
    (e : s.heap.get? l = some { cls := .type "list", data := .seq items.toArray n }) (hs : s.heap.IsSliceOf sl vl vu .none) (pl : IsPart vl (some (a : Int))) (pu : IsPart vu none) (ha : a ≤ items.length)
    (hsz : items.length ≤ sizeLine) (h : ∀ f : Array Value → Array Value, f items.toArray = (items.take a).toArray → Q () { s with heap := s.heap.update l (Obj.mapSeq f) }) :
    wpAny (model prog w) A (delItem (.ref l) (.ref sl)) Q E s := by
  have hl : s.heap.IsList l items.toArray := PySem.IsL.isList e
  obtain ⟨os, hos, hcs, hds⟩ := id hs
  have hTs : s.TypeIs (.ref sl) "slice" := ⟨os, hos, hcs⟩
  have hstep : ¬ ((rawPart none == rawInt 0) = true) := Bool.false_ne_true
  refine wpAny_delItem_slot (T := "list") ⟨_, e, rfl⟩ (by decide) F.slot_list_delitem ?_
  refine wpAny_call_entry F.slot_list_delitem ⟨_, e, rfl⟩ F.entry_list_delitem ?_ (F.args_list_delitem_2 _ _)
  show wpAny _ _ (Builtin.List.listSubscript? (.ref sl) >>= _) _ _ s
  refine wpAny_bind ?_
  unfold Builtin.List.listSubscript?
  refine wpAny_bind (wpAny_specialOf hTs slice_no_index ?_)
  simp only [Option.isNone_none, if_true]
  refine wpAny_pure ?_
  show wpAny _ _ (typeOf (.ref sl) >>= _) _ _ s
  refine wpAny_bind (wpAny_typeOf hTs ?_)
  rw [if_neg (by decide)]
  rw [listSliceParts_eq]
  refine wpAny_bind (wpAny_bind (wpAny_field hos hds (x := .none) rfl (wpAny_bind (wpAny_listPart .none ?_))))
  rw [if_neg hstep]
  refine wpAny_bind (wpAny_field hos hds (x := vl) rfl (wpAny_bind (wpAny_listPart pl ?_)))
  refine wpAny_bind (wpAny_field hos hds (x := vu) rfl (wpAny_bind (wpAny_listPart pu (wpAny_pure ?_))))
  dsimp only
  unfold Builtin.List.listItems
  refine wpAny_bind (wpAny_bind (wpAny_seqItems e rfl (wpAny_pure ?_)))
  refine wpAny_bind (wpAny_of_eq ((sliceIndices_raw (some (a : Int)) none none items.toArray.size (by simp)).trans (congrArg (pure : Int × Int × Int → Sem (Int × Int × Int)) (bounds_from (by rw [List.size_toArray]; exact ha)))) ?_)
  refine wpAny_bind (wpAny_rule ?_)
  unfold Builtin.List.listUpdate
  refine wpAny_bind (wpAny_updateSeq (hz := by rw [List.size_toArray]; exact hsz) (_hz' := ?_) e rfl ?_)
  · refine wpAny_bind (wpAny_letGo ?_)
    refine wpAny_pure ⟨.none, rfl, h _ ?_⟩
    refine congrArg List.toArray ((keepLow a _ items 0 fun k _ hk => ?_).trans (by rw [Nat.sub_zero]))
    rw [Nat.zero_add] at hk
    show (if (1 : Int) > 0 then decide ((a : Int) ≤ (k : Int)) && decide ((k : Int) < ((items.toArray.size : Nat) : Int)) && (((k : Int) - (a : Int)) % 1 == 0) else _) = decide (a ≤ k)
    rw [if_pos (by decide), List.size_toArray, decide_eq_true (show (k : Int) < ((items.length : Nat) : Int) by omega), Int.emod_one]
    by_cases c : a ≤ k
    · rw [decide_eq_true c, decide_eq_true (by omega)]; rfl
    · rw [decide_eq_false c, decide_eq_false (by omega)]; rfl
  · rw [List.size_toArray]
    refine Nat.le_trans (List.length_filterMap_le _ _) ?_
    rw [List.length_zipIdx]
    exact Nat.le_succ_of_le hsz
end
/-- del xs[i:] of a list -/
def tCutFrom (to tl : TE) : TS := fun D σ H => to σ H fun x H1 => tl σ H1 fun y H2 => ∃ (l : Addr) (xs : List V) (k : Nat), x = .ref l ∧ y = .int (k : Int) ∧ H2 l = some (.lst xs) ∧ k ≤ xs.length ∧ D.nx σ (upd H2 l (.lst (xs.take k)))
theorem ps_cutFrom {X : Cx} {o i : Expr} {to ti : TE} {p2 tpos pos : Pos} (ho : PE X o to) (hi : PE X i ti) : PS X (.Delete [.Subscript o (.Slice (some i) none none p2) tpos] pos) (tCutFrom to ti) := by
  refine ⟨fun pins s σ H D I h => ?_⟩
  refine wpAny_Delete (wpAny_deleteEach_cons (wpAny_delete_Subscript (thn (ho.run pins s σ H _ I h) fun u s1 ⟨x, H1, I1, rx, q1⟩ => ?_)))
  refine wpAny_Slice (thn (hi.run pins s1 σ H1 _ I1 q1) fun vl s2 ⟨y, H2, I2, ry, l, xs, k, ex, ey, hl, hk, q2⟩ => ?_)
  refine wpAny_pure (wpAny_pure ?_)
  subst ex ey
  obtain rfl : u = Value.ref l := rx
  obtain ⟨t, rfl⟩ := (show ∃ t, vl = Value.int (k : Int) t from ry)
  have I4 : L2.Inv X pins σ H2 { s2 with heap := s2.heap.push { cls := .type "slice", data := .fields #[.int (k : Int) t, .none, .none] } } := I2.kept (t' := s2.toks) fun b ob q => Heap.get?_push_of_some _ q
  obtain ⟨z, its, n, r, hle, e⟩ := I4.lstM hl
  refine delItem_from (a := k) e (Heap.IsSliceOf.new ..) (.int _ _) .none (by omega) (by omega) fun f hf => wpAny_deleteEach_nil ⟨σ, _, I4.lset (its' := its.take k) (t' := s2.toks) hl e hf (r.take _) ?_, q2⟩
  rw [List.length_take]
  omega

/-! ### the telling as a machine: values, what names mean, steps -/
inductive EV where
  | bad
  | num (i : Int)
  | piece (t : Tm)
  | nm (s : Str)
  | fn (f x : Str) (k : Bool) (a b : Tm) (E : Str → EV)
abbrev Evs := Str → EV
def Evs.set (E : Evs) (x : Str) (v : EV) : Evs := fun y => if y = x then v else E y
def Evs.nil : Evs := fun _ => .bad
inductive Stp where
  | tell (t : Tm) (E : Evs)
  | make (t : Tm) (E : Evs)
  | reckon (o : Bin)
  | choose (c a b : Tm) (E : Evs)
  | goB (x : Str) (a b : Tm) (E : Evs)
  | turn (m : Int) (x : Str) (a b : Tm) (k : Int) (E : Evs)
  | goF (f x : Str) (k : Bool) (a b : Tm) (E : Evs)
  | tooGreat
  | mkNum
  | goPiece
  | put (t : Tm)
/-- the next one first, in both lists -/
structure Cfg where
  K : List Stp
  F : List EV
  n : Nat
def Bin.op : Bin → Int → Int → Int
  | .sum, i, j => (i + j) % 1000003
  | .product, i, j => i * j % 1000003
  | .less, i, j => if i < j then 1 else 0
def vN (n : Nat) : Str := ("v" : Str) ++ (toString (n : Int) : Str)
/-- other parts -/
def Tm.re : Tm → List Tm → Tm
  | .bin o _ _, [a, b] => .bin o a b
  | .cond _ _ _, [c, a, b] => .cond c a b
  | .letx x _ _, [a, b] => .letx x a b
  | .turns m x _ _, [a, b] => .turns m x a b
  | .deff f x k _ _, [a, b] => .deff f x k a b
  | .use f _, [a] => .use f a
  | .un o _, [a] => .un o a
  | t, _ => t
inductive Stp1 : Cfg → Cfg → Prop
  | num {m E K F n} : Stp1 ⟨.tell (.num m) E :: K, F, n⟩ ⟨K, .num (m % 1000003) :: F, n⟩
  | name {x E K F n} : E x ≠ .bad → Stp1 ⟨.tell (.name x) E :: K, F, n⟩ ⟨K, E x :: F, n⟩
  | bin {o a b E K F n} : Stp1 ⟨.tell (.bin o a b) E :: K, F, n⟩ ⟨.tell a E :: .tell b E :: .reckon o :: K, F, n⟩
  | cond {c a b E K F n} : Stp1 ⟨.tell (.cond c a b) E :: K, F, n⟩ ⟨.tell c E :: .choose c a b E :: K, F, n⟩
  | letx {x a b E K F n} : Stp1 ⟨.tell (.letx x a b) E :: K, F, n⟩ ⟨.tell a E :: .goB x a b E :: K, F, n⟩
  | turns {m x a b E K F n} : Stp1 ⟨.tell (.turns m x a b) E :: K, F, n⟩ ⟨.tell a E :: .turn m x a b m E :: K, F, n⟩
  | deff {f x k a b E K F n} : Stp1 ⟨.tell (.deff f x k a b) E :: K, F, n⟩ ⟨.tell b (E.set f (.fn f x k a b E)) :: K, F, n⟩
  | use {f a E K F n f' x k a' b' E'} : E f = .fn f' x k a' b' E' → Stp1 ⟨.tell (.use f a) E :: K, F, n⟩ ⟨.tell a E :: .goF f' x k a' b' E' :: K, F, n⟩
  | quote {a E K F n} : Stp1 ⟨.tell (.un .quote a) E :: K, F, n⟩ ⟨.make a E :: .tooGreat :: K, F, n⟩
  | lift {a E K F n} : Stp1 ⟨.tell (.un .lift a) E :: K, F, n⟩ ⟨.tell a E :: .mkNum :: K, F, n⟩
  | run {a E K F n} : Stp1 ⟨.tell (.un .run a) E :: K, F, n⟩ ⟨.tell a E :: .goPiece :: K, F, n⟩
  | reckon {o i j K F n} : 0 ≤ i → i < 1000003 → Stp1 ⟨.reckon o :: K, .num j :: .num i :: F, n⟩ ⟨K, .num (o.op i j) :: F, n⟩
  | chooseA {c a b E i K F n} : i ≠ 0 → Stp1 ⟨.choose c a b E :: K, .num i :: F, n⟩ ⟨.tell a E :: K, F, n⟩
  | chooseB {c a b E K F n} : Stp1 ⟨.choose c a b E :: K, .num 0 :: F, n⟩ ⟨.tell b E :: K, F, n⟩
  | goB {x a b E v K F n} : v ≠ .bad → Stp1 ⟨.goB x a b E :: K, v :: F, n⟩ ⟨.tell b (E.set x v) :: K, F, n⟩
  | turnN {m x a b k E K F n} : k ≤ 0 → Stp1 ⟨.turn m x a b k E :: K, F, n⟩ ⟨K, F, n⟩
  | turnS {m x a b k E v K F n} : 0 < k → v ≠ .bad → Stp1 ⟨.turn m x a b k E :: K, v :: F, n⟩ ⟨.tell b (E.set x v) :: .turn m x a b (k - 1) E :: K, F, n⟩
  | goF {f x k a b E v K F n} : v ≠ .bad → Stp1 ⟨.goF f x k a b E :: K, v :: F, n⟩ ⟨.tell a (E.set x v) :: K, F, n⟩
  | fits {t K F n} : t.size ≤ 2000 → t.deep ≤ 30 → Stp1 ⟨.tooGreat :: K, .piece t :: F, n⟩ ⟨K, .piece t :: F, n⟩
  | mkNum {i K F n} : Stp1 ⟨.mkNum :: K, .num i :: F, n⟩ ⟨K, .piece (.num i) :: F, n⟩
  | goPiece {t K F n} : t.deep ≤ 60 → Stp1 ⟨.goPiece :: K, .piece t :: F, n⟩ ⟨.tell t .nil :: K, F, n⟩
  | mnum {m E K F n} : Stp1 ⟨.make (.num m) E :: K, F, n⟩ ⟨K, .piece (.num m) :: F, n⟩
  | mname {x s E K F n} : E x = .nm s → Stp1 ⟨.make (.name x) E :: K, F, n⟩ ⟨K, .piece (.name s) :: F, n⟩
  | mbin {o a b E K F n} : Stp1 ⟨.make (.bin o a b) E :: K, F, n⟩ ⟨.make a E :: .make b E :: .put (.bin o a b) :: K, F, n⟩
  | mcond {c a b E K F n} : Stp1 ⟨.make (.cond c a b) E :: K, F, n⟩ ⟨.make c E :: .make a E :: .make b E :: .put (.cond c a b) :: K, F, n⟩
  | mletx {x a b E K F n} : Stp1 ⟨.make (.letx x a b) E :: K, F, n⟩ ⟨.make a E :: .make b (E.set x (.nm (vN (n + 1)))) :: .put (.letx (vN (n + 1)) a b) :: K, F, n + 1⟩
  | mturns {m x a b E K F n} : Stp1 ⟨.make (.turns m x a b) E :: K, F, n⟩ ⟨.make a E :: .make b (E.set x (.nm (vN (n + 1)))) :: .put (.turns m (vN (n + 1)) a b) :: K, F, n + 1⟩
  | mdeff {f x k a b E K F n} : Stp1 ⟨.make (.deff f x k a b) E :: K, F, n⟩ ⟨.make a (E.set x (.nm (vN (n + 2)))) :: .make b (E.set f (.nm (vN (n + 1)))) :: .put (.deff (vN (n + 1)) (vN (n + 2)) k a b) :: K, F, n + 2⟩
  | muse {f s a E K F n} : E f = .nm s → Stp1 ⟨.make (.use f a) E :: K, F, n⟩ ⟨.make a E :: .put (.use s a) :: K, F, n⟩
  | mhole {a E K F n} : Stp1 ⟨.make (.un .hole a) E :: K, F, n⟩ ⟨.tell a E :: K, F, n⟩
  | put {t : Tm} {ps : List Tm} {K F n} : ps.length = t.parts.length → ps ≠ [] → Stp1 ⟨.put t :: K, (ps.map EV.piece).reverse ++ F, n⟩ ⟨K, .piece (t.re ps) :: F, n⟩
inductive Boom : Cfg → Prop
  | mk {t : Tm} {K F n} : (2000 < t.size ∨ 30 < t.deep) → t.size ≤ 1000000000 → Boom ⟨.tooGreat :: K, .piece t :: F, n⟩
/-- no hole is told, no quote, lift or run is made -/
def Stp.Good : Stp → Prop
  | .tell t _ => t.w ≠ .hole
  | .make t _ => t.w ≠ .quote ∧ t.w ≠ .lift ∧ t.w ≠ .run
  | _ => True
def NB : Nat := 2 ^ 1900
structure Cfg.Fit (c : Cfg) : Prop where
  good : ∀ s ∈ c.K, s.Good
  k : c.K.length ≤ 100000
  f : c.F.length ≤ 100000
  n : c.n < NB
/-- after m steps it ends: with what is found, or refused -/
inductive Ends : Nat → Cfg → Option (List EV × Nat) → Prop
  | done {F n} : Ends 0 ⟨[], F, n⟩ (some (F, n))
  | boom {c} : c.Fit → Boom c → Ends 1 c none
  | step {m c c' r} : c.Fit → Stp1 c c' → Ends m c' r → Ends (m + 1) c r
def EndsE (c : Cfg) (r : Option (List EV × Nat)) : Prop := ∃ m, Ends m c r
theorem EndsE.step {c c' : Cfg} {r : Option (List EV × Nat)} (h : Stp1 c c') (f : c.Fit) : EndsE c' r → EndsE c r := fun ⟨_, q⟩ => ⟨_, .step f h q⟩
theorem Ends.good {m : Nat} {c : Cfg} {r : Option (List EV × Nat)} (h : Ends m c r) : ∀ s ∈ c.K, s.Good := by
  cases h with
  | done => exact fun _ h => nomatch h
  | boom f _ => exact f.good
  | step f _ _ => exact f.good
theorem Tm.re_head {t : Tm} {ps : List Tm} (h : ps.length = t.parts.length) : (t.re ps).head = t.head := by
  cases t with
  | num n => rfl
  | name n => rfl
  | bin o a b => match ps, h with | [_, _], _ => rfl
  | cond c a b => match ps, h with | [_, _, _], _ => rfl
  | letx n a b => match ps, h with | [_, _], _ => rfl
  | turns k n a b => match ps, h with | [_, _], _ => rfl
  | deff f n k a b => match ps, h with | [_, _], _ => rfl
  | use f a => match ps, h with | [_], _ => rfl
  | un o a => match ps, h with | [_], _ => rfl
theorem Tm.re_parts {t : Tm} {ps : List Tm} (h : ps.length = t.parts.length) : (t.re ps).parts = ps := by
  cases t with
  | num n => match ps, h with | [], _ => rfl
  | name n => match ps, h with | [], _ => rfl
  | bin o a b => match ps, h with | [_, _], _ => rfl
  | cond c a b => match ps, h with | [_, _, _], _ => rfl
  | letx n a b => match ps, h with | [_, _], _ => rfl
  | turns k n a b => match ps, h with | [_, _], _ => rfl
  | deff f n k a b => match ps, h with | [_, _], _ => rfl
  | use f a => match ps, h with | [_], _ => rfl
  | un o a => match ps, h with | [_], _ => rfl

/-! ### the value of a plain term -/
inductive PD where
  | val (i : Int)
  | fn (φ : Int → Int)
abbrev PDs := Str → PD
def PDs.set (ρ : PDs) (x : Str) (v : PD) : PDs := fun y => if y = x then v else ρ y
def PD.int : PD → Int
  | .val i => i
  | .fn _ => 0
def PD.app : PD → Int → Int
  | .val _ => fun _ => 0
  | .fn φ => φ
def iter (g : Int → Int) : Nat → Int → Int
  | 0, i => i
  | k + 1, i => iter g k (g i)
/-- by names and their values; quotes, holes, lifts and runs are passed over -/
def vl : Tm → PDs → Int
  | .num m, _ => m % 1000003
  | .name x, ρ => (ρ x).int
  | .bin o a b, ρ => o.op (vl a ρ) (vl b ρ)
  | .cond c a b, ρ => if vl c ρ = 0 then vl b ρ else vl a ρ
  | .letx x a b, ρ => vl b (ρ.set x (.val (vl a ρ)))
  | .turns m x a b, ρ => iter (fun i => vl b (ρ.set x (.val i))) m.toNat (vl a ρ)
  | .deff f x _ a b, ρ => vl b (ρ.set f (.fn fun i => vl a (ρ.set x (.val i))))
  | .use f a, ρ => (ρ f).app (vl a ρ)
  | .un _ a, ρ => vl a ρ
/-- names in force: values (false) and functions (true) -/
abbrev Sco := Str → Option Bool
def Sco.set (Γ : Sco) (x : Str) (b : Bool) : Sco := fun y => if y = x then some b else Γ y
def Sco.nil : Sco := fun _ => none
def Scp (Γ : Sco) : Tm → Prop
  | .num _ => True
  | .name x => Γ x = some false
  | .bin _ a b => Scp Γ a ∧ Scp Γ b
  | .cond c a b => Scp Γ c ∧ Scp Γ a ∧ Scp Γ b
  | .letx x a b => Scp Γ a ∧ Scp (Γ.set x false) b
  | .turns _ x a b => Scp Γ a ∧ Scp (Γ.set x false) b
  | .deff f x _ a b => Scp (Γ.set x false) a ∧ Scp (Γ.set f true) b
  | .use f a => Γ f = some true ∧ Scp Γ a
  | .un _ a => Scp Γ a
def Plain : Tm → Prop
  | .num _ => True
  | .name _ => True
  | .bin _ a b => Plain a ∧ Plain b
  | .cond c a b => Plain c ∧ Plain a ∧ Plain b
  | .letx _ a b => Plain a ∧ Plain b
  | .turns _ _ a b => Plain a ∧ Plain b
  | .deff _ _ _ a b => Plain a ∧ Plain b
  | .use _ a => Plain a
  | .un _ _ => False
def In (i : Int) : Prop := 0 ≤ i ∧ i < 1000003
theorem In.mod (i : Int) : In (i % 1000003) := ⟨Int.emod_nonneg _ (by decide), Int.emod_lt_of_pos _ (by decide)⟩
theorem In.op (o : Bin) (i j : Int) : In (o.op i j) := by
  cases o with
  | sum => exact .mod _
  | product => exact .mod _
  | less => show In (if i < j then 1 else 0); split <;> exact ⟨by decide, by decide⟩
theorem In.iter {g : Int → Int} (h : ∀ i, In i → In (g i)) : ∀ (k : Nat) {i : Int}, In i → In (iter g k i)
  | 0, _, q => q
  | k + 1, _, q => In.iter h k (h _ q)
/-- how high the two lists may grow; what a function's a asks is told by its name -/
abbrev Hts := Str → Nat
def Hts.set (δ : Hts) (x : Str) (v : Nat) : Hts := fun y => if y = x then v else δ y
def hgt : Tm → Hts → Nat
  | .num _, _ => 1
  | .name _, _ => 1
  | .bin _ a b, δ => 1 + max (hgt a δ) (hgt b δ)
  | .cond c a b, δ => 1 + max (hgt c δ) (max (hgt a δ) (hgt b δ))
  | .letx x a b, δ => 1 + max (hgt a δ) (hgt b (δ.set x 0))
  | .turns _ x a b, δ => 1 + max (hgt a δ) (hgt b (δ.set x 0))
  | .deff f x _ a b, δ => 1 + max (hgt a (δ.set x 0)) (hgt b (δ.set f (hgt a (δ.set x 0))))
  | .use f a, δ => 1 + max (hgt a δ) (δ f)
  | .un .run a, δ => 1 + max (hgt a δ) 2000
  | .un _ a, δ => 1 + hgt a δ
theorem hgt_pos (t : Tm) (δ : Hts) : 1 ≤ hgt t δ := by
  cases t with
  | un o a => cases o <;> simp only [hgt] <;> omega
  | _ => simp only [hgt] <;> omega
structure Hi (K : List Stp) (F : List EV) (n h : Nat) : Prop where
  good : ∀ s ∈ K, s.Good
  k : K.length + 3 * h ≤ 100000
  f : F.length + 3 * h ≤ 100000
  n : n < NB
theorem Hi.fit {L : List Stp} {G : List EV} {K : List Stp} {F : List EV} {n h : Nat} (q : Hi K F n h) (hL : ∀ s ∈ L, s.Good) (h1 : L.length ≤ 3 * h) (h2 : G.length ≤ 3 * h) : Cfg.Fit ⟨L ++ K, G ++ F, n⟩ :=
  ⟨fun s m => (List.mem_append.mp m).elim (hL s) (q.good s), by show (L ++ K).length ≤ _; rw [List.length_append]; have := q.k; omega, by show (G ++ F).length ≤ _; rw [List.length_append]; have := q.f; omega, q.n⟩
theorem Hi.sub {L : List Stp} {G : List EV} {K : List Stp} {F : List EV} {n h h' : Nat} (q : Hi K F n h) (hL : ∀ s ∈ L, s.Good) (h1 : L.length + 3 * h' ≤ 3 * h) (h2 : G.length + 3 * h' ≤ 3 * h) : Hi (L ++ K) (G ++ F) n h' :=
  ⟨fun s m => (List.mem_append.mp m).elim (hL s) (q.good s), by rw [List.length_append]; have := q.k; omega, by rw [List.length_append]; have := q.f; omega, q.n⟩
theorem Hi.le {K : List Stp} {F : List EV} {n h h' : Nat} (q : Hi K F n h) (l : h' ≤ h) : Hi K F n h' := ⟨q.good, by have := q.k; omega, by have := q.f; omega, q.n⟩
theorem goods1 {s : Stp} (h : s.Good) : ∀ z ∈ [s], z.Good := fun z m => by rw [List.mem_singleton.mp m]; exact h
theorem goods2 {s u : Stp} (h : s.Good) (k : u.Good) : ∀ z ∈ [s, u], z.Good := fun z m => (List.mem_cons.mp m).elim (fun e => by rw [e]; exact h) (goods1 k z)
theorem goods3 {s u v : Stp} (h : s.Good) (k : u.Good) (l : v.Good) : ∀ z ∈ [s, u, v], z.Good := fun z m => (List.mem_cons.mp m).elim (fun e => by rw [e]; exact h) (goods2 k l z)
theorem Plain.good {t : Tm} (h : Plain t) (E : Evs) : (Stp.tell t E).Good := by
  show t.w ≠ .hole
  cases t with
  | un o a => exact h.elim
  | bin o a b => cases o <;> exact fun z => nomatch z
  | _ => exact fun z => nomatch z
structure FnR (φ : Int → Int) (x : Str) (a : Tm) (E : Evs) (h : Nat) : Prop where
  val : ∀ i, In i → In (φ i)
  run : ∀ (i : Int) (K : List Stp) (F : List EV) (n : Nat) (r : Option (List EV × Nat)), In i → Hi K F n h → EndsE ⟨K, .num (φ i) :: F, n⟩ r → EndsE ⟨.tell a (E.set x (.num i)) :: K, F, n⟩ r
/-- what names mean: to the machine and as values -/
structure Rel0 (Γ : Sco) (E : Evs) (ρ : PDs) (δ : Hts) : Prop where
  v : ∀ x, Γ x = some false → ∃ i, E x = .num i ∧ ρ x = .val i ∧ In i
  f : ∀ x, Γ x = some true → ∃ f y k a b E' φ, E x = .fn f y k a b E' ∧ ρ x = .fn φ ∧ FnR φ y a E' (δ x)
theorem Rel0.nil {E : Evs} {ρ : PDs} {δ : Hts} : Rel0 .nil E ρ δ := ⟨fun _ h => (by cases h), fun _ h => (by cases h)⟩
theorem Rel0.setv {Γ : Sco} {E : Evs} {ρ : PDs} {δ : Hts} (h : Rel0 Γ E ρ δ) (x : Str) {i : Int} (q : In i) (c : Nat) : Rel0 (Γ.set x false) (E.set x (.num i)) (ρ.set x (.val i)) (δ.set x c) := by
  refine ⟨fun y hy => ?_, fun y hy => ?_⟩
  · by_cases e : y = x
    · exact ⟨i, if_pos e, if_pos e, q⟩
    · unfold Sco.set at hy
      rw [if_neg e] at hy
      obtain ⟨j, a, b, c⟩ := h.v y hy
      exact ⟨j, (if_neg e).trans a, (if_neg e).trans b, c⟩
  · by_cases e : y = x
    · unfold Sco.set at hy
      rw [if_pos e] at hy
      cases hy
    · unfold Sco.set at hy
      rw [if_neg e] at hy
      obtain ⟨f, z, k, a, b, E', φ, p1, p2, p3⟩ := h.f y hy
      exact ⟨f, z, k, a, b, E', φ, (if_neg e).trans p1, (if_neg e).trans p2, by show FnR φ z a E' (if y = x then c else δ y); rw [if_neg e]; exact p3⟩
theorem Rel0.setf {Γ : Sco} {E : Evs} {ρ : PDs} {δ : Hts} (h : Rel0 Γ E ρ δ) (g : Str) {f x : Str} {k : Bool} {a b : Tm} {E' : Evs} {φ : Int → Int} {c : Nat} (q : FnR φ x a E' c) : Rel0 (Γ.set g true) (E.set g (.fn f x k a b E')) (ρ.set g (.fn φ)) (δ.set g c) := by
  refine ⟨fun y hy => ?_, fun y hy => ?_⟩
  · by_cases e : y = g
    · unfold Sco.set at hy
      rw [if_pos e] at hy
      cases hy
    · unfold Sco.set at hy
      rw [if_neg e] at hy
      obtain ⟨j, a, b, c⟩ := h.v y hy
      exact ⟨j, (if_neg e).trans a, (if_neg e).trans b, c⟩
  · by_cases e : y = g
    · exact ⟨f, x, k, a, b, E', φ, if_pos e, if_pos e, by show FnR φ x a E' (if y = g then c else δ y); rw [if_pos e]; exact q⟩
    · unfold Sco.set at hy
      rw [if_neg e] at hy
      obtain ⟨f', z, k', a', b', E2, φ', p1, p2, p3⟩ := h.f y hy
      exact ⟨f', z, k', a', b', E2, φ', (if_neg e).trans p1, (if_neg e).trans p2, by show FnR φ' z a' E2 (if y = g then c else δ y); rw [if_neg e]; exact p3⟩
theorem nb_num (i : Int) : EV.num i ≠ .bad := fun h => nomatch h
theorem turn_run {m : Int} {x : Str} {a b : Tm} {E : Evs} {g : Int → Int} {h : Nat} {K : List Stp} {F : List EV} {n : Nat} {r : Option (List EV × Nat)} (hg : ∀ i, In i → In (g i)) (hi : Hi K F n (1 + h))
    (step : ∀ (i : Int) (K' : List Stp) (F' : List EV), In i → Hi K' F' n h → EndsE ⟨K', .num (g i) :: F', n⟩ r → EndsE ⟨.tell b (E.set x (.num i)) :: K', F', n⟩ r) :
    ∀ (k : Nat) (i : Int), In i → EndsE ⟨K, .num (iter g k i) :: F, n⟩ r → EndsE ⟨.turn m x a b (k : Int) E :: K, .num i :: F, n⟩ r
  | 0, i, _, q => .step (.turnN (by omega)) (hi.fit (L := [_]) (G := [_]) (goods1 trivial) (by show 1 ≤ _; omega) (by show 1 ≤ _; omega)) q
  | k + 1, i, hin, q => by
    refine .step (.turnS (by omega) (nb_num i)) (hi.fit (L := [_]) (G := [_]) (goods1 trivial) (by show 1 ≤ _; omega) (by show 1 ≤ _; omega)) ?_
    refine step i _ F hin (hi.sub (L := [_]) (G := []) (goods1 trivial) (by show 1 + _ ≤ _; omega) (by show 0 + _ ≤ _; omega)) ?_
    rw [show ((k + 1 : Nat) : Int) - 1 = (k : Int) by omega]
    exact turn_run hg hi step k (g i) (hg i hin) q
/-- one step ahead of a plain term's -/
theorem adq0 : ∀ (t : Tm) {Γ : Sco} {E : Evs} {ρ : PDs} {δ : Hts}, Plain t → Scp Γ t → Rel0 Γ E ρ δ → In (vl t ρ) ∧
    ∀ (K : List Stp) (F : List EV) (n : Nat) (r : Option (List EV × Nat)), Hi K F n (hgt t δ) → EndsE ⟨K, .num (vl t ρ) :: F, n⟩ r → EndsE ⟨.tell t E :: K, F, n⟩ r := by
  have first : ∀ {t : Tm} {E : Evs} {K : List Stp} {F : List EV} {n : Nat} {δ : Hts}, Plain t → Hi K F n (hgt t δ) → Cfg.Fit ⟨.tell t E :: K, F, n⟩ := fun {t E K F n δ} hp hi =>
    hi.fit (L := [_]) (G := []) (goods1 (hp.good E)) (by have := hgt_pos t δ; show 1 ≤ _; omega) (Nat.zero_le _)
  intro t
  induction t with
  | num m => exact fun hp _ _ => ⟨.mod _, fun K F n r hi q => .step .num (first hp hi) q⟩
  | name x =>
    intro Γ E ρ δ hp hs hr
    obtain ⟨i, e1, e2, hin⟩ := hr.v x hs
    have e3 : vl (.name x) ρ = i := by show (ρ x).int = i; rw [e2]; rfl
    rw [e3]
    refine ⟨hin, fun K F n r hi q => .step (.name (by rw [e1]; exact nb_num i)) (first hp hi) ?_⟩
    rw [e1]
    exact q
  | bin o a b iha ihb =>
    intro Γ E ρ δ hp hs hr
    refine ⟨.op _ _ _, fun K F n r hi q => .step .bin (first hp hi) ?_⟩
    simp only [hgt] at hi
    refine (iha hp.1 hs.1 hr).2 _ F n r (hi.sub (L := [_, _]) (G := []) (goods2 (hp.2.good E) trivial) (by show 2 + _ ≤ _; omega) (by show 0 + _ ≤ _; omega)) ?_
    refine (ihb hp.2 hs.2 hr).2 _ _ n r (hi.sub (L := [_]) (G := [_]) (goods1 trivial) (by show 1 + _ ≤ _; omega) (by show 1 + _ ≤ _; omega)) ?_
    have h0 := (iha hp.1 hs.1 hr).1
    exact .step (.reckon h0.1 h0.2) (hi.fit (L := [_]) (G := [_, _]) (goods1 trivial) (by show 1 ≤ _; omega) (by show 2 ≤ _; omega)) q
  | cond c a b ihc iha ihb =>
    intro Γ E ρ δ hp hs hr
    refine ⟨?_, fun K F n r hi q => .step .cond (first hp hi) ?_⟩
    · show In (if vl c ρ = 0 then vl b ρ else vl a ρ)
      split
      · exact (ihb hp.2.2 hs.2.2 hr).1
      · exact (iha hp.2.1 hs.2.1 hr).1
    simp only [hgt] at hi
    refine (ihc hp.1 hs.1 hr).2 _ F n r (hi.sub (L := [_]) (G := []) (goods1 trivial) (by show 1 + _ ≤ _; omega) (by show 0 + _ ≤ _; omega)) ?_
    have q' : EndsE ⟨K, .num (if vl c ρ = 0 then vl b ρ else vl a ρ) :: F, n⟩ r := q
    have f : Cfg.Fit ⟨.choose c a b E :: K, .num (vl c ρ) :: F, n⟩ := hi.fit (L := [_]) (G := [_]) (goods1 trivial) (by show 1 ≤ _; omega) (by show 1 ≤ _; omega)
    by_cases z : vl c ρ = 0
    · rw [if_pos z] at q'
      rw [z] at f ⊢
      exact .step .chooseB f ((ihb hp.2.2 hs.2.2 hr).2 K F n r (hi.le (by omega)) q')
    · rw [if_neg z] at q'
      exact .step (.chooseA z) f ((iha hp.2.1 hs.2.1 hr).2 K F n r (hi.le (by omega)) q')
  | letx x a b iha ihb =>
    intro Γ E ρ δ hp hs hr
    have ha := iha hp.1 hs.1 hr
    have hb := ihb hp.2 hs.2 (hr.setv x ha.1 0)
    refine ⟨hb.1, fun K F n r hi q => .step .letx (first hp hi) ?_⟩
    simp only [hgt] at hi
    refine ha.2 _ F n r (hi.sub (L := [_]) (G := []) (goods1 trivial) (by show 1 + _ ≤ _; omega) (by show 0 + _ ≤ _; omega)) ?_
    refine .step (.goB (nb_num _)) (hi.fit (L := [_]) (G := [_]) (goods1 trivial) (by show 1 ≤ _; omega) (by show 1 ≤ _; omega)) ?_
    exact hb.2 K F n r (hi.le (by omega)) q
  | turns m x a b iha ihb =>
    intro Γ E ρ δ hp hs hr
    have ha := iha hp.1 hs.1 hr
    have hb : ∀ i, In i → _ := fun i hi => ihb hp.2 hs.2 (hr.setv x hi 0)
    refine ⟨.iter (fun i hi => (hb i hi).1) _ ha.1, fun K F n r hi q => .step .turns (first hp hi) ?_⟩
    simp only [hgt] at hi
    refine ha.2 _ F n r (hi.sub (L := [_]) (G := []) (goods1 trivial) (by show 1 + _ ≤ _; omega) (by show 0 + _ ≤ _; omega)) ?_
    by_cases z : m ≤ 0
    · have e : m.toNat = 0 := by omega
      have q' : EndsE ⟨K, .num (iter (fun i => vl b (ρ.set x (.val i))) m.toNat (vl a ρ)) :: F, n⟩ r := q
      rw [e] at q'
      exact .step (.turnN z) (hi.fit (L := [_]) (G := [_]) (goods1 trivial) (by show 1 ≤ _; omega) (by show 1 ≤ _; omega)) q'
    · have t := turn_run (m := m) (x := x) (a := a) (b := b) (E := E) (h := hgt b (δ.set x 0)) (K := K) (F := F) (n := n) (r := r) (fun i hi => (hb i hi).1) (hi.le (by omega)) (fun i K' F' hin hi' q' => (hb i hin).2 K' F' n r hi' q') m.toNat (vl a ρ) ha.1 q
      rw [show ((m.toNat : Nat) : Int) = m by omega] at t
      exact t
  | deff f x k a b iha ihb =>
    intro Γ E ρ δ hp hs hr
    have ha : ∀ i, In i → _ := fun i hi => iha hp.1 hs.1 (hr.setv x hi 0)
    have hb := ihb hp.2 hs.2 (hr.setf (f := f) (k := k) (b := b) (φ := fun i => vl a (ρ.set x (.val i))) f (c := hgt a (δ.set x 0)) ⟨fun i hi => (ha i hi).1, fun i K F n r hin hi q => (ha i hin).2 K F n r hi q⟩)
    refine ⟨hb.1, fun K F n r hi q => .step .deff (first hp hi) ?_⟩
    simp only [hgt] at hi
    exact hb.2 K F n r (hi.le (by omega)) q
  | use f a iha =>
    intro Γ E ρ δ hp hs hr
    obtain ⟨f', y, k, a', b', E', φ, e1, e2, hφ⟩ := hr.f f hs.1
    have ha := iha hp hs.2 hr
    have e3 : vl (.use f a) ρ = φ (vl a ρ) := by show (ρ f).app _ = _; rw [e2]; rfl
    rw [e3]
    refine ⟨hφ.val _ ha.1, fun K F n r hi q => .step (.use e1) (first hp hi) ?_⟩
    simp only [hgt] at hi
    refine ha.2 _ F n r (hi.sub (L := [_]) (G := []) (goods1 trivial) (by show 1 + _ ≤ _; omega) (by show 0 + _ ≤ _; omega)) ?_
    refine .step (.goF (nb_num _)) (hi.fit (L := [_]) (G := [_]) (goods1 trivial) (by show 1 ≤ _; omega) (by show 1 ≤ _; omega)) ?_
    exact hφ.run _ K F n r ha.1 (hi.le (by omega)) q
  | un o a _ => intro Γ E ρ δ hp; exact hp.elim

/-! ### how the heap bears the machine -/
theorem pe_gint {X : Cx} {x : Str} {n : Int} {pos : Pos} (h : ∃ t, X.mg x = some (.int n t)) (hg : Gl X x) (hd : (x == ("__debug__" : Str)) = false := by decide) : PE X (.Name x pos) (tC (.int n)) := by
  obtain ⟨t, e⟩ := h
  exact pe_glob hg e ⟨t, rfl⟩ hd
inductive Sf where
  | t (u : W) | m (u : W) | reckon | choose | goB | turn | goF | tooGreat | mkNum | goPiece | put
def Stp.code : Stp → Sf
  | .tell t _ => .t t.w
  | .make t _ => .m t.w
  | .reckon _ => .reckon
  | .choose _ _ _ _ => .choose
  | .goB _ _ _ _ => .goB
  | .turn _ _ _ _ _ _ => .turn
  | .goF _ _ _ _ _ _ => .goF
  | .tooGreat => .tooGreat
  | .mkNum => .mkNum
  | .goPiece => .goPiece
  | .put _ => .put
def Each {α β : Type} (R : α → β → Prop) : List α → List β → Prop
  | [], [] => True
  | a :: as, b :: bs => R a b ∧ Each R as bs
  | _, _ => False
section
variable {α β : Type} {R S : α → β → Prop}
theorem Each.imp (f : ∀ a b, R a b → S a b) : ∀ {as : List α} {bs : List β}, Each R as bs → Each S as bs
  | [], [], _ => True.intro
  | _ :: _, _ :: _, ⟨h, t⟩ => ⟨f _ _ h, Each.imp f t⟩
  | [], _ :: _, h => h.elim
  | _ :: _, [], h => h.elim
theorem Each.len : ∀ {as : List α} {bs : List β}, Each R as bs → bs.length = as.length
  | [], [], _ => rfl
  | _ :: _, _ :: _, ⟨_, t⟩ => congrArg (· + 1) (Each.len t)
  | [], _ :: _, h => h.elim
  | _ :: _, [], h => h.elim
theorem Each.consL {a : α} {as : List α} : ∀ {bs : List β}, Each R (a :: as) bs → ∃ b bs', bs = b :: bs' ∧ R a b ∧ Each R as bs'
  | b :: bs, ⟨h, t⟩ => ⟨b, bs, rfl, h, t⟩
  | [], h => h.elim
theorem Each.nilL : ∀ {bs : List β}, Each R [] bs → bs = []
  | [], _ => rfl
  | _ :: _, h => h.elim
theorem Each.app : ∀ {as as' : List α} {bs bs' : List β}, Each R as bs → Each R as' bs' → Each R (as ++ as') (bs ++ bs')
  | [], _, [], _, _, q => q
  | _ :: _, _, _ :: _, _, ⟨h, t⟩, q => ⟨h, Each.app t q⟩
  | [], _, _ :: _, _, h, _ => h.elim
  | _ :: _, _, [], _, h, _ => h.elim
theorem Each.split : ∀ {as as' : List α} {bs : List β}, Each R (as ++ as') bs → ∃ b1 b2, bs = b1 ++ b2 ∧ Each R as b1 ∧ Each R as' b2
  | [], _, bs, h => ⟨[], bs, rfl, True.intro, h⟩
  | a :: as, as', b :: bs, ⟨h, t⟩ => by
    obtain ⟨b1, b2, e, h1, h2⟩ := Each.split (as := as) t
    exact ⟨b :: b1, b2, by rw [e]; rfl, ⟨h, h1⟩, h2⟩
  | a :: as, _, [], h => h.elim
theorem Each.rev : ∀ {as : List α} {bs : List β}, Each R as bs → Each R as.reverse bs.reverse
  | [], [], _ => True.intro
  | a :: as, b :: bs, ⟨h, t⟩ => by
    rw [List.reverse_cons, List.reverse_cons]
    exact Each.app (Each.rev t) ⟨h, True.intro⟩
  | [], _ :: _, h => h.elim
  | _ :: _, [], h => h.elim
theorem Each.map {γ : Type} (g : γ → α) : ∀ {cs : List γ} {bs : List β}, Each R (cs.map g) bs → Each (fun c b => R (g c) b) cs bs
  | [], [], _ => True.intro
  | _ :: _, _ :: _, ⟨h, t⟩ => ⟨h, Each.map g t⟩
  | [], _ :: _, h => h.elim
  | _ :: _, [], h => h.elim
end
theorem fd_ts : ¬ (("term" : Str) = "size") := by decide +kernel
theorem fd_td : ¬ (("term" : Str) = "depth") := by decide +kernel
theorem fd_sd : ¬ (("size" : Str) = "depth") := by decide +kernel
theorem fd_sf : ¬ (("steps" : Str) = "found") := by decide +kernel
theorem fd_sn : ¬ (("steps" : Str) = "named") := by decide +kernel
theorem fd_fn : ¬ (("found" : Str) = "named") := by decide +kernel
def pcF (tv : V) (t : Tm) : List (Str × V) := putF "depth" (.int (t.deep : Int)) (putF "size" (.int (t.size : Int)) (putF "term" tv []))
theorem pcF_term (tv : V) (t : Tm) : (pcF tv t).lookup ("term" : Str) = some tv := by
  unfold pcF
  rw [lookup_putF, if_neg fd_td, lookup_putF, if_neg fd_ts, lookup_putF, if_pos rfl]
theorem pcF_size (tv : V) (t : Tm) : (pcF tv t).lookup ("size" : Str) = some (.int (t.size : Int)) := by
  unfold pcF
  rw [lookup_putF, if_neg fd_sd, lookup_putF, if_pos rfl]
theorem pcF_depth (tv : V) (t : Tm) : (pcF tv t).lookup ("depth" : Str) = some (.int (t.deep : Int)) := by
  unfold pcF
  rw [lookup_putF, if_pos rfl]
def tlF (S F : Addr) (n : Nat) : List (Str × V) := putF "named" (.int (n : Int)) (putF "found" (.ref F) (putF "steps" (.ref S) []))
theorem tlF_steps (S F : Addr) (n : Nat) : (tlF S F n).lookup ("steps" : Str) = some (.ref S) := by
  unfold tlF
  rw [lookup_putF, if_neg fd_sn, lookup_putF, if_neg fd_sf, lookup_putF, if_pos rfl]
theorem tlF_found (S F : Addr) (n : Nat) : (tlF S F n).lookup ("found" : Str) = some (.ref F) := by
  unfold tlF
  rw [lookup_putF, if_neg fd_fn, lookup_putF, if_pos rfl]
theorem tlF_named (S F : Addr) (n : Nat) : (tlF S F n).lookup ("named" : Str) = some (.int (n : Int)) := by
  unfold tlF
  rw [lookup_putF, if_pos rfl]
theorem tlF_no (S F : Addr) (n : Nat) {m : Str} (h1 : ¬ m = "named") (h2 : ¬ m = "found") (h3 : ¬ m = "steps") : (tlF S F n).lookup m = none := by
  unfold tlF
  rw [lookup_putF, if_neg h1, lookup_putF, if_neg h2, lookup_putF, if_neg h3]
  rfl
inductive EVAt (CP : Addr) (H : Hp) : EV → V → Prop
  | num (i : Int) : EVAt CP H (.num i) (.int i)
  | nm (s : Str) : EVAt CP H (.nm s) (.str s)
  | piece {t : Tm} {q dx : Addr} {tv : V} : H q = some (.ins CP dx (pcF tv t)) → TmAt H t tv → EVAt CP H (.piece t) (.ref q)
  | fn {f x : Str} {k : Bool} {a b : Tm} {E : Str → EV} {q e : Addr} {dv : V} {c : Nat} {kvs : List (Key × V)} (vf : Str → V) : H q = some (.tup [dv, .ref e]) → TmAt H (.deff f x k a b) dv → H e = some (.dK kvs) → kvs.length ≤ c → c + (Tm.deff f x k a b).deep ≤ 1000 →
      (∀ y, E y ≠ .bad → valV kvs (.inr y) = some (vf y)) → (∀ y, E y ≠ .bad → EVAt CP H (E y) (vf y)) → EVAt CP H (.fn f x k a b E) (.ref q)
/-- tuples, dicts and pieces stay -/
def Kp (CP : Addr) (H H' : Hp) : Prop := ∀ b o, H b = some o → ((∃ xs, o = .tup xs) ∨ (∃ kvs, o = .dK kvs) ∨ ∃ dx fs, o = .ins CP dx fs) → H' b = some o
theorem Kp.tups {CP : Addr} {H H' : Hp} (h : Kp CP H H') : Tups H H' := fun b xs q => h b _ q (.inl ⟨_, rfl⟩)
theorem Kp.of_same {CP : Addr} {H H' : Hp} (h : Same H H') : Kp CP H H' := fun b o q _ => h b o q
theorem Kp.trans {CP : Addr} {H H1 H2 : Hp} (a : Kp CP H H1) (b : Kp CP H1 H2) : Kp CP H H2 := fun c o h k => b c o (a c o h k) k
theorem EVAt.mono {CP : Addr} {H H' : Hp} (e : Kp CP H H') {v : EV} {u : V} (h : EVAt CP H v u) : EVAt CP H' v u := by
  induction h with
  | num i => exact .num i
  | nm s => exact .nm s
  | piece a b => exact .piece (e _ _ a (.inr (.inr ⟨_, _, rfl⟩))) (b.mono e.tups)
  | fn vf a b c d f g _ ih => exact .fn vf (e.tups _ _ a) (b.mono e.tups) (e _ _ c (.inr (.inl ⟨_, rfl⟩))) d f g ih
def EnvAt (CP : Addr) (H : Hp) (E : Evs) (e : Addr) (c : Nat) : Prop := ∃ kvs, H e = some (.dK kvs) ∧ kvs.length ≤ c ∧ ∀ y, E y ≠ .bad → ∃ v, valV kvs (.inr y) = some v ∧ EVAt CP H (E y) v
theorem EnvAt.mono {CP : Addr} {H H' : Hp} (k : Kp CP H H') {E : Evs} {e : Addr} {c : Nat} : EnvAt CP H E e c → EnvAt CP H' E e c := fun ⟨kvs, a, b, d⟩ =>
  ⟨kvs, k _ _ a (.inr (.inl ⟨_, rfl⟩)), b, fun y hy => let ⟨v, p, q⟩ := d y hy; ⟨v, p, q.mono k⟩⟩
theorem EnvAt.fn {CP : Addr} {H : Hp} {f x : Str} {k : Bool} {a b : Tm} {E : Evs} {q e : Addr} {dv : V} {c : Nat} (h1 : H q = some (.tup [dv, .ref e])) (h2 : TmAt H (.deff f x k a b) dv) (h3 : EnvAt CP H E e c) (h4 : c + (Tm.deff f x k a b).deep ≤ 1000) : EVAt CP H (.fn f x k a b E) (.ref q) := by
  classical
  obtain ⟨kvs, p1, p2, p3⟩ := h3
  refine .fn (fun y => if hy : E y ≠ .bad then Classical.choose (p3 y hy) else .non) h1 h2 p1 p2 h4 (fun y hy => ?_) fun y hy => ?_
  · rw [dif_pos hy]
    exact (Classical.choose_spec (p3 y hy)).1
  · rw [dif_pos hy]
    exact (Classical.choose_spec (p3 y hy)).2
theorem EVAt.unfn {CP : Addr} {H : Hp} {f x : Str} {k : Bool} {a b : Tm} {E : Evs} {v : V} (h : EVAt CP H (.fn f x k a b E) v) : ∃ q dv e c, v = .ref q ∧ H q = some (.tup [dv, .ref e]) ∧ TmAt H (.deff f x k a b) dv ∧ EnvAt CP H E e c ∧ c + (Tm.deff f x k a b).deep ≤ 1000 := by
  cases h with
  | fn vf h1 h2 h3 h4 h5 h6 h7 => exact ⟨_, _, _, _, rfl, h1, h2, ⟨_, h3, h4, fun y hy => ⟨_, h6 y hy, h7 y hy⟩⟩, h5⟩
/-- a name more -/
theorem EnvAt.set {CP : Addr} {H H' : Hp} {E : Evs} {e p : Addr} {c : Nat} {x : Str} {v : EV} {z : V} {kvs : List (Key × V)} (k : Kp CP H H') (h1 : H e = some (.dK kvs)) (h : EnvAt CP H E e c) (hp : H' p = some (.dK (putK kvs (.inr x) z))) (hv : EVAt CP H' v z) : EnvAt CP H' (E.set x v) p (c + 1) := by
  obtain ⟨kvs', a1, a2, a3⟩ := h
  rw [h1] at a1
  cases a1
  refine ⟨_, hp, by have := length_putK kvs (.inr x) z; omega, fun y hy => ?_⟩
  unfold Evs.set at hy ⊢
  rw [valV_put]
  by_cases c1 : y = x
  · rw [if_pos c1, if_pos (by rw [c1])]
    exact ⟨z, rfl, hv⟩
  · rw [if_neg c1] at hy ⊢
    rw [if_neg (fun q => c1 (Sum.inr.inj q))]
    obtain ⟨u, b1, b2⟩ := a3 y hy
    exact ⟨u, b1, b2.mono k⟩
theorem EnvAt.nil {CP : Addr} {H : Hp} {e : Addr} (h : H e = some (.dK [])) : EnvAt CP H .nil e 0 := ⟨[], h, Nat.le_refl _, fun _ hy => absurd rfl hy⟩
/-- what a step is about -/
def Args (CP : Addr) (H : Hp) : Stp → V → V → Prop
  | .tell t E, a, nn => ∃ e c, TmAt H t a ∧ nn = .ref e ∧ EnvAt CP H E e c ∧ c + t.deep ≤ 1000
  | .make t E, a, nn => ∃ e c, TmAt H t a ∧ nn = .ref e ∧ EnvAt CP H E e c ∧ c + t.deep ≤ 1000
  | .reckon o, a, _ => a = .str o.word
  | .choose c a b E, v, nn => ∃ e m, TmAt H (.cond c a b) v ∧ nn = .ref e ∧ EnvAt CP H E e m ∧ m + (Tm.cond c a b).deep ≤ 1000
  | .goB x a b E, v, nn => ∃ e m, TmAt H (.letx x a b) v ∧ nn = .ref e ∧ EnvAt CP H E e m ∧ m + (Tm.letx x a b).deep ≤ 1000
  | .turn k x a b j E, v, nn => ∃ p tv e m, v = .ref p ∧ H p = some (.tup [tv, .int j]) ∧ TmAt H (.turns k x a b) tv ∧ nn = .ref e ∧ EnvAt CP H E e m ∧ m + (Tm.turns k x a b).deep ≤ 1000
  | .goF f x k a b E, v, nn => ∃ e m, TmAt H (.deff f x k a b) v ∧ nn = .ref e ∧ EnvAt CP H E e m ∧ m + (Tm.deff f x k a b).deep ≤ 1000
  | .tooGreat, _, _ => True
  | .mkNum, _, _ => True
  | .goPiece, _, _ => True
  | .put t, h, m => ∃ p, h = .ref p ∧ H p = some (.tup t.head) ∧ m = .int (t.parts.length : Int)
theorem Args.mono {CP : Addr} {H H' : Hp} (k : Kp CP H H') : ∀ {s : Stp} {a b : V}, Args CP H s a b → Args CP H' s a b
  | .tell _ _, _, _, ⟨e, c, h1, h2, h3, h4⟩ => ⟨e, c, h1.mono k.tups, h2, h3.mono k, h4⟩
  | .make _ _, _, _, ⟨e, c, h1, h2, h3, h4⟩ => ⟨e, c, h1.mono k.tups, h2, h3.mono k, h4⟩
  | .reckon _, _, _, h => h
  | .choose _ _ _ _, _, _, ⟨e, c, h1, h2, h3, h4⟩ => ⟨e, c, h1.mono k.tups, h2, h3.mono k, h4⟩
  | .goB _ _ _ _, _, _, ⟨e, c, h1, h2, h3, h4⟩ => ⟨e, c, h1.mono k.tups, h2, h3.mono k, h4⟩
  | .turn _ _ _ _ _ _, _, _, ⟨p, tv, e, c, h0, h1, h2, h3, h4, h5⟩ => ⟨p, tv, e, c, h0, k.tups _ _ h1, h2.mono k.tups, h3, h4.mono k, h5⟩
  | .goF _ _ _ _ _ _, _, _, ⟨e, c, h1, h2, h3, h4⟩ => ⟨e, c, h1.mono k.tups, h2, h3.mono k, h4⟩
  | .tooGreat, _, _, h => h
  | .mkNum, _, _, h => h
  | .goPiece, _, _, h => h
  | .put _, _, _, ⟨p, h1, h2, h3⟩ => ⟨p, h1, k.tups _ _ h2, h3⟩
def StpAt (CP : Addr) (FA : Sf → Addr) (H : Hp) (s : Stp) (v : V) : Prop := ∃ p a b, v = .ref p ∧ H p = some (.tup [.ref (FA s.code), a, b]) ∧ Args CP H s a b
theorem StpAt.mono {CP : Addr} {FA : Sf → Addr} {H H' : Hp} (k : Kp CP H H') {s : Stp} {v : V} : StpAt CP FA H s v → StpAt CP FA H' s v := fun ⟨p, a, b, h1, h2, h3⟩ => ⟨p, a, b, h1, k.tups _ _ h2, h3.mono k⟩
structure TelAt (CT CP : Addr) (FA : Sf → Addr) (H : Hp) (tl S Fl : Addr) (c : Cfg) : Prop where
  ins : ∃ dx, H tl = some (.ins CT dx (tlF S Fl c.n))
  steps : ∃ ss, H S = some (.lst ss.reverse) ∧ Each (StpAt CP FA H) c.K ss
  found : ∃ fs, H Fl = some (.lst fs.reverse) ∧ Each (EVAt CP H) c.F fs
  ne : S ≠ Fl
  cls : CT ≠ CP
/-- all but the telling's own three stays -/
def Frm (tl S Fl : Addr) (H H' : Hp) : Prop := ∀ b o, b ≠ tl → b ≠ S → b ≠ Fl → H b = some o → H' b = some o
section
variable {CT CP tl S Fl : Addr} {FA : Sf → Addr} {H H' H1 : Hp} {c : Cfg}
theorem Frm.refl : Frm tl S Fl H H := fun _ _ _ _ _ h => h
theorem Frm.trans (a : Frm tl S Fl H H1) (b : Frm tl S Fl H1 H') : Frm tl S Fl H H' := fun c o n1 n2 n3 h => b c o n1 n2 n3 (a c o n1 n2 n3 h)
theorem Frm.of_same (h : Same H H') : Frm tl S Fl H H' := fun b o _ _ _ q => h b o q
theorem Frm.putS (o : HO) : Frm tl S Fl H (upd H S o) := fun b _ _ n _ h => by rw [upd_ne n]; exact h
theorem Frm.putF (o : HO) : Frm tl S Fl H (upd H Fl o) := fun b _ _ _ n h => by rw [upd_ne n]; exact h
theorem Frm.putT (o : HO) : Frm tl S Fl H (upd H tl o) := fun b _ n _ _ h => by rw [upd_ne n]; exact h
theorem TelAt.kp (T : TelAt CT CP FA H tl S Fl c) (f : Frm tl S Fl H H') : Kp CP H H' := by
  obtain ⟨⟨dx, h1⟩, ⟨ss, h2, _⟩, ⟨fs, h3, _⟩, _, hc⟩ := T
  intro b o h k
  have nn : b ≠ tl ∧ b ≠ S ∧ b ≠ Fl := by
    rcases k with ⟨xs, rfl⟩ | ⟨kvs, rfl⟩ | ⟨d, fs', rfl⟩
    · exact ⟨ne_of h h1 (by intro z; cases z), ne_of h h2 (by intro z; cases z), ne_of h h3 (by intro z; cases z)⟩
    · exact ⟨ne_of h h1 (by intro z; cases z), ne_of h h2 (by intro z; cases z), ne_of h h3 (by intro z; cases z)⟩
    · refine ⟨fun z => ?_, ne_of h h2 (by intro z; cases z), ne_of h h3 (by intro z; cases z)⟩
      rw [z, h1] at h
      cases h
      exact hc rfl
  exact f b o nn.1 nn.2.1 nn.2.2 h
theorem TelAt.nS (T : TelAt CT CP FA H tl S Fl c) : tl ≠ S ∧ tl ≠ Fl := by
  obtain ⟨⟨dx, h1⟩, ⟨ss, h2, _⟩, ⟨fs, h3, _⟩, _, _⟩ := T
  exact ⟨ne_of h1 h2 (by intro z; cases z), ne_of h1 h3 (by intro z; cases z)⟩
/-- the same, other things are new -/
theorem TelAt.same (T : TelAt CT CP FA H tl S Fl c) (e : Same H H') : TelAt CT CP FA H' tl S Fl c := by
  have k : Kp CP H H' := .of_same e
  obtain ⟨⟨dx, h1⟩, ⟨ss, h2, h3⟩, ⟨fs, h4, h5⟩, hn, hc⟩ := T
  exact ⟨⟨dx, e _ _ h1⟩, ⟨ss, e _ _ h2, h3.imp fun _ _ z => z.mono k⟩, ⟨fs, e _ _ h4, h5.imp fun _ _ z => z.mono k⟩, hn, hc⟩
theorem TelAt.pushS (T : TelAt CT CP FA H tl S Fl c) {s : Stp} {p : Addr} {a b : V} {ss : List V} (hS : H S = some (.lst ss)) (hp : H p = some (.tup [.ref (FA s.code), a, b])) (ha : Args CP H s a b) :
    TelAt CT CP FA (upd H S (.lst (ss ++ [.ref p]))) tl S Fl ⟨s :: c.K, c.F, c.n⟩ := by
  have k := T.kp (.putS (.lst (ss ++ [.ref p])))
  have n1 := T.nS
  obtain ⟨⟨dx, h1⟩, ⟨ss', h2, h3⟩, ⟨fs, h4, h5⟩, hn, hc⟩ := T
  rw [hS] at h2
  cases h2
  refine ⟨⟨dx, by rw [upd_ne n1.1]; exact h1⟩, ⟨.ref p :: ss', by rw [upd_same, List.reverse_cons], ⟨p, a, b, rfl, k.tups _ _ hp, ha.mono k⟩, h3.imp fun _ _ z => z.mono k⟩, ⟨fs, by rw [upd_ne hn.symm]; exact h4, h5.imp fun _ _ z => z.mono k⟩, hn, hc⟩
theorem TelAt.pushF (T : TelAt CT CP FA H tl S Fl c) {v : EV} {u : V} {fs : List V} (hF : H Fl = some (.lst fs)) (hv : EVAt CP H v u) : TelAt CT CP FA (upd H Fl (.lst (fs ++ [u]))) tl S Fl ⟨c.K, v :: c.F, c.n⟩ := by
  have k := T.kp (.putF (.lst (fs ++ [u])))
  have n1 := T.nS
  obtain ⟨⟨dx, h1⟩, ⟨ss, h2, h3⟩, ⟨fs', h4, h5⟩, hn, hc⟩ := T
  rw [hF] at h4
  cases h4
  exact ⟨⟨dx, by rw [upd_ne n1.2]; exact h1⟩, ⟨ss, by rw [upd_ne hn]; exact h2, h3.imp fun _ _ z => z.mono k⟩, ⟨u :: fs', by rw [upd_same, List.reverse_cons], hv.mono k, h5.imp fun _ _ z => z.mono k⟩, hn, hc⟩
theorem rev_last {x : V} {xs : List V} : (x :: xs).reverse[(x :: xs).reverse.length - 1]? = some x := by
  rw [List.reverse_cons, List.length_append, List.length_singleton, Nat.add_sub_cancel, List.getElem?_append_right (Nat.le_refl _), Nat.sub_self]
  rfl
theorem rev_dropLast {x : V} {xs : List V} : (x :: xs).reverse.dropLast = xs.reverse := by rw [List.reverse_cons, List.dropLast_concat]
/-- pop of what was found -/
theorem TelAt.popF {v : EV} {K : List Stp} {F : List EV} {n : Nat} (T : TelAt CT CP FA H tl S Fl ⟨K, v :: F, n⟩) : ∃ fs u, H Fl = some (.lst (u :: fs).reverse) ∧ EVAt CP H v u ∧ TelAt CT CP FA (upd H Fl (.lst fs.reverse)) tl S Fl ⟨K, F, n⟩ := by
  have k := fun ys : List V => T.kp (H' := upd H Fl (.lst ys)) (.putF _)
  have n1 := T.nS
  obtain ⟨⟨dx, h1⟩, ⟨ss, h2, h3⟩, ⟨fs, h4, h5⟩, hn, hc⟩ := T
  obtain ⟨u, fs', rfl, hu, ht⟩ := h5.consL
  refine ⟨fs', u, h4, hu, ⟨dx, by rw [upd_ne n1.2]; exact h1⟩, ⟨ss, by rw [upd_ne hn]; exact h2, h3.imp fun _ _ z => z.mono (k _)⟩, ⟨fs', upd_same, ht.imp fun _ _ z => z.mono (k _)⟩, hn, hc⟩
theorem TelAt.popS {s : Stp} {K : List Stp} {F : List EV} {n : Nat} (T : TelAt CT CP FA H tl S Fl ⟨s :: K, F, n⟩) : ∃ ss u, H S = some (.lst (u :: ss).reverse) ∧ StpAt CP FA H s u ∧ TelAt CT CP FA (upd H S (.lst ss.reverse)) tl S Fl ⟨K, F, n⟩ := by
  have k := fun ys : List V => T.kp (H' := upd H S (.lst ys)) (.putS _)
  have n1 := T.nS
  obtain ⟨⟨dx, h1⟩, ⟨ss, h2, h3⟩, ⟨fs, h4, h5⟩, hn, hc⟩ := T
  obtain ⟨u, ss', rfl, hu, ht⟩ := h3.consL
  refine ⟨ss', u, h2, hu, ⟨dx, by rw [upd_ne n1.1]; exact h1⟩, ⟨ss', upd_same, ht.imp fun _ _ z => z.mono (k _)⟩, ⟨fs, by rw [upd_ne hn.symm]; exact h4, h5.imp fun _ _ z => z.mono (k _)⟩, hn, hc⟩
end

/-! ### the telling's own methods -/
structure TcT (K : PySem.W.Frag) (C : Addr) : Prop where
  cl : Cls K C
  nS : NoAttr K C "steps"
  nF : NoAttr K C "found"
  nN : NoAttr K C "named"
structure TcP (K : PySem.W.Frag) (C : Addr) : Prop where
  cl : Cls K C
  nT : NoAttr K C "term"
  nS : NoAttr K C "size"
  nD : NoAttr K C "depth"
structure Tl (K : PySem.W.Frag) (w : World) (mg : Str → Option Value) (FA : Sf → Addr) (DT DM : Addr) : Prop where
  tellers : mg "TELLERS" = some (.ref DT)
  makers : mg "MAKERS" = some (.ref DM)
  tw : ∀ u : W, u ≠ .hole → KDct K w DT u.str (.ref (FA (.t u)))
  mw : ∀ u : W, u ≠ .quote → u ≠ .lift → u ≠ .run → KDct K w DM u.str (.ref (FA (.m u)))
  reckon : mg "reckon" = some (.ref (FA .reckon))
  choose : mg "choose" = some (.ref (FA .choose))
  goB : mg "go_on_with_b" = some (.ref (FA .goB))
  turn : mg "turn" = some (.ref (FA .turn))
  goF : mg "go_on_with_function" = some (.ref (FA .goF))
  tooGreat : mg "refuse_too_great" = some (.ref (FA .tooGreat))
  mkNum : mg "make_num" = some (.ref (FA .mkNum))
  goPiece : mg "go_on_with_piece" = some (.ref (FA .goPiece))
  put : mg "put_together" = some (.ref (FA .put))
def spTelInit (CT CP : Addr) (FA : Sf → Addr) : Sp := fun vs H Q _ => ∃ (p dx : Addr), vs = [.ref p] ∧ H p = some (.ins CT dx []) ∧ CT ≠ CP ∧
  ∀ (S Fl : Addr) (H' : Hp), (∀ b o, b ≠ p → H b = some o → H' b = some o) → H S = none → H Fl = none → TelAt CT CP FA H' p S Fl ⟨[], [], 0⟩ → Q .non H'
def spPcInit (CP : Addr) : Sp := fun vs H Q _ => ∃ (p dx : Addr) (tv : V) (i j : Int), vs = [.ref p, tv, .int i, .int j] ∧ H p = some (.ins CP dx []) ∧
  ∀ H', (∀ b, b ≠ p → H' b = H b) → H' p = some (.ins CP dx (putF "depth" (.int j) (putF "size" (.int i) (putF "term" tv [])))) → Q .non H'
def spLater (CT CP : Addr) (FA : Sf → Addr) : Sp := fun vs H Q _ => ∃ (tl S Fl : Addr) (s : Stp) (K : List Stp) (F : List EV) (n : Nat) (a b : V), vs = [.ref tl, .ref (FA s.code), a, b] ∧ Args CP H s a b ∧ TelAt CT CP FA H tl S Fl ⟨K, F, n⟩ ∧ K.length ≤ 200000 ∧
  ∀ H', Frm tl S Fl H H' → TelAt CT CP FA H' tl S Fl ⟨s :: K, F, n⟩ → Q .non H'
def spTell (CT CP : Addr) (FA : Sf → Addr) : Sp := fun vs H Q _ => ∃ (tl S Fl : Addr) (t : Tm) (E : Evs) (K : List Stp) (F : List EV) (n : Nat) (a b : V), vs = [.ref tl, a, b] ∧ Args CP H (.tell t E) a b ∧ t.w ≠ .hole ∧ TelAt CT CP FA H tl S Fl ⟨K, F, n⟩ ∧ K.length ≤ 200000 ∧
  ∀ H', Frm tl S Fl H H' → TelAt CT CP FA H' tl S Fl ⟨.tell t E :: K, F, n⟩ → Q .non H'
def spMakeT (CT CP : Addr) (FA : Sf → Addr) : Sp := fun vs H Q _ => ∃ (tl S Fl : Addr) (t : Tm) (E : Evs) (K : List Stp) (F : List EV) (n : Nat) (a b : V), vs = [.ref tl, a, b] ∧ Args CP H (.make t E) a b ∧ (t.w ≠ .quote ∧ t.w ≠ .lift ∧ t.w ≠ .run) ∧ TelAt CT CP FA H tl S Fl ⟨K, F, n⟩ ∧ K.length ≤ 200000 ∧
  ∀ H', Frm tl S Fl H H' → TelAt CT CP FA H' tl S Fl ⟨.make t E :: K, F, n⟩ → Q .non H'
/-- the parts, each with what its names mean -/
def PartAt (CP : Addr) (H : Hp) (q : Tm × Evs) (v : V) : Prop := ∃ p a b, v = .ref p ∧ H p = some (.tup [a, b]) ∧ Args CP H (.make q.1 q.2) a b
def spMakeOf (CT CP : Addr) (FA : Sf → Addr) : Sp := fun vs H Q _ => ∃ (tl S Fl : Addr) (t : Tm) (qs : List (Tm × Evs)) (K : List Stp) (F : List EV) (n : Nat) (h l : Addr) (us : List V), vs = [.ref tl, .ref h, .ref l] ∧ H h = some (.tup t.head) ∧ H l = some (.lst us) ∧ l ≠ S ∧ l ≠ Fl ∧ Each (PartAt CP H) qs us ∧
  qs.length = t.parts.length ∧ (∀ q ∈ qs, q.1.w ≠ .quote ∧ q.1.w ≠ .lift ∧ q.1.w ≠ .run) ∧ TelAt CT CP FA H tl S Fl ⟨K, F, n⟩ ∧ K.length ≤ 100000 ∧
  ∀ H', Frm tl S Fl H H' → TelAt CT CP FA H' tl S Fl ⟨qs.map (fun q => .make q.1 q.2) ++ .put t :: K, F, n⟩ → Q .non H'
def spNewName (CT CP : Addr) (FA : Sf → Addr) : Sp := fun vs H Q _ => ∃ (tl S Fl : Addr) (c : Cfg), vs = [.ref tl] ∧ TelAt CT CP FA H tl S Fl c ∧ c.n + 1 ≤ NB + 5 ∧
  ∀ H', Frm tl S Fl H H' → TelAt CT CP FA H' tl S Fl ⟨c.K, c.F, c.n + 1⟩ → Q (.str (vN (c.n + 1))) H'
abbrev s_Telling_init : Stmt := inClass (topS 45) 0
theorem sc_Telling_init : FnScope ["self"] ["self"] (defScope s_Telling_init) := ⟨rfl, rfl, rfl, by decide +kernel, rfl, by decide +kernel, by decide +kernel⟩
abbrev s_Piece_init : Stmt := inClass (topS 44) 0
theorem sc_Piece_init : FnScope ["self", "term", "size", "depth"] ["self", "term", "size", "depth"] (defScope s_Piece_init) := ⟨rfl, rfl, rfl, by decide +kernel, rfl, by decide +kernel, by decide +kernel⟩
abbrev s_Telling_later : Stmt := inClass (topS 45) 2
theorem sc_Telling_later : FnScope ["self", "step", "about", "names"] ["self", "step", "about", "names"] (defScope s_Telling_later) := ⟨rfl, rfl, rfl, by decide +kernel, rfl, by decide +kernel, by decide +kernel⟩
abbrev s_Telling_tell : Stmt := inClass (topS 45) 3
theorem sc_Telling_tell : FnScope ["self", "term", "names", "step"] ["self", "term", "names"] (defScope s_Telling_tell) := ⟨rfl, rfl, rfl, by decide +kernel, rfl, by decide +kernel, by decide +kernel⟩
abbrev s_Telling_make : Stmt := inClass (topS 45) 4
theorem sc_Telling_make : FnScope ["self", "term", "names", "step"] ["self", "term", "names"] (defScope s_Telling_make) := ⟨rfl, rfl, rfl, by decide +kernel, rfl, by decide +kernel, by decide +kernel⟩
abbrev s_Telling_make_of : Stmt := inClass (topS 45) 5
theorem sc_Telling_make_of : FnScope ["self", "head", "parts", "part", "names"] ["self", "head", "parts"] (defScope s_Telling_make_of) := ⟨rfl, rfl, rfl, by decide +kernel, rfl, by decide +kernel, by decide +kernel⟩
abbrev s_Telling_new_name : Stmt := inClass (topS 45) 6
theorem sc_Telling_new_name : FnScope ["self"] ["self"] (defScope s_Telling_new_name) := ⟨rfl, rfl, rfl, by decide +kernel, rfl, by decide +kernel, by decide +kernel⟩
theorem putF_len (f : Str) (v : V) (fs : List (Str × V)) : (putF f v fs).length ≤ fs.length + 1 := length_putF f v fs
theorem putF_two (f : Str) (v u : V) : ∀ fs : List (Str × V), putF f v (putF f u fs) = putF f v fs
  | [] => by simp [putF]
  | (g, x) :: r => by
    by_cases e : g = f
    · simp [putF, e]
    · simp [putF, e, putF_two f v u r]
theorem tlF_put (S F : Addr) (n : Nat) : putF "named" (.int ((n : Int) + 1)) (tlF S F n) = tlF S F (n + 1) := putF_two _ _ _ _
theorem putF_few {f : Str} {v : V} {fs : List (Str × V)} {n : Nat} (h : fs.length ≤ n) (l : n + 1 < 1000 := by decide) : (putF f v fs).length < 1000 := by have := putF_len f v fs; omega
theorem tlF_few (S F : Addr) (n : Nat) : (tlF S F n).length < 1000 := putF_few (n := 2) (Nat.le_trans (putF_len _ _ _) (Nat.succ_le_succ (putF_len _ _ _)))
theorem szK {n : Nat} (h : n ≤ 900000) : n < sizeLine := Nat.lt_of_le_of_lt h (by decide)
theorem szI {n : Nat} (h : n ≤ NB + 5) : ((n : Nat) : Int).natAbs.log2 < 1920 := by
  rw [Int.natAbs_natCast]
  by_cases z : n = 0
  · rw [z]; decide
  · rw [Nat.log2_lt z]
    have h1 : 2 ^ 1900 < 2 ^ 1901 := Nat.pow_lt_pow_right (by decide) (by decide)
    have h2 : 2 ^ 1901 < 2 ^ 1920 := Nat.pow_lt_pow_right (by decide) (by decide)
    have h3 : 2 ^ (1900 + 1) = 2 ^ 1900 * 2 := Nat.pow_succ ..
    rw [show 1900 + 1 = 1901 from rfl] at h3
    have h4 : 2 ^ 3 < 2 ^ 1900 := Nat.pow_lt_pow_right (by decide) (by decide)
    unfold NB at h
    generalize 2 ^ 1900 = a at h h1 h3 h4
    generalize 2 ^ 1901 = b at h1 h2 h3
    generalize 2 ^ 1920 = c at h2 ⊢
    omega
theorem vN_line {n : Nat} (h : n + 1 ≤ NB + 5) : (vN (n + 1)).length ≤ sizeLine := by
  have e := int_text_length_le (a := ((n + 1 : Nat) : Int)) (k := 1920) (by decide) (szI h)
  show (("v" : Str).cps ++ (Str.ofString (toString ((n + 1 : Nat) : Int))).cps).size ≤ sizeLine
  rw [Array.size_append]
  have e2 : (Str.ofString (toString ((n + 1 : Nat) : Int))).cps.size = (toString ((n + 1 : Nat) : Int)).length := PySem.ofString_length _
  have e3 : ("v" : Str).cps.size = 1 := by decide +kernel
  rw [e2, e3, sizeLine_eq]
  omega
section
variable {P : Program} {w : World} {K : PySem.W.Frag} {mg : Str → Option Value} {base : Heap} {CT CP DT DM : Addr} {FA : Sf → Addr} {f f1 f2 f3 f4 f5 f6 f7 f8 : Addr} {fd fd1 fd2 fd3 fd4 fd5 fd6 fd7 fd8 : FuncData}
theorem ok_tel_init (F : Fun K "__init__" "Telling.__init__" s_Telling_init f fd) (TC_Telling : TcT K CT) : FnOk P w K mg base CX0 1 f fd ["self"] (spTelInit CT CP FA) := by
  refine F.ok sc_Telling_init (fun vs H Q E h => ?_) (fun cdv A outer s H vs Q E hr h => ?_)
  · obtain ⟨p, dx, rfl, _⟩ := h
    rfl
  obtain ⟨p, dx, rfl, hp, hne, q⟩ := h
  refine ⟨_, (pss_cons (ps_fld (pv 0) (pe_lst pa_nil) rfl)
      (pss_cons (ps_fld (pv 0) (pe_lst pa_nil) rfl)
      (pss_one (ps_fld (pv 0) pe_int rfl)))), ?_⟩
  refine ⟨Nat.zero_le _, fun S nS => ?_⟩
  have pS : p ≠ S := fun z => by rw [← z, hp] at nS; cases nS
  refine ⟨_, rfl, p, CT, dx, _, rfl, by rw [upd_ne pS]; exact hp, TC_Telling.cl, TC_Telling.nS, by show 0 < 1000; decide, ?_⟩
  refine ⟨Nat.zero_le _, fun Fl nF => ?_⟩
  have pF : p ≠ Fl := fun z => by rw [← z, upd_same] at nF; cases nF
  have SF : S ≠ Fl := fun z => by rw [← z, upd_ne pS.symm, upd_same] at nF; cases nF
  refine ⟨_, rfl, p, CT, dx, _, rfl, by rw [upd_ne pF, upd_same], TC_Telling.cl, TC_Telling.nF, putF_few (n := 0) (Nat.le_refl _), ?_⟩
  refine ⟨_, rfl, p, CT, dx, _, rfl, upd_same, TC_Telling.cl, TC_Telling.nN, putF_few (n := 1) (putF_len _ _ _), ?_⟩
  refine q S Fl _ (fun b o n h => ?_) nS ?_ ?_
  · have bS : b ≠ S := ne_of_none h nS
    have bF : b ≠ Fl := by
      refine ne_of_none (H := upd (upd H S (.lst [])) p (.ins CT dx (putF "steps" (.ref S) []))) (o := o) ?_ nF
      rw [upd_ne n, upd_ne bS]
      exact h
    rw [upd_ne n, upd_ne n, upd_ne bF, upd_ne n, upd_ne bS]
    exact h
  · rw [upd_ne pF.symm, upd_ne SF.symm] at nF
    exact nF
  · refine ⟨⟨dx, upd_same⟩, ⟨[], ?_, True.intro⟩, ⟨[], ?_, True.intro⟩, SF, hne⟩
    · rw [upd_ne pS.symm, upd_ne pS.symm, upd_ne SF, upd_ne pS.symm, upd_same]; rfl
    · rw [upd_ne pF.symm, upd_ne pF.symm, upd_same]; rfl
theorem ok_pc_init (F : Fun K "__init__" "Piece.__init__" s_Piece_init f fd) (TC_Piece : TcP K CP) : FnOk P w K mg base CX0 1 f fd ["self", "term", "size", "depth"] (spPcInit CP) := by
  refine F.ok sc_Piece_init (fun vs H Q E h => ?_) (fun cdv A outer s H vs Q E hr h => ?_)
  · obtain ⟨p, dx, tv, i, j, rfl, _⟩ := h
    rfl
  obtain ⟨p, dx, tv, i, j, rfl, hp, q⟩ := h
  refine ⟨_, (pss_cons (ps_fld (pv 0) (pv 1) rfl)
      (pss_cons (ps_fld (pv 0) (pv 2) rfl)
      (pss_one (ps_fld (pv 0) (pv 3) rfl)))), ?_⟩
  refine ⟨_, rfl, _, rfl, p, CP, dx, _, rfl, hp, TC_Piece.cl, TC_Piece.nT, by show 0 < 1000; decide, ?_⟩
  refine ⟨_, rfl, _, rfl, p, CP, dx, _, rfl, upd_same, TC_Piece.cl, TC_Piece.nS, putF_few (n := 0) (Nat.le_refl _), ?_⟩
  refine ⟨_, rfl, _, rfl, p, CP, dx, _, rfl, upd_same, TC_Piece.cl, TC_Piece.nD, putF_few (n := 1) (putF_len _ _ _), ?_⟩
  exact q _ (fun b n => by rw [upd_ne n, upd_ne n, upd_ne n]) upd_same
theorem ok_later (F : Fun K "later" "Telling.later" s_Telling_later f fd) (TC_Telling : TcT K CT) : FnOk P w K mg base CX0 1 f fd ["self", "step", "about", "names"] (spLater CT CP FA) := by
  refine F.ok sc_Telling_later (fun vs H Q E h => ?_) (fun cdv A outer s H vs Q E hr h => ?_)
  · obtain ⟨tl, S, Fl, s, K, F, n, a, b, rfl, _⟩ := h
    rfl
  obtain ⟨tl, S, Fl, s, Ks, Fs, n, a, b, rfl, ha, T, hl, q⟩ := h
  refine ⟨_, (pss_one (ps_expr (pe_bm PySem.F.plainAttrs_list PySem.F.slot_list_append PySem.F.type_list_append mt_append (pe_fld (pv 0) rfl) (pa_cons (pe_tup (pa_cons (pv 1) (pa_cons (pv 2) (pa_cons (pv 3) pa_nil)))) pa_nil)))), ?_⟩
  obtain ⟨dx, ht⟩ := T.ins
  obtain ⟨ss, hS, es⟩ := T.steps
  have sl := es.len
  refine ⟨_, rfl, tl, CT, dx, _, _, rfl, ht, TC_Telling.cl, TC_Telling.nS, tlF_steps _ _ _, .inl ⟨rfl, _, SqL.of hS⟩, _, rfl, _, rfl, _, rfl, sz 3, fun p np => ?_⟩
  have g := same_new np (.tup [.ref (FA s.code), a, b])
  have T1 := T.same g
  refine ⟨S, _, _, rfl, rfl, g _ _ hS, szK (by rw [List.length_reverse, sl]; show Ks.length ≤ _; omega), ?_⟩
  exact q _ ((Frm.of_same g).trans (.putS _)) (T1.pushS (s := s) (g _ _ hS) upd_same (ha.mono (.of_same g)))
theorem ok_tell (F : Fun K "tell" "Telling.tell" s_Telling_tell f fd) (TC_Telling : TcT K CT) (TL : Tl K w mg FA DT DM) (C_later : CalM P w K mg base CT "later" ["self", "step", "about", "names"] 1 (spLater CT CP FA) f1 fd1) : FnOk P w K mg base CX0 2 f fd ["self", "term", "names"] (spTell CT CP FA) := by
  refine F.ok sc_Telling_tell (fun vs H Q E h => ?_) (fun cdv A outer s H vs Q E hr h => ?_)
  · obtain ⟨tl, S, Fl, t, E, K, F, n, a, b, rfl, _⟩ := h
    rfl
  obtain ⟨tl, S, Fl, t, Ev, Ks, Fs, n, a, b, rfl, ha, hw, T, hl, q⟩ := h
  refine ⟨_, (pss_cons (ps_set (i := 3) sc_Telling_tell.nd rfl (Or.inl rfl) (pe_ix ix_kdict (pe_glob (v := V.ref _) rfl TL.tellers rfl) (pe_ix ix_tup (pv 1) pe_int (fun _ _ => rfl)) (fun _ _ => rfl)))
      (pss_one (ps_expr (pe_meth (pv 0) TC_Telling.cl C_later.m C_later.ok (hr.mono (by first | decide | omega)) C_later.b .nil pass0 (pa_cons (pv 3) (pa_cons (pv 1) (pa_cons (pv 2) pa_nil))))))), ?_⟩
  obtain ⟨e, c, tm, _⟩ := id ha
  obtain ⟨p, vs, rfl, hp, _⟩ := tm.open
  rw [t.head_eq] at hp
  obtain ⟨dx, ht⟩ := T.ins
  refine ⟨_, rfl, p, _, _, _, rfl, rfl, SqT.of hp, atI_n (n := 0) rfl rfl, DT, _, _, rfl, rfl, TL.tw t.w hw, ?_⟩
  refine ⟨_, rfl, tl, dx, _, rfl, ht, tlF_no _ _ _ (by decide +kernel) (by decide +kernel) (by decide +kernel), _, rfl, _, rfl, _, rfl, tl, S, Fl, .tell t Ev, Ks, Fs, n, _, _, rfl, ha, T, hl, q⟩
theorem ok_makeT (F : Fun K "make" "Telling.make" s_Telling_make f fd) (TC_Telling : TcT K CT) (TL : Tl K w mg FA DT DM) (C_later : CalM P w K mg base CT "later" ["self", "step", "about", "names"] 1 (spLater CT CP FA) f1 fd1) : FnOk P w K mg base CX0 2 f fd ["self", "term", "names"] (spMakeT CT CP FA) := by
  refine F.ok sc_Telling_make (fun vs H Q E h => ?_) (fun cdv A outer s H vs Q E hr h => ?_)
  · obtain ⟨tl, S, Fl, t, E, K, F, n, a, b, rfl, _⟩ := h
    rfl
  obtain ⟨tl, S, Fl, t, Ev, Ks, Fs, n, a, b, rfl, ha, hw, T, hl, q⟩ := h
  refine ⟨_, (pss_cons (ps_set (i := 3) sc_Telling_make.nd rfl (Or.inl rfl) (pe_ix ix_kdict (pe_glob (v := V.ref _) rfl TL.makers rfl) (pe_ix ix_tup (pv 1) pe_int (fun _ _ => rfl)) (fun _ _ => rfl)))
      (pss_one (ps_expr (pe_meth (pv 0) TC_Telling.cl C_later.m C_later.ok (hr.mono (by first | decide | omega)) C_later.b .nil pass0 (pa_cons (pv 3) (pa_cons (pv 1) (pa_cons (pv 2) pa_nil))))))), ?_⟩
  obtain ⟨e, c, tm, _⟩ := id ha
  obtain ⟨p, vs, rfl, hp, _⟩ := tm.open
  rw [t.head_eq] at hp
  obtain ⟨dx, ht⟩ := T.ins
  refine ⟨_, rfl, p, _, _, _, rfl, rfl, SqT.of hp, atI_n (n := 0) rfl rfl, DM, _, _, rfl, rfl, TL.mw t.w hw.1 hw.2.1 hw.2.2, ?_⟩
  refine ⟨_, rfl, tl, dx, _, rfl, ht, tlF_no _ _ _ (by decide +kernel) (by decide +kernel) (by decide +kernel), _, rfl, _, rfl, _, rfl, tl, S, Fl, .make t Ev, Ks, Fs, n, _, _, rfl, ha, T, hl, q⟩
theorem ok_new_name (F : Fun K "new_name" "Telling.new_name" s_Telling_new_name f fd) (TC_Telling : TcT K CT) : FnOk P w K mg base CX0 1 f fd ["self"] (spNewName CT CP FA) := by
  refine F.ok sc_Telling_new_name (fun vs H Q E h => ?_) (fun cdv A outer s H vs Q E hr h => ?_)
  · obtain ⟨tl, S, Fl, c, rfl, _⟩ := h
    rfl
  obtain ⟨tl, S, Fl, c, rfl, T, hn, q⟩ := h
  refine ⟨_, (pss_cons (ps_fldaug (pv 0) pe_int in_add)
      (pss_one (ps_ret (pe_joined (.cons pe_str (.cons (pe_fmt (pe_fld (pv 0) rfl)) .nil)))))), ?_⟩
  obtain ⟨dx, ht⟩ := T.ins
  refine ⟨_, rfl, tl, CT, dx, _, _, rfl, ht, TC_Telling.cl, TC_Telling.nN, tlF_named _ _ _, _, _, rfl, rfl, dx, _, ht, tlF_few _ _ _, ?_⟩
  rw [tlF_put]
  have g : Frm tl S Fl H (upd H tl (.ins CT dx (tlF S Fl (c.n + 1)))) := .putT _
  have T1 : TelAt CT CP FA (upd H tl (.ins CT dx (tlF S Fl (c.n + 1)))) tl S Fl ⟨c.K, c.F, c.n + 1⟩ := by
    have k := T.kp g
    have n1 := T.nS
    obtain ⟨_, ⟨ss, h2, h3⟩, ⟨fs, h4, h5⟩, h6, h7⟩ := T
    exact ⟨⟨dx, upd_same⟩, ⟨ss, by rw [upd_ne n1.1.symm]; exact h2, h3.imp fun _ _ z => z.mono k⟩, ⟨fs, by rw [upd_ne n1.2.symm]; exact h4, h5.imp fun _ _ z => z.mono k⟩, h6, h7⟩
  have ev : (Str.empty ++ ("v" : Str)) = ("v" : Str) := by decide +kernel
  have hl := vN_line hn
  refine ⟨_, rfl, by rw [ev]; decide +kernel, _, rfl, tl, CT, dx, _, _, rfl, upd_same, TC_Telling.cl, TC_Telling.nN, tlF_named _ _ _, .inr ⟨_, rfl, ?_, _, rfl, ?_, ?_⟩⟩
  · exact szI hn
  · rw [ev]; exact hl
  · show Q (.str ((Str.empty ++ ("v" : Str)) ++ _)) _
    rw [ev]
    exact q _ g T1
/-- part by part, the last one first -/
theorem ok_make_of (F : Fun K "make_of" "Telling.make_of" s_Telling_make_of f fd) (T : Txt mg) (TC_Telling : TcT K CT) (TL : Tl K w mg FA DT DM) (C_later : CalM P w K mg base CT "later" ["self", "step", "about", "names"] 1 (spLater CT CP FA) f1 fd1)
    (C_make : CalM P w K mg base CT "make" ["self", "term", "names"] 2 (spMakeT CT CP FA) f2 fd2) : FnOk P w K mg base CX0 3 f fd ["self", "head", "parts"] (spMakeOf CT CP FA) := by
  refine F.ok sc_Telling_make_of (fun vs H Q E h => ?_) (fun cdv A outer s H vs Q E hr h => ?_)
  · obtain ⟨tl, S, Fl, t, qs, K, F, n, h, l, us, rfl, _⟩ := h
    rfl
  obtain ⟨tl, S, Fl, t, qs, Ks, Fs, n, h, l, us, rfl, hh, hl, nlS, nlF, he, hlen, hw, T0, hK, q⟩ := h
  refine ⟨_, (pss_cons (ps_expr (pe_meth (pv 0) TC_Telling.cl C_later.m C_later.ok (hr.mono (by first | decide | omega)) C_later.b .nil pass0 (pa_cons (pe_glob (v := V.ref _) rfl TL.put rfl) (pa_cons (pv 1) (pa_cons (pe_callB call_len_seq (by rfl) T.len PySem.boot_len (pa_cons (pv 2) pa_nil)) pa_nil)))))
      (pss_one (ps_for PassesOwn.never rfl (RT.pi_revA (by rfl) T.reversed (pv 2)) (pg_tup rfl (pgs_cons (pg_name (i := 3) sc_Telling_make_of.nd rfl (Or.inl rfl)) (pgs_cons (pg_name (i := 4) sc_Telling_make_of.nd rfl (Or.inl rfl)) pgs_nil))) (pss_one (ps_expr (pe_meth (pv 0) TC_Telling.cl C_make.m C_make.ok (hr.mono (by first | decide | omega)) C_make.b .nil pass0 (pa_cons (pv 3) (pa_cons (pv 4) pa_nil)))))))), ?_⟩
  obtain ⟨dx, ht⟩ := T0.ins
  have ul := he.len
  have tp := t.len_parts
  refine ⟨_, rfl, tl, dx, _, rfl, ht, tlF_no _ _ _ (by decide +kernel) (by decide +kernel) (by decide +kernel), _, rfl, _, rfl, l, _, rfl, .inl (SqL.of hl), tl, S, Fl, .put t, Ks, Fs, n, _, _, rfl, ⟨h, rfl, hh, by rw [ul, hlen]⟩, T0, by omega, fun H1 g1 T1 => ?_⟩
  have nlT : l ≠ tl := ne_of hl ht (by intro z; cases z)
  have hl1 := g1 _ _ nlT nlS nlF hl
  have k01 := T0.kp g1
  refine ⟨_, rfl, l, us, rfl, .inl ⟨SqL.of hl1, ?_⟩⟩
  have he1 : Each (PartAt CP H1) qs us := he.imp fun _ _ ⟨p, a, b, e1, e2, e3⟩ => ⟨p, a, b, e1, k01.tups _ _ e2, e3.mono k01⟩
  refine RT.for_Itv (K := K) (a := l) (xs := us) (fun i σ H' => ∃ o1 o2 : Option V, σ = [some (.ref tl), some (.ref h), some (.ref l), o1, o2] ∧ Frm tl S Fl H1 H' ∧ TelAt CT CP FA H' tl S Fl ⟨(qs.drop (qs.length - i)).map (fun q => .make q.1 q.2) ++ .put t :: Ks, Fs, n⟩)
    ⟨none, none, rfl, .refl, by rw [Nat.sub_zero, List.drop_length]; exact T1⟩ (fun i σ H' ⟨_, _, _, g, _⟩ => SqL.of (g _ _ nlT nlS nlF hl1)) ?_ ?_
  · rintro i x σ H' hi hx ⟨o1, o2, rfl, g, T'⟩
    rw [ul] at hi hx
    have k12 := T1.kp g
    have hj : qs.length - 1 - i < qs.length := by omega
    obtain ⟨v, hv, p, a, b, rfl, h2, h3⟩ : ∃ v, us[qs.length - 1 - i]? = some v ∧ PartAt CP H1 qs[qs.length - 1 - i] v := by
      have key : ∀ (ps : List (Tm × Evs)) (vs : List V) (j : Nat) (h : j < ps.length), Each (PartAt CP H1) ps vs → ∃ v, vs[j]? = some v ∧ PartAt CP H1 ps[j] v := by
        intro ps
        induction ps with
        | nil => intro vs j h; cases h
        | cons p ps ih =>
          intro vs j h e
          obtain ⟨b, bs, rfl, e1, e2⟩ := e.consL
          cases j with
          | zero => exact ⟨b, rfl, e1⟩
          | succ j => exact ih bs j (by simpa using h) e2
      exact key qs us _ hj he1
    rw [hv] at hx
    cases hx
    obtain ⟨dx', ht'⟩ := T'.ins
    refine ⟨p, [a, b], rfl, SqT.of (k12.tups _ _ h2), rfl, _, _, rfl, _, _, rfl, rfl, ?_⟩
    refine ⟨_, rfl, tl, dx', _, rfl, ht', tlF_no _ _ _ (by decide +kernel) (by decide +kernel) (by decide +kernel), _, rfl, _, rfl, tl, S, Fl, _, _, _, _, _, _, _, rfl, h3.mono k12, hw _ (List.getElem_mem hj), T', ?_, fun H3 g3 T3 => ⟨_, _, rfl, g.trans g3, ?_⟩⟩
    · rw [List.length_append, List.length_map, List.length_drop, List.length_cons]; omega
    · rw [show qs.length - (i + 1) = qs.length - 1 - i by omega, List.drop_eq_getElem_cons hj, List.map_cons, show qs.length - 1 - i + 1 = qs.length - i by omega]
      exact T3
  · rintro σ H' ⟨o1, o2, rfl, g, T'⟩
    rw [ul, Nat.sub_self, List.drop_zero] at T'
    exact q H' (g1.trans g) T'
end

/-! ### the steps, one by one -/
def spStp (CT CP CG : Addr) (FA : Sf → Addr) (s0 : Sf) : Sp := fun vs H Q E => ∃ (tl S Fl : Addr) (s : Stp) (K : List Stp) (F : List EV) (n : Nat) (a b : V), vs = [.ref tl, a, b] ∧ s.code = s0 ∧ Args CP H s a b ∧ TelAt CT CP FA H tl S Fl ⟨K, F, n⟩ ∧ Cfg.Fit ⟨s :: K, F, n⟩ ∧
  ((∃ c', Stp1 ⟨s :: K, F, n⟩ c' ∧ (∀ z ∈ c'.K, z.Good) ∧ ∀ H', Frm tl S Fl H H' → TelAt CT CP FA H' tl S Fl c' → Q .non H') ∨ (Boom ⟨s :: K, F, n⟩ ∧ E (.ref CG) none H))
theorem code_t {s : Stp} {u : W} (h : s.code = .t u) : ∃ t E, s = .tell t E ∧ t.w = u := by
  cases s <;> first | (cases h; exact ⟨_, _, rfl, rfl⟩) | cases h
theorem code_m {s : Stp} {u : W} (h : s.code = .m u) : ∃ t E, s = .make t E ∧ t.w = u := by
  cases s <;> first | (cases h; exact ⟨_, _, rfl, rfl⟩) | cases h
theorem str_w' {o : Bin} (u : W) (h : decide (V.str o.word = V.str u.str) = true) : o.w = u := by
  rw [o.word_eq] at h
  exact W.inj (V.str.inj (of_decide_eq_true h))
theorem no_later (S F : Addr) (n : Nat) : (tlF S F n).lookup ("later" : Str) = none := tlF_no _ _ _ (by decide +kernel) (by decide +kernel) (by decide +kernel)
theorem no_tell (S F : Addr) (n : Nat) : (tlF S F n).lookup ("tell" : Str) = none := tlF_no _ _ _ (by decide +kernel) (by decide +kernel) (by decide +kernel)
theorem no_make (S F : Addr) (n : Nat) : (tlF S F n).lookup ("make" : Str) = none := tlF_no _ _ _ (by decide +kernel) (by decide +kernel) (by decide +kernel)
theorem no_make_of (S F : Addr) (n : Nat) : (tlF S F n).lookup ("make_of" : Str) = none := tlF_no _ _ _ (by decide +kernel) (by decide +kernel) (by decide +kernel)
theorem no_new (S F : Addr) (n : Nat) : (tlF S F n).lookup ("new_name" : Str) = none := tlF_no _ _ _ (by decide +kernel) (by decide +kernel) (by decide +kernel)
section
variable {CT CP tl S Fl : Addr} {FA : Sf → Addr} {H : Hp} {K : List Stp} {F : List EV} {n : Nat}
theorem TelAt.ltF (T : TelAt CT CP FA H tl S Fl ⟨K, F, n⟩) {fs : List V} (h : H Fl = some (.lst fs)) : fs.length = F.length := by
  obtain ⟨fs', h1, h2⟩ := T.found
  rw [h] at h1
  cases h1
  rw [List.length_reverse, h2.len]
/-- a new dict p, filled from e's and with x more, the value popped off what was found -/
theorem star_pop {v : EV} (T : TelAt CT CP FA H tl S Fl ⟨K, v :: F, n⟩) {E : Evs} {e p q : Addr} {c : Nat} {kvs : List (Key × V)} {x : Str} {u : V} {fs : List V} {o1 o2 o3 : HO} (he : H e = some (.dK kvs)) (hE : EnvAt CP H E e c) (hF : H Fl = some (.lst (u :: fs).reverse)) (hu : EVAt CP H v u)
    (T1 : TelAt CT CP FA (upd H Fl (.lst fs.reverse)) tl S Fl ⟨K, F, n⟩) (np : H p = none) (nq : upd (upd H p o1) p (.dK kvs) q = none) :
    Frm tl S Fl H (upd (upd (upd (upd (upd (upd H p o1) p (.dK kvs)) q o2) Fl (.lst fs.reverse)) q o3) p (.dK (putK kvs (.inr x) u))) ∧
    TelAt CT CP FA (upd (upd (upd (upd (upd (upd H p o1) p (.dK kvs)) q o2) Fl (.lst fs.reverse)) q o3) p (.dK (putK kvs (.inr x) u))) tl S Fl ⟨K, F, n⟩ ∧
    EnvAt CP (upd (upd (upd (upd (upd (upd H p o1) p (.dK kvs)) q o2) Fl (.lst fs.reverse)) q o3) p (.dK (putK kvs (.inr x) u))) (E.set x v) p (c + 1) := by
  have pq : p ≠ q := fun z => by rw [← z, upd_same] at nq; cases nq
  have nq0 : H q = none := by
    rw [upd_ne pq.symm, upd_ne pq.symm] at nq
    exact nq
  have old : ∀ b o, b ≠ Fl → H b = some o → (upd (upd (upd (upd (upd (upd H p o1) p (.dK kvs)) q o2) Fl (.lst fs.reverse)) q o3) p (.dK (putK kvs (.inr x) u))) b = some o := fun b o n1 h => by
    have bp := ne_of_none h np
    have bq := ne_of_none h nq0
    rw [upd_ne bp, upd_ne bq, upd_ne n1, upd_ne bq, upd_ne bp, upd_ne bp]
    exact h
  have fr : Frm tl S Fl H (upd (upd (upd (upd (upd (upd H p o1) p (.dK kvs)) q o2) Fl (.lst fs.reverse)) q o3) p (.dK (putK kvs (.inr x) u))) := fun b o _ _ n3 h => old b o n3 h
  refine ⟨fr, T1.same fun b o h => ?_, hE.set (T.kp fr) he upd_same (hu.mono (T.kp fr))⟩
  by_cases z : b = Fl
  · subst z
    rw [upd_same] at h
    rw [upd_ne (ne_of_none hF np), upd_ne (ne_of_none hF nq0), upd_same]
    exact h
  · rw [upd_ne z] at h
    exact old b o z h
/-- the same, the value was there -/
theorem star_val {c0 : Cfg} (T : TelAt CT CP FA H tl S Fl c0) {E : Evs} {e p q : Addr} {c : Nat} {kvs : List (Key × V)} {x : Str} {v : EV} {u : V} {o1 o2 o3 : HO} (he : H e = some (.dK kvs)) (hE : EnvAt CP H E e c) (hu : EVAt CP H v u)
    (np : H p = none) (nq : upd (upd H p o1) p (.dK kvs) q = none) :
    Same H (upd (upd (upd (upd (upd H p o1) p (.dK kvs)) q o2) q o3) p (.dK (putK kvs (.inr x) u))) ∧
    EnvAt CP (upd (upd (upd (upd (upd H p o1) p (.dK kvs)) q o2) q o3) p (.dK (putK kvs (.inr x) u))) (E.set x v) p (c + 1) := by
  have pq : p ≠ q := fun z => by rw [← z, upd_same] at nq; cases nq
  have nq0 : H q = none := by
    rw [upd_ne pq.symm, upd_ne pq.symm] at nq
    exact nq
  have old : Same H (upd (upd (upd (upd (upd H p o1) p (.dK kvs)) q o2) q o3) p (.dK (putK kvs (.inr x) u))) := fun b o h => by
    have bp := ne_of_none h np
    have bq := ne_of_none h nq0
    rw [upd_ne bp, upd_ne bq, upd_ne bq, upd_ne bp, upd_ne bp]
    exact h
  exact ⟨old, hE.set (.of_same old) he upd_same (hu.mono (.of_same old))⟩
end
abbrev s_tell_num : Stmt := topS 46
theorem sc_tell_num : FnScope ["telling", "term", "names"] ["telling", "term", "names"] (defScope s_tell_num) := ⟨rfl, rfl, rfl, by decide +kernel, rfl, by decide +kernel, by decide +kernel⟩
abbrev s_tell_name : Stmt := topS 47
theorem sc_tell_name : FnScope ["telling", "term", "names"] ["telling", "term", "names"] (defScope s_tell_name) := ⟨rfl, rfl, rfl, by decide +kernel, rfl, by decide +kernel, by decide +kernel⟩
abbrev s_tell_two : Stmt := topS 48
theorem sc_tell_two : FnScope ["telling", "term", "names"] ["telling", "term", "names"] (defScope s_tell_two) := ⟨rfl, rfl, rfl, by decide +kernel, rfl, by decide +kernel, by decide +kernel⟩
abbrev s_reckon : Stmt := topS 49
theorem sc_reckon : FnScope ["telling", "word", "names", "right", "left"] ["telling", "word", "names"] (defScope s_reckon) := ⟨rfl, rfl, rfl, by decide +kernel, rfl, by decide +kernel, by decide +kernel⟩
abbrev s_tell_when : Stmt := topS 50
theorem sc_tell_when : FnScope ["telling", "term", "names"] ["telling", "term", "names"] (defScope s_tell_when) := ⟨rfl, rfl, rfl, by decide +kernel, rfl, by decide +kernel, by decide +kernel⟩
abbrev s_choose : Stmt := topS 51
theorem sc_choose : FnScope ["telling", "term", "names"] ["telling", "term", "names"] (defScope s_choose) := ⟨rfl, rfl, rfl, by decide +kernel, rfl, by decide +kernel, by decide +kernel⟩
abbrev s_tell_let : Stmt := topS 52
theorem sc_tell_let : FnScope ["telling", "term", "names"] ["telling", "term", "names"] (defScope s_tell_let) := ⟨rfl, rfl, rfl, by decide +kernel, rfl, by decide +kernel, by decide +kernel⟩
abbrev s_go_on_with_b : Stmt := topS 53
theorem sc_go_on_with_b : FnScope ["telling", "term", "names"] ["telling", "term", "names"] (defScope s_go_on_with_b) := ⟨rfl, rfl, rfl, by decide +kernel, rfl, by decide +kernel, by decide +kernel⟩
abbrev s_tell_turns : Stmt := topS 54
theorem sc_tell_turns : FnScope ["telling", "term", "names"] ["telling", "term", "names"] (defScope s_tell_turns) := ⟨rfl, rfl, rfl, by decide +kernel, rfl, by decide +kernel, by decide +kernel⟩
abbrev s_turn : Stmt := topS 55
theorem sc_turn : FnScope ["telling", "about", "names", "term", "many"] ["telling", "about", "names"] (defScope s_turn) := ⟨rfl, rfl, rfl, by decide +kernel, rfl, by decide +kernel, by decide +kernel⟩
abbrev s_tell_def : Stmt := topS 56
theorem sc_tell_def : FnScope ["telling", "term", "names"] ["telling", "term", "names"] (defScope s_tell_def) := ⟨rfl, rfl, rfl, by decide +kernel, rfl, by decide +kernel, by decide +kernel⟩
abbrev s_tell_use : Stmt := topS 57
theorem sc_tell_use : FnScope ["telling", "term", "names", "definition", "names_there"] ["telling", "term", "names"] (defScope s_tell_use) := ⟨rfl, rfl, rfl, by decide +kernel, rfl, by decide +kernel, by decide +kernel⟩
abbrev s_go_on_with_function : Stmt := topS 58
theorem sc_go_on_with_function : FnScope ["telling", "definition", "names"] ["telling", "definition", "names"] (defScope s_go_on_with_function) := ⟨rfl, rfl, rfl, by decide +kernel, rfl, by decide +kernel, by decide +kernel⟩
section
variable {P : Program} {w : World} {K : PySem.W.Frag} {mg : Str → Option Value} {base : Heap} {CT CP CG DT DM : Addr} {FA : Sf → Addr} {f f1 f2 f3 f4 f5 f6 f7 f8 : Addr} {fd fd1 fd2 fd3 fd4 fd5 fd6 fd7 fd8 : FuncData}
theorem ok_tell_num (F : Fun K "tell_num" "tell_num" s_tell_num f fd) (T : Txt mg) (TC_Telling : TcT K CT) : FnOk P w K mg base CX0 1 f fd ["telling", "term", "names"] (spStp CT CP CG FA (.t .num)) := by
  refine F.ok sc_tell_num (fun vs H Q E h => ?_) (fun cdv A outer s H vs Q E hr h => ?_)
  · obtain ⟨tl, S, Fl, s, K, F, n, a, b, rfl, _⟩ := h
    rfl
  obtain ⟨tl, S, Fl, s, Ks, Fs, n, a, b, rfl, hc, ha, T0, hf, hq⟩ := h
  obtain ⟨t, Ev, rfl, hw⟩ := code_t hc
  obtain ⟨m, rfl⟩ := w_num hw
  rcases hq with ⟨c', st, gd, q⟩ | ⟨hb, _⟩
  rotate_left
  · cases hb
  cases st
  obtain ⟨e, c, ⟨p, rfl, hp⟩, rfl, hE, hz⟩ := ha
  refine ⟨_, (pss_one (ps_expr (pe_bm PySem.F.plainAttrs_list PySem.F.slot_list_append PySem.F.type_list_append mt_append (pe_fld (pv 0) rfl) (pa_cons (pe_op op_mod (pe_ix ix_tup (pv 1) pe_int (fun _ _ => rfl)) (pe_gint T.g_RECKONED_BY rfl)) pa_nil)))), ?_⟩
  obtain ⟨dx, ht⟩ := T0.ins
  obtain ⟨fs, hF, ef⟩ := T0.found
  refine ⟨_, rfl, tl, CT, dx, _, _, rfl, ht, TC_Telling.cl, TC_Telling.nF, tlF_found _ _ _, .inl ⟨rfl, _, SqL.of hF⟩, _, rfl, p, _, _, _, rfl, rfl, SqT.of hp, atI_n (n := 1) rfl rfl, _, _, rfl, rfl, (by show (0 : Int) < _; decide), Fl, _, _, rfl, rfl, hF, szK (by rw [T0.ltF hF]; have := hf.f; show Fs.length ≤ _; exact Nat.le_trans this (by decide)), ?_⟩
  exact q _ (.putF _) (T0.pushF hF (.num _))
theorem ok_tell_name (F : Fun K "tell_name" "tell_name" s_tell_name f fd) (T : Txt mg) (TC_Telling : TcT K CT) : FnOk P w K mg base CX0 1 f fd ["telling", "term", "names"] (spStp CT CP CG FA (.t .name)) := by
  refine F.ok sc_tell_name (fun vs H Q E h => ?_) (fun cdv A outer s H vs Q E hr h => ?_)
  · obtain ⟨tl, S, Fl, s, K, F, n, a, b, rfl, _⟩ := h
    rfl
  obtain ⟨tl, S, Fl, s, Ks, Fs, n, a, b, rfl, hc, ha, T0, hf, hq⟩ := h
  obtain ⟨t, Ev, rfl, hw⟩ := code_t hc
  obtain ⟨m, rfl⟩ := w_name hw
  rcases hq with ⟨c', st, gd, q⟩ | ⟨hb, _⟩
  rotate_left
  · cases hb
  cases st with
  | name hx =>
  obtain ⟨e, c, ⟨p, rfl, hp⟩, rfl, hE, hz⟩ := ha
  refine ⟨_, (pss_one (ps_expr (pe_bm PySem.F.plainAttrs_list PySem.F.slot_list_append PySem.F.type_list_append mt_append (pe_fld (pv 0) rfl) (pa_cons (pe_dget (hu_of hr) (pv 2) (pe_ix ix_tup (pv 1) pe_int (fun _ _ => rfl)) (fun _ _ => rfl)) pa_nil)))), ?_⟩
  obtain ⟨dx, ht⟩ := T0.ins
  obtain ⟨fs, hF, ef⟩ := T0.found
  obtain ⟨kvs, he, hl, hy⟩ := hE
  obtain ⟨v, hv, ev⟩ := hy m hx
  refine ⟨_, rfl, tl, CT, dx, _, _, rfl, ht, TC_Telling.cl, TC_Telling.nF, tlF_found _ _ _, .inl ⟨rfl, _, SqL.of hF⟩, _, rfl, _, rfl, p, _, _, _, rfl, rfl, SqT.of hp, atI_n (n := 1) rfl rfl, e, v, rfl, hv ▸ DGet.k (k := Sum.inr m) he, Fl, _, _, rfl, rfl, hF, szK (by rw [T0.ltF hF]; have := hf.f; show Fs.length ≤ _; exact Nat.le_trans this (by decide)), ?_⟩
  exact q _ (.putF _) (T0.pushF hF ev)
theorem ok_tell_two (F : Fun K "tell_two" "tell_two" s_tell_two f fd) (T : Txt mg) (TC_Telling : TcT K CT) (TL : Tl K w mg FA DT DM) (C_later : CalM P w K mg base CT "later" ["self", "step", "about", "names"] 1 (spLater CT CP FA) f1 fd1)
    (C_tell : CalM P w K mg base CT "tell" ["self", "term", "names"] 2 (spTell CT CP FA) f2 fd2) : FnOk P w K mg base CX0 3 f fd ["telling", "term", "names"] (fun vs H Q E => ∃ o : Bin, spStp CT CP CG FA (.t o.w) vs H Q E) := by
  refine F.ok sc_tell_two (fun vs H Q E h => ?_) (fun cdv A outer s H vs Q E hr h => ?_)
  · obtain ⟨o, tl, S, Fl, s, K, F, n, a, b, rfl, _⟩ := h
    rfl
  obtain ⟨o, tl, S, Fl, s, Ks, Fs, n, a, b, rfl, hc, ha, T0, hf, hq⟩ := h
  obtain ⟨t, Ev, rfl, hw⟩ := code_t hc
  obtain ⟨a, b, rfl⟩ := w_bin hw
  rcases hq with ⟨c', st, gd, q⟩ | ⟨hb, _⟩
  rotate_left
  · cases hb
  cases st
  obtain ⟨e, c, ⟨p, v1, v2, rfl, hp, ta, tb⟩, rfl, hE, hz⟩ := ha
  simp only [Tm.deep] at hz
  refine ⟨_, (pss_cons (ps_expr (pe_meth (pv 0) TC_Telling.cl C_later.m C_later.ok (hr.mono (by first | decide | omega)) C_later.b .nil pass0 (pa_cons (pe_glob (v := V.ref _) rfl TL.reckon rfl) (pa_cons (pe_ix ix_tup (pv 1) pe_int (fun _ _ => rfl)) (pa_cons (pv 2) pa_nil)))))
      (pss_cons (ps_expr (pe_meth (pv 0) TC_Telling.cl C_tell.m C_tell.ok (hr.mono (by first | decide | omega)) C_tell.b .nil pass0 (pa_cons (pe_ix ix_tup (pv 1) pe_int (fun _ _ => rfl)) (pa_cons (pv 2) pa_nil))))
      (pss_one (ps_expr (pe_meth (pv 0) TC_Telling.cl C_tell.m C_tell.ok (hr.mono (by first | decide | omega)) C_tell.b .nil pass0 (pa_cons (pe_ix ix_tup (pv 1) pe_int (fun _ _ => rfl)) (pa_cons (pv 2) pa_nil))))))), ?_⟩
  obtain ⟨dx, ht⟩ := T0.ins
  have hk : Ks.length + 1 ≤ 100000 := hf.k
  refine ⟨_, rfl, tl, dx, _, rfl, ht, no_later _ _ _, _, rfl, p, _, _, _, rfl, rfl, SqT.of hp, atI_n (n := 0) rfl rfl, _, rfl, tl, S, Fl, .reckon o, Ks, Fs, n, _, _, rfl, rfl, T0, by omega, fun H1 g1 T1 => ?_⟩
  have k1 := T0.kp g1
  obtain ⟨dx1, ht1⟩ := T1.ins
  refine ⟨_, rfl, tl, dx1, _, rfl, ht1, no_tell _ _ _, _, rfl, p, _, _, _, rfl, rfl, SqT.of (k1.tups _ _ hp), atI_n (n := 2) rfl rfl, _, rfl, tl, S, Fl, b, Ev, _, _, _, _, _, rfl, ⟨e, c, tb.mono k1.tups, rfl, hE.mono k1, by omega⟩, gd _ (.tail _ (.head _)), T1, by show Ks.length + 1 ≤ _; omega, fun H2 g2 T2 => ?_⟩
  have k2 := k1.trans (T1.kp g2)
  obtain ⟨dx2, ht2⟩ := T2.ins
  refine ⟨_, rfl, tl, dx2, _, rfl, ht2, no_tell _ _ _, _, rfl, p, _, _, _, rfl, rfl, SqT.of (k2.tups _ _ hp), atI_n (n := 1) rfl rfl, _, rfl, tl, S, Fl, a, Ev, _, _, _, _, _, rfl, ⟨e, c, ta.mono k2.tups, rfl, hE.mono k2, by omega⟩, gd _ (.head _), T2, by show Ks.length + 1 + 1 ≤ _; omega, fun H3 g3 T3 => ?_⟩
  exact q _ (g1.trans (g2.trans g3)) T3
theorem ok_reckon (F : Fun K "reckon" "reckon" s_reckon f fd) (T : Txt mg) (TC_Telling : TcT K CT) : FnOk P w K mg base CX0 1 f fd ["telling", "word", "names"] (spStp CT CP CG FA .reckon) := by
  refine F.ok sc_reckon (fun vs H Q E h => ?_) (fun cdv A outer s H vs Q E hr h => ?_)
  · obtain ⟨tl, S, Fl, s, K, F, n, a, b, rfl, _⟩ := h
    rfl
  obtain ⟨tl, S, Fl, s, Ks, Fs, n, a, b, rfl, hc, ha, T0, hf, hq⟩ := h
  rcases hq with ⟨c', st, gd, q⟩ | ⟨hb, _⟩
  rotate_left
  · cases hb; cases hc
  cases st <;> try cases hc
  rename_i o i j Fs h0 h1
  obtain rfl := ha
  refine ⟨_, (pss_cons (ps_set (i := 3) sc_reckon.nd rfl (Or.inl rfl) (pe_bm0 PySem.F.plainAttrs_list PySem.F.slot_list_pop PySem.F.type_list_pop mt_pop (pe_fld (pv 0) rfl)))
      (pss_cons (ps_set (i := 4) sc_reckon.nd rfl (Or.inl rfl) (pe_bm0 PySem.F.plainAttrs_list PySem.F.slot_list_pop PySem.F.type_list_pop mt_pop (pe_fld (pv 0) rfl)))
      (pss_one (ps_if (pt_cmpR op_eq (pv 1) pe_str (nomark _)) (pss_one (ps_expr (pe_bm PySem.F.plainAttrs_list PySem.F.slot_list_append PySem.F.type_list_append mt_append (pe_fld (pv 0) rfl) (pa_cons (pe_op op_mod (pe_op op_add (pv 4) (pv 3)) (pe_gint T.g_RECKONED_BY rfl)) pa_nil)))) (pss_one (ps_if (pt_cmpR op_eq (pv 1) pe_str (nomark _)) (pss_one (ps_expr (pe_bm PySem.F.plainAttrs_list PySem.F.slot_list_append PySem.F.type_list_append mt_append (pe_fld (pv 0) rfl) (pa_cons (pe_op op_mod (pe_op op_mul (pv 4) (pv 3)) (pe_gint T.g_RECKONED_BY rfl)) pa_nil)))) (pss_one (ps_expr (pe_bm PySem.F.plainAttrs_list PySem.F.slot_list_append PySem.F.type_list_append mt_append (pe_fld (pv 0) rfl) (pa_cons (pe_ifExp (pt_cmpR op_lt (pv 4) (pv 3) (nomark _)) pe_int pe_int) pa_nil)))))))))), ?_⟩
  obtain ⟨dx, ht⟩ := T0.ins
  obtain ⟨fs, u, hF, eu, T1⟩ := T0.popF
  cases eu
  obtain ⟨fs1, u1, hF1, eu1, T2⟩ := T1.popF
  cases eu1
  have g1 : Frm tl S Fl H (upd H Fl (.lst fs.reverse)) := .putF _
  have g2 : Frm tl S Fl (upd H Fl (.lst fs.reverse)) (upd (upd H Fl (.lst fs.reverse)) Fl (.lst fs1.reverse)) := .putF _
  obtain ⟨dx1, ht1⟩ := T1.ins
  obtain ⟨dx2, ht2⟩ := T2.ins
  refine ⟨_, rfl, tl, CT, dx, _, _, rfl, ht, TC_Telling.cl, TC_Telling.nF, tlF_found _ _ _, .inl ⟨rfl, _, SqL.of hF⟩, Fl, _, _, rfl, rfl, hF, rev_last, ?_⟩
  rw [rev_dropLast]
  refine ⟨_, rfl, tl, CT, dx1, _, _, rfl, ht1, TC_Telling.cl, TC_Telling.nF, tlF_found _ _ _, .inl ⟨rfl, _, SqL.of hF1⟩, Fl, _, _, rfl, rfl, hF1, rev_last, ?_⟩
  rw [rev_dropLast]
  generalize upd (upd H Fl (.lst fs.reverse)) Fl (.lst fs1.reverse) = H2 at T2 ht2 g2 ⊢
  obtain ⟨fs2, hF2, ef2⟩ := T2.found
  have fl2 : fs2.reverse.length < sizeLine := szK (by rw [T2.ltF hF2]; have := hf.f; simp only [List.length_cons] at this; show Fs.length ≤ _; omega)
  have fin : ∀ z : Int, z = o.op i j → Q .non (upd H2 Fl (.lst (fs2.reverse ++ [.int z]))) := fun z e => by
    subst e
    exact q _ (g1.trans (g2.trans (.putF _))) (T2.pushF hF2 (.num _))
  refine ⟨_, rfl, rfl, _, rfl, ite2 (fun c1 => ?_) fun c1 => ?_⟩
  · have e : o.w = .sum := str_w' .sum c1
    refine ⟨_, rfl, tl, CT, dx2, _, _, rfl, ht2, TC_Telling.cl, TC_Telling.nF, tlF_found _ _ _, .inl ⟨rfl, _, SqL.of hF2⟩, _, rfl, _, rfl, _, _, rfl, rfl, _, _, rfl, rfl, (by show (0 : Int) < _; decide), Fl, _, _, rfl, rfl, hF2, fl2, fin _ ?_⟩
    cases o <;> first | rfl | cases e
  refine ⟨_, rfl, rfl, _, rfl, ite2 (fun c2 => ?_) fun c2 => ?_⟩
  · have e : o.w = .product := str_w' .product c2
    refine ⟨_, rfl, tl, CT, dx2, _, _, rfl, ht2, TC_Telling.cl, TC_Telling.nF, tlF_found _ _ _, .inl ⟨rfl, _, SqL.of hF2⟩, _, rfl, _, rfl, _, _, rfl, rfl, .inl ⟨by omega, by omega⟩, _, _, rfl, rfl, (by show (0 : Int) < _; decide), Fl, _, _, rfl, rfl, hF2, fl2, fin _ ?_⟩
    cases o <;> first | rfl | cases e
  have e : o = .less := by
    cases o with
    | sum => exact absurd (decide_eq_true rfl) c1
    | product => exact absurd (decide_eq_true rfl) c2
    | less => rfl
  subst e
  refine ⟨_, rfl, tl, CT, dx2, _, _, rfl, ht2, TC_Telling.cl, TC_Telling.nF, tlF_found _ _ _, .inl ⟨rfl, _, SqL.of hF2⟩, _, rfl, _, rfl, _, _, rfl, rfl, _, rfl, ?_⟩
  refine ite2 (fun c3 => ?_) fun c3 => ?_
  · exact ⟨Fl, _, _, rfl, rfl, hF2, fl2, fin _ (by show 1 = if i < j then (1 : Int) else 0; rw [if_pos (of_decide_eq_true c3)])⟩
  · exact ⟨Fl, _, _, rfl, rfl, hF2, fl2, fin _ (by show 0 = if i < j then (1 : Int) else 0; rw [if_neg (fun z => c3 (decide_eq_true z))])⟩
end
theorem iteT' {c A B : Prop} [Decidable c] (h : c) (a : A) : if c then A else B := by
  rw [if_pos h]
  exact a
theorem iteF' {c A B : Prop} [Decidable c] (h : ¬ c) (b : B) : if c then A else B := by
  rw [if_neg h]
  exact b
section
variable {P : Program} {w : World} {K : PySem.W.Frag} {mg : Str → Option Value} {base : Heap} {CT CP CG DT DM : Addr} {FA : Sf → Addr} {f f1 f2 f3 f4 f5 f6 f7 f8 : Addr} {fd fd1 fd2 fd3 fd4 fd5 fd6 fd7 fd8 : FuncData}
theorem ok_tell_when (F : Fun K "tell_when" "tell_when" s_tell_when f fd) (T : Txt mg) (TC_Telling : TcT K CT) (TL : Tl K w mg FA DT DM) (C_later : CalM P w K mg base CT "later" ["self", "step", "about", "names"] 1 (spLater CT CP FA) f1 fd1)
    (C_tell : CalM P w K mg base CT "tell" ["self", "term", "names"] 2 (spTell CT CP FA) f2 fd2) : FnOk P w K mg base CX0 3 f fd ["telling", "term", "names"] (spStp CT CP CG FA (.t .when)) := by
  refine F.ok sc_tell_when (fun vs H Q E h => ?_) (fun cdv A outer s H vs Q E hr h => ?_)
  · obtain ⟨tl, S, Fl, s, K, F, n, a, b, rfl, _⟩ := h
    rfl
  obtain ⟨tl, S, Fl, s, Ks, Fs, n, a, b, rfl, hc, ha, T0, hf, hq⟩ := h
  obtain ⟨t, Ev, rfl, hw⟩ := code_t hc
  obtain ⟨c0, a, b, rfl⟩ := w_when hw
  rcases hq with ⟨c', st, gd, q⟩ | ⟨hb, _⟩
  rotate_left
  · cases hb
  cases st
  obtain ⟨e, c, ta, rfl, hE, hz⟩ := id ha
  obtain ⟨p, v1, v2, v3, rfl, hp, tc, _, _⟩ := id ta
  refine ⟨_, (pss_cons (ps_expr (pe_meth (pv 0) TC_Telling.cl C_later.m C_later.ok (hr.mono (by first | decide | omega)) C_later.b .nil pass0 (pa_cons (pe_glob (v := V.ref _) rfl TL.choose rfl) (pa_cons (pv 1) (pa_cons (pv 2) pa_nil)))))
      (pss_one (ps_expr (pe_meth (pv 0) TC_Telling.cl C_tell.m C_tell.ok (hr.mono (by first | decide | omega)) C_tell.b .nil pass0 (pa_cons (pe_ix ix_tup (pv 1) pe_int (fun _ _ => rfl)) (pa_cons (pv 2) pa_nil)))))), ?_⟩
  obtain ⟨dx, ht⟩ := T0.ins
  have hk : Ks.length + 1 ≤ 100000 := hf.k
  refine ⟨_, rfl, tl, dx, _, rfl, ht, no_later _ _ _, _, rfl, _, rfl, tl, S, Fl, .choose c0 a b Ev, Ks, Fs, n, _, _, rfl, ⟨e, c, ta, rfl, hE, hz⟩, T0, by omega, fun H1 g1 T1 => ?_⟩
  have k1 := T0.kp g1
  obtain ⟨dx1, ht1⟩ := T1.ins
  simp only [Tm.deep] at hz
  refine ⟨_, rfl, tl, dx1, _, rfl, ht1, no_tell _ _ _, _, rfl, p, _, _, _, rfl, rfl, SqT.of (k1.tups _ _ hp), atI_n (n := 1) rfl rfl, _, rfl, tl, S, Fl, c0, Ev, _, _, _, _, _, rfl, ⟨e, c, tc.mono k1.tups, rfl, hE.mono k1, by omega⟩, gd _ (.head _), T1, by show Ks.length + 1 ≤ _; omega, fun H2 g2 T2 => q _ (g1.trans g2) T2⟩
theorem ok_choose (F : Fun K "choose" "choose" s_choose f fd) (T : Txt mg) (TC_Telling : TcT K CT)
    (C_tell : CalM P w K mg base CT "tell" ["self", "term", "names"] 2 (spTell CT CP FA) f2 fd2) : FnOk P w K mg base CX0 3 f fd ["telling", "term", "names"] (spStp CT CP CG FA .choose) := by
  refine F.ok sc_choose (fun vs H Q E h => ?_) (fun cdv A outer s H vs Q E hr h => ?_)
  · obtain ⟨tl, S, Fl, s, K, F, n, a, b, rfl, _⟩ := h
    rfl
  obtain ⟨tl, S, Fl, s, Ks, Fs, n, a, b, rfl, hc, ha, T0, hf, hq⟩ := h
  rcases hq with ⟨c', st, gd, q⟩ | ⟨hb, _⟩
  rotate_left
  · cases hb; cases hc
  have hk : Ks.length + 1 ≤ 100000 := hf.k
  refine ⟨_, (pss_one (ps_if (pt_cmpR op_ne (pe_bm0 PySem.F.plainAttrs_list PySem.F.slot_list_pop PySem.F.type_list_pop mt_pop (pe_fld (pv 0) rfl)) pe_int (nomark _)) (pss_one (ps_expr (pe_meth (pv 0) TC_Telling.cl C_tell.m C_tell.ok (hr.mono (by first | decide | omega)) C_tell.b .nil pass0 (pa_cons (pe_ix ix_tup (pv 1) pe_int (fun _ _ => rfl)) (pa_cons (pv 2) pa_nil))))) (pss_one (ps_expr (pe_meth (pv 0) TC_Telling.cl C_tell.m C_tell.ok (hr.mono (by first | decide | omega)) C_tell.b .nil pass0 (pa_cons (pe_ix ix_tup (pv 1) pe_int (fun _ _ => rfl)) (pa_cons (pv 2) pa_nil))))))), ?_⟩
  cases st <;> try cases hc
  · rename_i c0 a b Ev i Fs hi
    obtain ⟨e, c, ⟨p, v1, v2, v3, rfl, hp, tc, ta, tb⟩, rfl, hE, hz⟩ := ha
    simp only [Tm.deep] at hz
    obtain ⟨dx, ht⟩ := T0.ins
    obtain ⟨fs, u, hF, eu, T1⟩ := T0.popF
    cases eu
    have k1 := T0.kp (H' := upd H Fl (.lst fs.reverse)) (.putF _)
    obtain ⟨dx1, ht1⟩ := T1.ins
    refine ⟨_, rfl, tl, CT, dx, _, _, rfl, ht, TC_Telling.cl, TC_Telling.nF, tlF_found _ _ _, .inl ⟨rfl, _, SqL.of hF⟩, Fl, _, _, rfl, rfl, hF, rev_last, ?_⟩
    rw [rev_dropLast]
    refine ⟨rfl, _, rfl, iteT' (by simpa using hi) ?_⟩
    refine ⟨_, rfl, tl, dx1, _, rfl, ht1, no_tell _ _ _, _, rfl, p, _, _, _, rfl, rfl, SqT.of (k1.tups _ _ hp), atI_n (n := 2) rfl rfl, _, rfl, tl, S, Fl, a, Ev, _, _, _, _, _, rfl, ⟨e, c, ta.mono k1.tups, rfl, hE.mono k1, by omega⟩, gd _ (.head _), T1, by omega, fun H2 g2 T2 => q _ (Frm.trans (.putF _) g2) T2⟩
  · rename_i c0 a b Ev Fs
    obtain ⟨e, c, ⟨p, v1, v2, v3, rfl, hp, tc, ta, tb⟩, rfl, hE, hz⟩ := ha
    simp only [Tm.deep] at hz
    obtain ⟨dx, ht⟩ := T0.ins
    obtain ⟨fs, u, hF, eu, T1⟩ := T0.popF
    cases eu
    have k1 := T0.kp (H' := upd H Fl (.lst fs.reverse)) (.putF _)
    obtain ⟨dx1, ht1⟩ := T1.ins
    refine ⟨_, rfl, tl, CT, dx, _, _, rfl, ht, TC_Telling.cl, TC_Telling.nF, tlF_found _ _ _, .inl ⟨rfl, _, SqL.of hF⟩, Fl, _, _, rfl, rfl, hF, rev_last, ?_⟩
    rw [rev_dropLast]
    refine ⟨rfl, _, rfl, iteF' (by simp) ?_⟩
    refine ⟨_, rfl, tl, dx1, _, rfl, ht1, no_tell _ _ _, _, rfl, p, _, _, _, rfl, rfl, SqT.of (k1.tups _ _ hp), atI_n (n := 3) rfl rfl, _, rfl, tl, S, Fl, b, Ev, _, _, _, _, _, rfl, ⟨e, c, tb.mono k1.tups, rfl, hE.mono k1, by omega⟩, gd _ (.head _), T1, by omega, fun H2 g2 T2 => q _ (Frm.trans (.putF _) g2) T2⟩
theorem ok_tell_let (F : Fun K "tell_let" "tell_let" s_tell_let f fd) (T : Txt mg) (TC_Telling : TcT K CT) (TL : Tl K w mg FA DT DM) (C_later : CalM P w K mg base CT "later" ["self", "step", "about", "names"] 1 (spLater CT CP FA) f1 fd1)
    (C_tell : CalM P w K mg base CT "tell" ["self", "term", "names"] 2 (spTell CT CP FA) f2 fd2) : FnOk P w K mg base CX0 3 f fd ["telling", "term", "names"] (spStp CT CP CG FA (.t .let)) := by
  refine F.ok sc_tell_let (fun vs H Q E h => ?_) (fun cdv A outer s H vs Q E hr h => ?_)
  · obtain ⟨tl, S, Fl, s, K, F, n, a, b, rfl, _⟩ := h
    rfl
  obtain ⟨tl, S, Fl, s, Ks, Fs, n, a, b, rfl, hc, ha, T0, hf, hq⟩ := h
  obtain ⟨t, Ev, rfl, hw⟩ := code_t hc
  obtain ⟨x, a, b, rfl⟩ := w_let hw
  rcases hq with ⟨c', st, gd, q⟩ | ⟨hb, _⟩
  rotate_left
  · cases hb
  cases st
  obtain ⟨e, c, ta, rfl, hE, hz⟩ := id ha
  obtain ⟨p, v1, v2, rfl, hp, tc, _⟩ := id ta
  refine ⟨_, (pss_cons (ps_expr (pe_meth (pv 0) TC_Telling.cl C_later.m C_later.ok (hr.mono (by first | decide | omega)) C_later.b .nil pass0 (pa_cons (pe_glob (v := V.ref _) rfl TL.goB rfl) (pa_cons (pv 1) (pa_cons (pv 2) pa_nil)))))
      (pss_one (ps_expr (pe_meth (pv 0) TC_Telling.cl C_tell.m C_tell.ok (hr.mono (by first | decide | omega)) C_tell.b .nil pass0 (pa_cons (pe_ix ix_tup (pv 1) pe_int (fun _ _ => rfl)) (pa_cons (pv 2) pa_nil)))))), ?_⟩
  obtain ⟨dx, ht⟩ := T0.ins
  have hk : Ks.length + 1 ≤ 100000 := hf.k
  refine ⟨_, rfl, tl, dx, _, rfl, ht, no_later _ _ _, _, rfl, _, rfl, tl, S, Fl, .goB x a b Ev, Ks, Fs, n, _, _, rfl, ⟨e, c, ta, rfl, hE, hz⟩, T0, by omega, fun H1 g1 T1 => ?_⟩
  have k1 := T0.kp g1
  obtain ⟨dx1, ht1⟩ := T1.ins
  simp only [Tm.deep] at hz
  refine ⟨_, rfl, tl, dx1, _, rfl, ht1, no_tell _ _ _, _, rfl, p, _, _, _, rfl, rfl, SqT.of (k1.tups _ _ hp), atI_n (n := 2) rfl rfl, _, rfl, tl, S, Fl, a, Ev, _, _, _, _, _, rfl, ⟨e, c, tc.mono k1.tups, rfl, hE.mono k1, by omega⟩, gd _ (.head _), T1, by show Ks.length + 1 ≤ _; omega, fun H2 g2 T2 => q _ (g1.trans g2) T2⟩
theorem ok_goB (F : Fun K "go_on_with_b" "go_on_with_b" s_go_on_with_b f fd) (T : Txt mg) (TC_Telling : TcT K CT)
    (C_tell : CalM P w K mg base CT "tell" ["self", "term", "names"] 2 (spTell CT CP FA) f2 fd2) : FnOk P w K mg base CX0 3 f fd ["telling", "term", "names"] (spStp CT CP CG FA .goB) := by
  refine F.ok sc_go_on_with_b (fun vs H Q E h => ?_) (fun cdv A outer s H vs Q E hr h => ?_)
  · obtain ⟨tl, S, Fl, s, K, F, n, a, b, rfl, _⟩ := h
    rfl
  obtain ⟨tl, S, Fl, s, Ks, Fs, n, a, b, rfl, hc, ha, T0, hf, hq⟩ := h
  rcases hq with ⟨c', st, gd, q⟩ | ⟨hb, _⟩
  rotate_left
  · cases hb; cases hc
  have hk : Ks.length + 1 ≤ 100000 := hf.k
  refine ⟨_, (pss_one (ps_expr (pe_meth (pv 0) TC_Telling.cl C_tell.m C_tell.ok (hr.mono (by first | decide | omega)) C_tell.b .nil pass0 (pa_cons (pe_ix ix_tup (pv 1) pe_int (fun _ _ => rfl)) (pa_cons (pe_star (pv 2) (pe_ix ix_tup (pv 1) pe_int (fun _ _ => rfl)) (pe_bm0 PySem.F.plainAttrs_list PySem.F.slot_list_pop PySem.F.type_list_pop mt_pop (pe_fld (pv 0) rfl))) pa_nil))))), ?_⟩
  cases st <;> try cases hc
  rename_i x a b Ev v Fs hv
  obtain ⟨e, c, ⟨p, v1, v2, rfl, hp, ta, tb⟩, rfl, hE, hz⟩ := ha
  simp only [Tm.deep] at hz
  obtain ⟨dx, ht⟩ := T0.ins
  obtain ⟨fs, u, hF, eu, T1⟩ := T0.popF
  obtain ⟨kvs, he, hl, hy⟩ := id hE
  refine ⟨_, rfl, tl, dx, _, rfl, ht, no_tell _ _ _, _, rfl, p, _, _, _, rfl, rfl, SqT.of hp, atI_n (n := 3) rfl rfl, fun pn np => ?_⟩
  refine ⟨_, rfl, e, kvs, rfl, (ne_of_none he np).symm, (by rw [upd_ne (ne_of_none he np)]; exact he), upd_same, szK (by omega), fun qn nq => ?_⟩
  have old : ∀ b o, H b = some o → upd (upd (upd H pn (.dK [])) pn (.dK kvs)) qn (.dK []) b = some o := fun b o h => by
    have nq' := nq
    have pq : qn ≠ pn := fun z => by rw [z, upd_same] at nq'; cases nq'
    rw [upd_ne pq, upd_ne pq] at nq'
    rw [upd_ne (ne_of_none h nq'), upd_ne (ne_of_none h np), upd_ne (ne_of_none h np)]
    exact h
  obtain ⟨g3, T3, E3⟩ := star_pop (x := x) (o1 := .dK []) (o2 := .dK []) (o3 := .dK [(Sum.inr x, u)]) T0 he hE hF eu T1 np nq
  have pF : pn ≠ Fl := (ne_of_none hF np).symm
  have qF : qn ≠ Fl := fun z => by have := old _ _ hF; rw [← z, upd_same] at this; cases this
  have qp : qn ≠ pn := fun z => by rw [z, upd_same] at nq; cases nq
  refine ⟨_, rfl, p, _, _, _, rfl, rfl, SqT.of (old _ _ hp), atI_n (n := 1) rfl rfl, ?_⟩
  refine ⟨_, rfl, tl, CT, dx, _, _, rfl, old _ _ ht, TC_Telling.cl, TC_Telling.nF, tlF_found _ _ _, .inl ⟨rfl, _, SqL.of (old _ _ hF)⟩, Fl, _, _, rfl, rfl, old _ _ hF, rev_last, ?_⟩
  rw [rev_dropLast]
  refine ⟨by rw [upd_ne pF, upd_ne qp.symm, upd_same], by rw [upd_ne qF, upd_same], Sum.inr x, rfl, ?_⟩
  have k3 := T0.kp g3
  exact ⟨tl, S, Fl, b, Ev.set x v, _, _, _, _, _, rfl, ⟨pn, c + 1, tb.mono k3.tups, rfl, E3, by omega⟩, gd _ (.head _), T3, by omega, fun H2 g2 T2 => q _ (g3.trans g2) T2⟩
theorem ok_tell_turns (F : Fun K "tell_turns" "tell_turns" s_tell_turns f fd) (T : Txt mg) (TC_Telling : TcT K CT) (TL : Tl K w mg FA DT DM) (C_later : CalM P w K mg base CT "later" ["self", "step", "about", "names"] 1 (spLater CT CP FA) f1 fd1)
    (C_tell : CalM P w K mg base CT "tell" ["self", "term", "names"] 2 (spTell CT CP FA) f2 fd2) : FnOk P w K mg base CX0 3 f fd ["telling", "term", "names"] (spStp CT CP CG FA (.t .turns)) := by
  refine F.ok sc_tell_turns (fun vs H Q E h => ?_) (fun cdv A outer s H vs Q E hr h => ?_)
  · obtain ⟨tl, S, Fl, s, K, F, n, a, b, rfl, _⟩ := h
    rfl
  obtain ⟨tl, S, Fl, s, Ks, Fs, n, a, b, rfl, hc, ha, T0, hf, hq⟩ := h
  obtain ⟨t, Ev, rfl, hw⟩ := code_t hc
  obtain ⟨m, x, a, b, rfl⟩ := w_turns hw
  rcases hq with ⟨c', st, gd, q⟩ | ⟨hb, _⟩
  rotate_left
  · cases hb
  cases st
  obtain ⟨e, c, ta, rfl, hE, hz⟩ := id ha
  obtain ⟨p, v1, v2, rfl, hp, tc, _⟩ := id ta
  refine ⟨_, (pss_cons (ps_expr (pe_meth (pv 0) TC_Telling.cl C_later.m C_later.ok (hr.mono (by first | decide | omega)) C_later.b .nil pass0 (pa_cons (pe_glob (v := V.ref _) rfl TL.turn rfl) (pa_cons (pe_tup (pa_cons (pv 1) (pa_cons (pe_ix ix_tup (pv 1) pe_int (fun _ _ => rfl)) pa_nil))) (pa_cons (pv 2) pa_nil)))))
      (pss_one (ps_expr (pe_meth (pv 0) TC_Telling.cl C_tell.m C_tell.ok (hr.mono (by first | decide | omega)) C_tell.b .nil pass0 (pa_cons (pe_ix ix_tup (pv 1) pe_int (fun _ _ => rfl)) (pa_cons (pv 2) pa_nil)))))), ?_⟩
  obtain ⟨dx, ht⟩ := T0.ins
  have hk : Ks.length + 1 ≤ 100000 := hf.k
  refine ⟨_, rfl, tl, dx, _, rfl, ht, no_later _ _ _, _, rfl, _, rfl, p, _, _, _, rfl, rfl, SqT.of hp, atI_n (n := 1) rfl rfl, sz 2, fun r hr' => ?_⟩
  have s1 := same_new hr' (.tup [.ref p, .int m])
  have k0 : Kp CP H (upd H r (.tup [.ref p, .int m])) := .of_same s1
  refine ⟨_, rfl, tl, S, Fl, .turn m x a b m Ev, Ks, Fs, n, _, _, rfl, ⟨r, _, e, c, rfl, upd_same, ta.mono k0.tups, rfl, hE.mono k0, hz⟩, T0.same s1, by omega, fun H1 g1 T1 => ?_⟩
  have k1 := k0.trans ((T0.same s1).kp g1)
  obtain ⟨dx1, ht1⟩ := T1.ins
  simp only [Tm.deep] at hz
  refine ⟨_, rfl, tl, dx1, _, rfl, ht1, no_tell _ _ _, _, rfl, p, _, _, _, rfl, rfl, SqT.of (k1.tups _ _ hp), atI_n (n := 3) rfl rfl, _, rfl, tl, S, Fl, a, Ev, _, _, _, _, _, rfl, ⟨e, c, tc.mono k1.tups, rfl, hE.mono k1, by omega⟩, gd _ (.head _), T1, by show Ks.length + 1 ≤ _; omega, fun H2 g2 T2 => q _ ((Frm.of_same s1).trans (g1.trans g2)) T2⟩
theorem ok_turn (F : Fun K "turn" "turn" s_turn f fd) (T : Txt mg) (TC_Telling : TcT K CT) (TL : Tl K w mg FA DT DM) (C_later : CalM P w K mg base CT "later" ["self", "step", "about", "names"] 1 (spLater CT CP FA) f1 fd1)
    (C_tell : CalM P w K mg base CT "tell" ["self", "term", "names"] 2 (spTell CT CP FA) f2 fd2) : FnOk P w K mg base CX0 3 f fd ["telling", "about", "names"] (spStp CT CP CG FA .turn) := by
  refine F.ok sc_turn (fun vs H Q E h => ?_) (fun cdv A outer s H vs Q E hr h => ?_)
  · obtain ⟨tl, S, Fl, s, K, F, n, a, b, rfl, _⟩ := h
    rfl
  obtain ⟨tl, S, Fl, s, Ks, Fs, n, a, b, rfl, hc, ha, T0, hf, hq⟩ := h
  rcases hq with ⟨c', st, gd, q⟩ | ⟨hb, _⟩
  rotate_left
  · cases hb; cases hc
  have hk : Ks.length + 1 ≤ 100000 := hf.k
  refine ⟨_, (pss_cons (ps_asg (pv 1) (pg_tup rfl (pgs_cons (pg_name (i := 3) sc_turn.nd rfl (Or.inl rfl)) (pgs_cons (pg_name (i := 4) sc_turn.nd rfl (Or.inl rfl)) pgs_nil))))
      (pss_one (ps_if (pt_cmpR op_gt (pv 4) pe_int (nomark _)) (pss_cons (ps_expr (pe_meth (pv 0) TC_Telling.cl C_later.m C_later.ok (hr.mono (by first | decide | omega)) C_later.b .nil pass0 (pa_cons (pe_glob (v := V.ref _) rfl TL.turn rfl) (pa_cons (pe_tup (pa_cons (pv 3) (pa_cons (pe_op op_sub (pv 4) pe_int) pa_nil))) (pa_cons (pv 2) pa_nil)))))
      (pss_one (ps_expr (pe_meth (pv 0) TC_Telling.cl C_tell.m C_tell.ok (hr.mono (by first | decide | omega)) C_tell.b .nil pass0 (pa_cons (pe_ix ix_tup (pv 3) pe_int (fun _ _ => rfl)) (pa_cons (pe_star (pv 2) (pe_ix ix_tup (pv 3) pe_int (fun _ _ => rfl)) (pe_bm0 PySem.F.plainAttrs_list PySem.F.slot_list_pop PySem.F.type_list_pop mt_pop (pe_fld (pv 0) rfl))) pa_nil)))))) pss_nil))), ?_⟩
  cases st <;> try cases hc
  · rename_i m x a b j Ev hj
    obtain ⟨r, tv, e, c, rfl, hr', ta, rfl, hE, hz⟩ := ha
    refine ⟨_, rfl, r, _, rfl, SqT.of hr', rfl, _, _, rfl, _, _, rfl, rfl, ?_⟩
    refine ⟨_, rfl, _, _, rfl, rfl, _, rfl, iteF' (by simpa using hj) ?_⟩
    exact q _ .refl T0
  · rename_i m x a b j Ev v Fs hj hv
    obtain ⟨r, tv, e, c, rfl, hr', ta, rfl, hE, hz⟩ := ha
    obtain ⟨p, v1, v2, rfl, hp, _, tb⟩ := id ta
    refine ⟨_, rfl, r, _, rfl, SqT.of hr', rfl, _, _, rfl, _, _, rfl, rfl, ?_⟩
    refine ⟨_, rfl, _, _, rfl, rfl, _, rfl, iteT' (by simpa using hj) ?_⟩
    obtain ⟨dx, ht⟩ := T0.ins
    refine ⟨_, rfl, tl, dx, _, rfl, ht, no_later _ _ _, _, rfl, _, rfl, _, _, rfl, rfl, sz 2, fun r1 hr1 => ?_⟩
    have s1 := same_new hr1 (.tup [.ref p, .int (j - 1)])
    have k0 : Kp CP H (upd H r1 (.tup [.ref p, .int (j - 1)])) := .of_same s1
    refine ⟨_, rfl, tl, S, Fl, .turn m x a b (j - 1) Ev, Ks, v :: Fs, n, _, _, rfl, ⟨r1, _, e, c, rfl, upd_same, ta.mono k0.tups, rfl, hE.mono k0, hz⟩, T0.same s1, by omega, fun H1 g1 T1 => ?_⟩
    have k1 := k0.trans ((T0.same s1).kp g1)
    obtain ⟨dx1, ht1⟩ := T1.ins
    simp only [Tm.deep] at hz
    have hE1 := hE.mono k1
    have hp1 := k1.tups _ _ hp
    obtain ⟨fs, u, hF, eu, T2⟩ := T1.popF
    obtain ⟨kvs, he, hl, hy⟩ := id hE1
    refine ⟨_, rfl, tl, dx1, _, rfl, ht1, no_tell _ _ _, _, rfl, p, _, _, _, rfl, rfl, SqT.of hp1, atI_n (n := 4) rfl rfl, fun pn np => ?_⟩
    refine ⟨_, rfl, e, kvs, rfl, (ne_of_none he np).symm, (by rw [upd_ne (ne_of_none he np)]; exact he), upd_same, szK (by omega), fun qn nq => ?_⟩
    have old : ∀ b o, H1 b = some o → upd (upd (upd H1 pn (.dK [])) pn (.dK kvs)) qn (.dK []) b = some o := fun b o h => by
      have nq' := nq
      have pq : qn ≠ pn := fun z => by rw [z, upd_same] at nq'; cases nq'
      rw [upd_ne pq, upd_ne pq] at nq'
      rw [upd_ne (ne_of_none h nq'), upd_ne (ne_of_none h np), upd_ne (ne_of_none h np)]
      exact h
    obtain ⟨g3, T3, E3⟩ := star_pop (x := x) (o1 := .dK []) (o2 := .dK []) (o3 := .dK [(Sum.inr x, u)]) T1 he hE1 hF eu T2 np nq
    have pF : pn ≠ Fl := (ne_of_none hF np).symm
    have qF : qn ≠ Fl := fun z => by have := old _ _ hF; rw [← z, upd_same] at this; cases this
    have qp : qn ≠ pn := fun z => by rw [z, upd_same] at nq; cases nq
    refine ⟨_, rfl, p, _, _, _, rfl, rfl, SqT.of (old _ _ hp1), atI_n (n := 2) rfl rfl, ?_⟩
    refine ⟨_, rfl, tl, CT, dx1, _, _, rfl, old _ _ ht1, TC_Telling.cl, TC_Telling.nF, tlF_found _ _ _, .inl ⟨rfl, _, SqL.of (old _ _ hF)⟩, Fl, _, _, rfl, rfl, old _ _ hF, rev_last, ?_⟩
    rw [rev_dropLast]
    refine ⟨by rw [upd_ne pF, upd_ne qp.symm, upd_same], by rw [upd_ne qF, upd_same], Sum.inr x, rfl, ?_⟩
    have k3 := k1.trans (T1.kp g3)
    exact ⟨tl, S, Fl, b, Ev.set x v, _, _, _, _, _, rfl, ⟨pn, c + 1, tb.mono k3.tups, rfl, E3, by omega⟩, gd _ (.head _), T3, by show Ks.length + 1 ≤ _; omega, fun H2 g2 T2 => q _ ((Frm.of_same s1).trans (g1.trans (g3.trans g2))) T2⟩
theorem ok_tell_def (F : Fun K "tell_def" "tell_def" s_tell_def f fd) (T : Txt mg) (TC_Telling : TcT K CT)
    (C_tell : CalM P w K mg base CT "tell" ["self", "term", "names"] 2 (spTell CT CP FA) f2 fd2) : FnOk P w K mg base CX0 3 f fd ["telling", "term", "names"] (spStp CT CP CG FA (.t .def)) := by
  refine F.ok sc_tell_def (fun vs H Q E h => ?_) (fun cdv A outer s H vs Q E hr h => ?_)
  · obtain ⟨tl, S, Fl, s, K, F, n, a, b, rfl, _⟩ := h
    rfl
  obtain ⟨tl, S, Fl, s, Ks, Fs, n, a, b, rfl, hc, ha, T0, hf, hq⟩ := h
  obtain ⟨t, Ev, rfl, hw⟩ := code_t hc
  obtain ⟨g, x, k, a, b, rfl⟩ := w_def hw
  rcases hq with ⟨c', st, gd, q⟩ | ⟨hb, _⟩
  rotate_left
  · cases hb
  cases st
  obtain ⟨e, c, ta, rfl, hE, hz⟩ := id ha
  obtain ⟨p, v1, v2, rfl, hp, tc, tb⟩ := id ta
  refine ⟨_, (pss_one (ps_expr (pe_meth (pv 0) TC_Telling.cl C_tell.m C_tell.ok (hr.mono (by first | decide | omega)) C_tell.b .nil pass0 (pa_cons (pe_ix ix_tup (pv 1) pe_int (fun _ _ => rfl)) (pa_cons (pe_star (pv 2) (pe_ix ix_tup (pv 1) pe_int (fun _ _ => rfl)) (pe_tup (pa_cons (pv 1) (pa_cons (pv 2) pa_nil)))) pa_nil))))), ?_⟩
  obtain ⟨dx, ht⟩ := T0.ins
  have hk : Ks.length + 1 ≤ 100000 := hf.k
  obtain ⟨kvs, he, hl, hy⟩ := id hE
  refine ⟨_, rfl, tl, dx, _, rfl, ht, no_tell _ _ _, _, rfl, p, _, _, _, rfl, rfl, SqT.of hp, atI_n (n := 5) rfl rfl, fun pn np => ?_⟩
  refine ⟨_, rfl, e, kvs, rfl, (ne_of_none he np).symm, (by rw [upd_ne (ne_of_none he np)]; exact he), upd_same, szK (by simp only [Tm.deep] at hz; omega), fun qn nq => ?_⟩
  have pq : qn ≠ pn := fun z => by rw [z, upd_same] at nq; cases nq
  have nq0 : H qn = none := by
    rw [upd_ne pq, upd_ne pq] at nq
    exact nq
  have old : Same H (upd (upd (upd H pn (.dK [])) pn (.dK kvs)) qn (.dK [])) := fun b o h => by
    rw [upd_ne (ne_of_none h nq0), upd_ne (ne_of_none h np), upd_ne (ne_of_none h np)]
    exact h
  refine ⟨_, rfl, p, _, _, _, rfl, rfl, SqT.of (old _ _ hp), atI_n (n := 1) rfl rfl, _, rfl, _, rfl, sz 2, fun r hr' => ?_⟩
  have rp : r ≠ pn := fun z => by rw [z, upd_ne pq.symm, upd_same] at hr'; cases hr'
  have rq : r ≠ qn := fun z => by rw [z, upd_same] at hr'; cases hr'
  refine ⟨by rw [upd_ne rp.symm, upd_ne pq.symm, upd_same], by rw [upd_ne rq.symm, upd_same], Sum.inr g, rfl, ?_⟩
  have s3 : Same H (upd (upd (upd (upd (upd (upd H pn (.dK [])) pn (.dK kvs)) qn (.dK [])) r (.tup [.ref p, .ref e])) qn (.dK [(Sum.inr g, .ref r)])) pn (.dK (putK kvs (Sum.inr g) (.ref r)))) := fun b o h => by
    have br : b ≠ r := fun z => by have := old b o h; rw [z, hr'] at this; cases this
    rw [upd_ne (ne_of_none h np), upd_ne (ne_of_none h nq0), upd_ne br]
    exact old b o h
  have k3 : Kp CP H _ := .of_same s3
  have hfn : EVAt CP (upd (upd (upd (upd (upd (upd H pn (.dK [])) pn (.dK kvs)) qn (.dK [])) r (.tup [.ref p, .ref e])) qn (.dK [(Sum.inr g, .ref r)])) pn (.dK (putK kvs (Sum.inr g) (.ref r)))) (.fn g x k a b Ev) (.ref r) :=
    EnvAt.fn (by rw [upd_ne rp, upd_ne rq, upd_same]) (ta.mono k3.tups) (hE.mono k3) hz
  have E3 := hE.set (x := g) (v := .fn g x k a b Ev) (p := pn) k3 he upd_same hfn
  simp only [Tm.deep] at hz
  exact ⟨tl, S, Fl, b, _, _, _, _, _, _, rfl, ⟨pn, c + 1, tb.mono k3.tups, rfl, E3, by omega⟩, gd _ (.head _), T0.same s3, by omega, fun H2 g2 T2 => q _ ((Frm.of_same s3).trans g2) T2⟩
theorem ok_tell_use (F : Fun K "tell_use" "tell_use" s_tell_use f fd) (T : Txt mg) (TC_Telling : TcT K CT) (TL : Tl K w mg FA DT DM) (C_later : CalM P w K mg base CT "later" ["self", "step", "about", "names"] 1 (spLater CT CP FA) f1 fd1)
    (C_tell : CalM P w K mg base CT "tell" ["self", "term", "names"] 2 (spTell CT CP FA) f2 fd2) : FnOk P w K mg base CX0 3 f fd ["telling", "term", "names"] (spStp CT CP CG FA (.t .use)) := by
  refine F.ok sc_tell_use (fun vs H Q E h => ?_) (fun cdv A outer s H vs Q E hr h => ?_)
  · obtain ⟨tl, S, Fl, s, K, F, n, a, b, rfl, _⟩ := h
    rfl
  obtain ⟨tl, S, Fl, s, Ks, Fs, n, a, b, rfl, hc, ha, T0, hf, hq⟩ := h
  obtain ⟨t, Ev, rfl, hw⟩ := code_t hc
  obtain ⟨g, a, rfl⟩ := w_use hw
  rcases hq with ⟨c', st, gd, q⟩ | ⟨hb, _⟩
  rotate_left
  · cases hb
  cases st with
  | use hg =>
  rename_i g' x k a' b' E'
  obtain ⟨e, c, ⟨p, v1, rfl, hp, ta⟩, rfl, hE, hz⟩ := ha
  simp only [Tm.deep] at hz
  refine ⟨_, (pss_cons (ps_asg (pe_dget (hu_of hr) (pv 2) (pe_ix ix_tup (pv 1) pe_int (fun _ _ => rfl)) (fun _ _ => rfl)) (pg_tup rfl (pgs_cons (pg_name (i := 3) sc_tell_use.nd rfl (Or.inl rfl)) (pgs_cons (pg_name (i := 4) sc_tell_use.nd rfl (Or.inl rfl)) pgs_nil))))
      (pss_cons (ps_expr (pe_meth (pv 0) TC_Telling.cl C_later.m C_later.ok (hr.mono (by first | decide | omega)) C_later.b .nil pass0 (pa_cons (pe_glob (v := V.ref _) rfl TL.goF rfl) (pa_cons (pv 3) (pa_cons (pv 4) pa_nil)))))
      (pss_one (ps_expr (pe_meth (pv 0) TC_Telling.cl C_tell.m C_tell.ok (hr.mono (by first | decide | omega)) C_tell.b .nil pass0 (pa_cons (pe_ix ix_tup (pv 1) pe_int (fun _ _ => rfl)) (pa_cons (pv 2) pa_nil))))))), ?_⟩
  obtain ⟨dx, ht⟩ := T0.ins
  have hk : Ks.length + 1 ≤ 100000 := hf.k
  obtain ⟨kvs, he, hl, hy⟩ := id hE
  obtain ⟨v, hv, ev⟩ := hy g (by rw [hg]; exact fun z => nomatch z)
  rw [hg] at ev
  obtain ⟨r, dv, e', c', rfl, hr', tdf, hE', hz'⟩ := ev.unfn
  refine ⟨_, rfl, _, rfl, p, _, _, _, rfl, rfl, SqT.of hp, atI_n (n := 1) rfl rfl, e, .ref r, rfl, hv ▸ DGet.k (k := Sum.inr g) he, r, _, rfl, SqT.of hr', rfl, _, _, rfl, _, _, rfl, rfl, ?_⟩
  refine ⟨_, rfl, tl, dx, _, rfl, ht, no_later _ _ _, _, rfl, _, rfl, tl, S, Fl, .goF g' x k a' b' E', Ks, Fs, n, _, _, rfl, ⟨e', c', tdf, rfl, hE', hz'⟩, T0, by omega, fun H1 g1 T1 => ?_⟩
  have k1 := T0.kp g1
  obtain ⟨dx1, ht1⟩ := T1.ins
  refine ⟨_, rfl, tl, dx1, _, rfl, ht1, no_tell _ _ _, _, rfl, p, _, _, _, rfl, rfl, SqT.of (k1.tups _ _ hp), atI_n (n := 2) rfl rfl, _, rfl, tl, S, Fl, a, Ev, _, _, _, _, _, rfl, ⟨e, c, ta.mono k1.tups, rfl, hE.mono k1, by omega⟩, gd _ (.head _), T1, by show Ks.length + 1 ≤ _; omega, fun H2 g2 T2 => q _ (g1.trans g2) T2⟩
theorem ok_goF (F : Fun K "go_on_with_function" "go_on_with_function" s_go_on_with_function f fd) (T : Txt mg) (TC_Telling : TcT K CT)
    (C_tell : CalM P w K mg base CT "tell" ["self", "term", "names"] 2 (spTell CT CP FA) f2 fd2) : FnOk P w K mg base CX0 3 f fd ["telling", "definition", "names"] (spStp CT CP CG FA .goF) := by
  refine F.ok sc_go_on_with_function (fun vs H Q E h => ?_) (fun cdv A outer s H vs Q E hr h => ?_)
  · obtain ⟨tl, S, Fl, s, K, F, n, a, b, rfl, _⟩ := h
    rfl
  obtain ⟨tl, S, Fl, s, Ks, Fs, n, a, b, rfl, hc, ha, T0, hf, hq⟩ := h
  rcases hq with ⟨c', st, gd, q⟩ | ⟨hb, _⟩
  rotate_left
  · cases hb; cases hc
  have hk : Ks.length + 1 ≤ 100000 := hf.k
  refine ⟨_, (pss_one (ps_expr (pe_meth (pv 0) TC_Telling.cl C_tell.m C_tell.ok (hr.mono (by first | decide | omega)) C_tell.b .nil pass0 (pa_cons (pe_ix ix_tup (pv 1) pe_int (fun _ _ => rfl)) (pa_cons (pe_star (pv 2) (pe_ix ix_tup (pv 1) pe_int (fun _ _ => rfl)) (pe_bm0 PySem.F.plainAttrs_list PySem.F.slot_list_pop PySem.F.type_list_pop mt_pop (pe_fld (pv 0) rfl))) pa_nil))))), ?_⟩
  cases st <;> try cases hc
  rename_i g x k a b Ev v Fs hv
  obtain ⟨e, c, ⟨p, v1, v2, rfl, hp, ta, tb⟩, rfl, hE, hz⟩ := ha
  simp only [Tm.deep] at hz
  obtain ⟨dx, ht⟩ := T0.ins
  obtain ⟨fs, u, hF, eu, T1⟩ := T0.popF
  obtain ⟨kvs, he, hl, hy⟩ := id hE
  refine ⟨_, rfl, tl, dx, _, rfl, ht, no_tell _ _ _, _, rfl, p, _, _, _, rfl, rfl, SqT.of hp, atI_n (n := 4) rfl rfl, fun pn np => ?_⟩
  refine ⟨_, rfl, e, kvs, rfl, (ne_of_none he np).symm, (by rw [upd_ne (ne_of_none he np)]; exact he), upd_same, szK (by omega), fun qn nq => ?_⟩
  have old : ∀ b o, H b = some o → upd (upd (upd H pn (.dK [])) pn (.dK kvs)) qn (.dK []) b = some o := fun b o h => by
    have nq' := nq
    have pq : qn ≠ pn := fun z => by rw [z, upd_same] at nq'; cases nq'
    rw [upd_ne pq, upd_ne pq] at nq'
    rw [upd_ne (ne_of_none h nq'), upd_ne (ne_of_none h np), upd_ne (ne_of_none h np)]
    exact h
  obtain ⟨g3, T3, E3⟩ := star_pop (x := x) (o1 := .dK []) (o2 := .dK []) (o3 := .dK [(Sum.inr x, u)]) T0 he hE hF eu T1 np nq
  have pF : pn ≠ Fl := (ne_of_none hF np).symm
  have qF : qn ≠ Fl := fun z => by have := old _ _ hF; rw [← z, upd_same] at this; cases this
  have qp : qn ≠ pn := fun z => by rw [z, upd_same] at nq; cases nq
  refine ⟨_, rfl, p, _, _, _, rfl, rfl, SqT.of (old _ _ hp), atI_n (n := 2) rfl rfl, ?_⟩
  refine ⟨_, rfl, tl, CT, dx, _, _, rfl, old _ _ ht, TC_Telling.cl, TC_Telling.nF, tlF_found _ _ _, .inl ⟨rfl, _, SqL.of (old _ _ hF)⟩, Fl, _, _, rfl, rfl, old _ _ hF, rev_last, ?_⟩
  rw [rev_dropLast]
  refine ⟨by rw [upd_ne pF, upd_ne qp.symm, upd_same], by rw [upd_ne qF, upd_same], Sum.inr x, rfl, ?_⟩
  have k3 := T0.kp g3
  exact ⟨tl, S, Fl, a, Ev.set x v, _, _, _, _, _, rfl, ⟨pn, c + 1, ta.mono k3.tups, rfl, E3, by omega⟩, gd _ (.head _), T3, by omega, fun H2 g2 T2 => q _ (g3.trans g2) T2⟩
end

/-! ### pieces: made, measured, put together -/
structure XcT (K : PySem.W.Frag) (mg : Str → Option Value) (x : Str) (C : Addr) : Prop where
  ex : PySem.W.excIn K C [.type "ValueError", .type "Exception", .type "BaseException", .type "object"] "ValueError.__new__" = true
  g : mg x = some (.ref C)
  k : PySem.W.keepIn K (.ref C) = true
  b : PySem.W.subIn K (.ref C) (.type "BaseException") = some true
  t : PySem.W.typeIn K (.ref C) = some (.type "type")
abbrev s_tell_quote : Stmt := topS 59
theorem sc_tell_quote : FnScope ["telling", "term", "names"] ["telling", "term", "names"] (defScope s_tell_quote) := ⟨rfl, rfl, rfl, by decide +kernel, rfl, by decide +kernel, by decide +kernel⟩
abbrev s_refuse_too_great : Stmt := topS 60
theorem sc_refuse_too_great : FnScope ["telling", "term", "names", "piece"] ["telling", "term", "names"] (defScope s_refuse_too_great) := ⟨rfl, rfl, rfl, by decide +kernel, rfl, by decide +kernel, by decide +kernel⟩
abbrev s_tell_lift : Stmt := topS 61
theorem sc_tell_lift : FnScope ["telling", "term", "names"] ["telling", "term", "names"] (defScope s_tell_lift) := ⟨rfl, rfl, rfl, by decide +kernel, rfl, by decide +kernel, by decide +kernel⟩
abbrev s_make_num : Stmt := topS 62
theorem sc_make_num : FnScope ["telling", "term", "names"] ["telling", "term", "names"] (defScope s_make_num) := ⟨rfl, rfl, rfl, by decide +kernel, rfl, by decide +kernel, by decide +kernel⟩
abbrev s_tell_run : Stmt := topS 63
theorem sc_tell_run : FnScope ["telling", "term", "names"] ["telling", "term", "names"] (defScope s_tell_run) := ⟨rfl, rfl, rfl, by decide +kernel, rfl, by decide +kernel, by decide +kernel⟩
abbrev s_go_on_with_piece : Stmt := topS 64
theorem sc_go_on_with_piece : FnScope ["telling", "term", "names"] ["telling", "term", "names"] (defScope s_go_on_with_piece) := ⟨rfl, rfl, rfl, by decide +kernel, rfl, by decide +kernel, by decide +kernel⟩
abbrev s_make_same : Stmt := topS 65
theorem sc_make_same : FnScope ["telling", "term", "names"] ["telling", "term", "names"] (defScope s_make_same) := ⟨rfl, rfl, rfl, by decide +kernel, rfl, by decide +kernel, by decide +kernel⟩
abbrev s_make_name : Stmt := topS 66
theorem sc_make_name : FnScope ["telling", "term", "names"] ["telling", "term", "names"] (defScope s_make_name) := ⟨rfl, rfl, rfl, by decide +kernel, rfl, by decide +kernel, by decide +kernel⟩
abbrev s_make_plain : Stmt := topS 67
theorem sc_make_plain : FnScope ["telling", "term", "names", "part"] ["telling", "term", "names"] (defScope s_make_plain) := ⟨rfl, rfl, rfl, by decide +kernel, rfl, by decide +kernel, by decide +kernel⟩
abbrev s_make_let : Stmt := topS 68
theorem sc_make_let : FnScope ["telling", "term", "names", "new"] ["telling", "term", "names"] (defScope s_make_let) := ⟨rfl, rfl, rfl, by decide +kernel, rfl, by decide +kernel, by decide +kernel⟩
abbrev s_make_turns : Stmt := topS 69
theorem sc_make_turns : FnScope ["telling", "term", "names", "new"] ["telling", "term", "names"] (defScope s_make_turns) := ⟨rfl, rfl, rfl, by decide +kernel, rfl, by decide +kernel, by decide +kernel⟩
abbrev s_make_def : Stmt := topS 70
theorem sc_make_def : FnScope ["telling", "term", "names", "function", "value", "parts"] ["telling", "term", "names"] (defScope s_make_def) := ⟨rfl, rfl, rfl, by decide +kernel, rfl, by decide +kernel, by decide +kernel⟩
abbrev s_make_use : Stmt := topS 71
theorem sc_make_use : FnScope ["telling", "term", "names"] ["telling", "term", "names"] (defScope s_make_use) := ⟨rfl, rfl, rfl, by decide +kernel, rfl, by decide +kernel, by decide +kernel⟩
abbrev s_fill_hole : Stmt := topS 72
theorem sc_fill_hole : FnScope ["telling", "term", "names"] ["telling", "term", "names"] (defScope s_fill_hole) := ⟨rfl, rfl, rfl, by decide +kernel, rfl, by decide +kernel, by decide +kernel⟩
abbrev s_put_together : Stmt := topS 73
theorem sc_put_together : FnScope ["telling", "head", "many", "start", "parts", "size", "depth", "terms", "part"] ["telling", "head", "many"] (defScope s_put_together) := ⟨rfl, rfl, rfl, by decide +kernel, rfl, by decide +kernel, by decide +kernel⟩
theorem atI_last {u : V} {fs : List V} : atI (u :: fs).reverse (-1) = some u := by
  unfold atI ixN
  have hl : (u :: fs).reverse.length = fs.length + 1 := by rw [List.length_reverse, List.length_cons]
  rw [if_neg (by decide), if_pos (by rw [hl]; omega)]
  show (u :: fs).reverse[(-1 + (((u :: fs).reverse.length : Nat) : Int)).toNat]? = some u
  rw [hl, show (-1 + ((fs.length + 1 : Nat) : Int)).toNat = fs.length by omega, List.reverse_cons, List.getElem?_append_right (by rw [List.length_reverse]; exact Nat.le_refl _), List.length_reverse, Nat.sub_self]
  rfl
theorem Str_app (x y : Str) : (x ++ y).length = x.length + y.length := Array.size_append ..
theorem int_line {n : Nat} (h : n ≤ 1000000000) : ((n : Nat) : Int).natAbs.log2 < 1920 ∧ (Str.ofString (toString ((n : Nat) : Int))).length ≤ 100 := by
  have h1 : ((n : Nat) : Int).natAbs.log2 < 64 := by
    rw [Int.natAbs_natCast]
    by_cases z : n = 0
    · rw [z]; decide
    · rw [Nat.log2_lt z]
      exact Nat.lt_of_le_of_lt h (by decide)
  refine ⟨Nat.lt_trans h1 (by decide), ?_⟩
  have e := int_text_length_le (a := ((n : Nat) : Int)) (k := 64) (by decide) h1
  rw [PySem.ofString_length]
  omega
section
variable {CP : Addr} {H H' : Hp} {x dx : Addr} {t : Tm} {tv : V}
theorem newPiece (nx : H x = none) (nd : H dx = none) (h1 : ∀ b, b ≠ x → H' b = upd (upd H dx (.own x)) x (.ins CP dx []) b) (h2 : H' x = some (.ins CP dx (pcF tv t))) (ht : TmAt H t tv) : Same H H' ∧ EVAt CP H' (.piece t) (.ref x) := by
  have s : Same H H' := fun b o h => by
    have bx := ne_of_none h nx
    rw [h1 b bx, upd_ne bx, upd_ne (ne_of_none h nd)]
    exact h
  exact ⟨s, .piece h2 (ht.mono (.of_same s))⟩
end
section
variable {P : Program} {w : World} {K : PySem.W.Frag} {mg : Str → Option Value} {base : Heap} {CT CP CG DT DM : Addr} {FA : Sf → Addr} {f f1 f2 f3 f4 f5 f6 f7 f8 : Addr} {fd fd1 fd2 fd3 fd4 fd5 fd6 fd7 fd8 : FuncData}
theorem ok_tell_quote (F : Fun K "tell_quote" "tell_quote" s_tell_quote f fd) (T : Txt mg) (TC_Telling : TcT K CT) (TL : Tl K w mg FA DT DM) (C_later : CalM P w K mg base CT "later" ["self", "step", "about", "names"] 1 (spLater CT CP FA) f1 fd1)
    (C_make : CalM P w K mg base CT "make" ["self", "term", "names"] 2 (spMakeT CT CP FA) f2 fd2) : FnOk P w K mg base CX0 3 f fd ["telling", "term", "names"] (spStp CT CP CG FA (.t .quote)) := by
  refine F.ok sc_tell_quote (fun vs H Q E h => ?_) (fun cdv A outer s H vs Q E hr h => ?_)
  · obtain ⟨tl, S, Fl, s, K, F, n, a, b, rfl, _⟩ := h
    rfl
  obtain ⟨tl, S, Fl, s, Ks, Fs, n, a, b, rfl, hc, ha, T0, hf, hq⟩ := h
  obtain ⟨t, Ev, rfl, hw⟩ := code_t hc
  obtain ⟨a, rfl⟩ := w_un (o := .quote) hw
  rcases hq with ⟨c', st, gd, q⟩ | ⟨hb, _⟩
  rotate_left
  · cases hb
  cases st
  obtain ⟨e, c, ta, rfl, hE, hz⟩ := id ha
  obtain ⟨p, v1, rfl, hp, tc⟩ := id ta
  refine ⟨_, (pss_cons (ps_expr (pe_meth (pv 0) TC_Telling.cl C_later.m C_later.ok (hr.mono (by first | decide | omega)) C_later.b .nil pass0 (pa_cons (pe_glob (v := V.ref _) rfl TL.tooGreat rfl) (pa_cons (pv 1) (pa_cons (pv 2) pa_nil)))))
      (pss_one (ps_expr (pe_meth (pv 0) TC_Telling.cl C_make.m C_make.ok (hr.mono (by first | decide | omega)) C_make.b .nil pass0 (pa_cons (pe_ix ix_tup (pv 1) pe_int (fun _ _ => rfl)) (pa_cons (pv 2) pa_nil)))))), ?_⟩
  obtain ⟨dx, ht⟩ := T0.ins
  have hk : Ks.length + 1 ≤ 100000 := hf.k
  refine ⟨_, rfl, tl, dx, _, rfl, ht, no_later _ _ _, _, rfl, _, rfl, tl, S, Fl, .tooGreat, Ks, Fs, n, _, _, rfl, trivial, T0, by omega, fun H1 g1 T1 => ?_⟩
  have k1 := T0.kp g1
  obtain ⟨dx1, ht1⟩ := T1.ins
  simp only [Tm.deep] at hz
  refine ⟨_, rfl, tl, dx1, _, rfl, ht1, no_make _ _ _, _, rfl, p, _, _, _, rfl, rfl, SqT.of (k1.tups _ _ hp), atI_n (n := 1) rfl rfl, _, rfl, tl, S, Fl, a, Ev, _, _, _, _, _, rfl, ⟨e, c, tc.mono k1.tups, rfl, hE.mono k1, by omega⟩, gd _ (.head _), T1, by show Ks.length + 1 ≤ _; omega, fun H2 g2 T2 => q _ (g1.trans g2) T2⟩
theorem ok_too_great (F : Fun K "refuse_too_great" "refuse_too_great" s_refuse_too_great f fd) (T : Txt mg) (TC_Telling : TcT K CT) (TC_Piece : TcP K CP) (X_TooGreat : XcT K mg "TooGreat" CG) : FnOk P w K mg base (L2.CX P w) 1 f fd ["telling", "term", "names"] (spStp CT CP CG FA .tooGreat) := by
  refine F.okX sc_refuse_too_great (fun vs H Q E h => ?_) (fun cdv A outer s H vs Q E hr h => ?_)
  · obtain ⟨tl, S, Fl, s, K, F, n, a, b, rfl, _⟩ := h
    rfl
  obtain ⟨tl, S, Fl, s, Ks, Fs, n, a, b, rfl, hc, ha, T0, hf, hq⟩ := h
  refine ⟨_, (pss_cons (ps_set (i := 3) sc_refuse_too_great.nd rfl (Or.inl rfl) (pe_ix ix_list (pe_fld (pv 0) rfl) (pe_un un_neg pe_int) (fun _ _ => rfl)))
      (pss_cons (ps_if (pt_cmpR op_gt (pe_fld (pv 3) rfl) (pe_gint T.g_MOST_TERMS rfl) (nomark _)) (pss_one (ps_raise rfl (takes_of rfl rfl rfl rfl) (SkE.pmk_own1 PySem.F.excBase_ValueError X_TooGreat.ex X_TooGreat.g X_TooGreat.k (raises_own X_TooGreat.b X_TooGreat.t) rfl (pe_joined (.cons pe_str (.cons (pe_fmt (pe_fld (pv 3) rfl)) (.cons pe_str .nil))))))) pss_nil)
      (pss_one (ps_if (pt_cmpR op_gt (pe_fld (pv 3) rfl) (pe_gint T.g_DEEPEST rfl) (nomark _)) (pss_one (ps_raise rfl (takes_of rfl rfl rfl rfl) (SkE.pmk_own1 PySem.F.excBase_ValueError X_TooGreat.ex X_TooGreat.g X_TooGreat.k (raises_own X_TooGreat.b X_TooGreat.t) rfl (pe_joined (.cons pe_str (.cons (pe_fmt (pe_fld (pv 3) rfl)) (.cons pe_str .nil))))))) pss_nil)))), ?_⟩
  obtain ⟨dx, ht⟩ := T0.ins
  have l1 : ∀ {n : Nat} {y z : Str}, n ≤ 1000000000 → y.length ≤ 100 → (Str.empty ++ y).length ≤ sizeLine ∧ ((Str.empty ++ y) ++ Str.ofString (toString ((n : Nat) : Int))).length ≤ sizeLine ∧ (z.length ≤ 100 → (((Str.empty ++ y) ++ Str.ofString (toString ((n : Nat) : Int))) ++ z).length ≤ sizeLine) := fun {n y z} h hy => by
    have h2 := (int_line h).2
    have e0 : Str.empty.length = 0 := rfl
    refine ⟨szK ?_ |> Nat.le_of_lt, szK ?_ |> Nat.le_of_lt, fun hz => szK ?_ |> Nat.le_of_lt⟩
    · rw [Str_app, e0]; omega
    · rw [Str_app, Str_app, e0]; omega
    · rw [Str_app, Str_app, Str_app, e0]; omega
  rcases hq with ⟨c', st, gd, q⟩ | ⟨hb, hE⟩
  · cases st <;> try cases hc
    rename_i t Fs hs hd
    obtain ⟨fs, u, hF, eu, _⟩ := T0.popF
    cases eu with
    | piece hq' htm =>
    refine ⟨_, rfl, tl, CT, dx, _, _, rfl, ht, TC_Telling.cl, TC_Telling.nF, tlF_found _ _ _, _, rfl, Fl, _, _, _, rfl, rfl, SqL.of hF, atI_last, ?_⟩
    refine ⟨_, rfl, _, CP, _, _, _, rfl, hq', TC_Piece.cl, TC_Piece.nS, pcF_size _ _, _, _, rfl, rfl, _, rfl, iteF' (by simp; omega) ?_⟩
    refine ⟨_, rfl, _, CP, _, _, _, rfl, hq', TC_Piece.cl, TC_Piece.nD, pcF_depth _ _, _, _, rfl, rfl, _, rfl, iteF' (by simp; omega) ?_⟩
    exact q _ .refl T0
  · cases hb with
    | mk hsd hbig =>
    rename_i t Fs
    have hdb : t.deep ≤ 1000000000 := Nat.le_trans t.deep_le hbig
    obtain ⟨fs, u, hF, eu, _⟩ := T0.popF
    cases eu with
    | piece hq' htm =>
    refine ⟨_, rfl, tl, CT, dx, _, _, rfl, ht, TC_Telling.cl, TC_Telling.nF, tlF_found _ _ _, _, rfl, Fl, _, _, _, rfl, rfl, SqL.of hF, atI_last, ?_⟩
    refine ⟨_, rfl, _, CP, _, _, _, rfl, hq', TC_Piece.cl, TC_Piece.nS, pcF_size _ _, _, _, rfl, rfl, _, rfl, ite2 (fun c1 => ?_) fun c1 => ?_⟩
    · obtain ⟨e1, e2, e3⟩ := l1 (n := t.size) (y := "a piece of ") (z := " terms") hbig (by decide +kernel)
      exact ⟨_, rfl, e1, _, rfl, _, CP, _, _, _, rfl, hq', TC_Piece.cl, TC_Piece.nS, pcF_size _ _, .inr ⟨_, rfl, (int_line hbig).1, _, rfl, e2, _, rfl, e3 (by decide +kernel), hE⟩⟩
    · have hs : ¬ 2000 < t.size := fun z => c1 (decide_eq_true (by show (t.size : Int) > 2000; omega))
      have hd : 30 < t.deep := hsd.resolve_left hs
      refine ⟨_, rfl, _, CP, _, _, _, rfl, hq', TC_Piece.cl, TC_Piece.nD, pcF_depth _ _, _, _, rfl, rfl, _, rfl, iteT' (by simp; omega) ?_⟩
      obtain ⟨e1, e2, e3⟩ := l1 (n := t.deep) (y := "a piece ") (z := " deep") hdb (by decide +kernel)
      exact ⟨_, rfl, e1, _, rfl, _, CP, _, _, _, rfl, hq', TC_Piece.cl, TC_Piece.nD, pcF_depth _ _, .inr ⟨_, rfl, (int_line hdb).1, _, rfl, e2, _, rfl, e3 (by decide +kernel), hE⟩⟩
theorem ok_tell_lift (F : Fun K "tell_lift" "tell_lift" s_tell_lift f fd) (T : Txt mg) (TC_Telling : TcT K CT) (TL : Tl K w mg FA DT DM) (C_later : CalM P w K mg base CT "later" ["self", "step", "about", "names"] 1 (spLater CT CP FA) f1 fd1)
    (C_tell : CalM P w K mg base CT "tell" ["self", "term", "names"] 2 (spTell CT CP FA) f2 fd2) : FnOk P w K mg base CX0 3 f fd ["telling", "term", "names"] (spStp CT CP CG FA (.t .lift)) := by
  refine F.ok sc_tell_lift (fun vs H Q E h => ?_) (fun cdv A outer s H vs Q E hr h => ?_)
  · obtain ⟨tl, S, Fl, s, K, F, n, a, b, rfl, _⟩ := h
    rfl
  obtain ⟨tl, S, Fl, s, Ks, Fs, n, a, b, rfl, hc, ha, T0, hf, hq⟩ := h
  obtain ⟨t, Ev, rfl, hw⟩ := code_t hc
  obtain ⟨a, rfl⟩ := w_un (o := .lift) hw
  rcases hq with ⟨c', st, gd, q⟩ | ⟨hb, _⟩
  rotate_left
  · cases hb
  cases st
  obtain ⟨e, c, ta, rfl, hE, hz⟩ := id ha
  obtain ⟨p, v1, rfl, hp, tc⟩ := id ta
  refine ⟨_, (pss_cons (ps_expr (pe_meth (pv 0) TC_Telling.cl C_later.m C_later.ok (hr.mono (by first | decide | omega)) C_later.b .nil pass0 (pa_cons (pe_glob (v := V.ref _) rfl TL.mkNum rfl) (pa_cons (pv 1) (pa_cons (pv 2) pa_nil)))))
      (pss_one (ps_expr (pe_meth (pv 0) TC_Telling.cl C_tell.m C_tell.ok (hr.mono (by first | decide | omega)) C_tell.b .nil pass0 (pa_cons (pe_ix ix_tup (pv 1) pe_int (fun _ _ => rfl)) (pa_cons (pv 2) pa_nil)))))), ?_⟩
  obtain ⟨dx, ht⟩ := T0.ins
  have hk : Ks.length + 1 ≤ 100000 := hf.k
  refine ⟨_, rfl, tl, dx, _, rfl, ht, no_later _ _ _, _, rfl, _, rfl, tl, S, Fl, .mkNum, Ks, Fs, n, _, _, rfl, trivial, T0, by omega, fun H1 g1 T1 => ?_⟩
  have k1 := T0.kp g1
  obtain ⟨dx1, ht1⟩ := T1.ins
  simp only [Tm.deep] at hz
  refine ⟨_, rfl, tl, dx1, _, rfl, ht1, no_tell _ _ _, _, rfl, p, _, _, _, rfl, rfl, SqT.of (k1.tups _ _ hp), atI_n (n := 1) rfl rfl, _, rfl, tl, S, Fl, a, Ev, _, _, _, _, _, rfl, ⟨e, c, tc.mono k1.tups, rfl, hE.mono k1, by omega⟩, gd _ (.head _), T1, by show Ks.length + 1 ≤ _; omega, fun H2 g2 T2 => q _ (g1.trans g2) T2⟩
theorem ok_tell_run (F : Fun K "tell_run" "tell_run" s_tell_run f fd) (T : Txt mg) (TC_Telling : TcT K CT) (TL : Tl K w mg FA DT DM) (C_later : CalM P w K mg base CT "later" ["self", "step", "about", "names"] 1 (spLater CT CP FA) f1 fd1)
    (C_tell : CalM P w K mg base CT "tell" ["self", "term", "names"] 2 (spTell CT CP FA) f2 fd2) : FnOk P w K mg base CX0 3 f fd ["telling", "term", "names"] (spStp CT CP CG FA (.t .run)) := by
  refine F.ok sc_tell_run (fun vs H Q E h => ?_) (fun cdv A outer s H vs Q E hr h => ?_)
  · obtain ⟨tl, S, Fl, s, K, F, n, a, b, rfl, _⟩ := h
    rfl
  obtain ⟨tl, S, Fl, s, Ks, Fs, n, a, b, rfl, hc, ha, T0, hf, hq⟩ := h
  obtain ⟨t, Ev, rfl, hw⟩ := code_t hc
  obtain ⟨a, rfl⟩ := w_un (o := .run) hw
  rcases hq with ⟨c', st, gd, q⟩ | ⟨hb, _⟩
  rotate_left
  · cases hb
  cases st
  obtain ⟨e, c, ta, rfl, hE, hz⟩ := id ha
  obtain ⟨p, v1, rfl, hp, tc⟩ := id ta
  refine ⟨_, (pss_cons (ps_expr (pe_meth (pv 0) TC_Telling.cl C_later.m C_later.ok (hr.mono (by first | decide | omega)) C_later.b .nil pass0 (pa_cons (pe_glob (v := V.ref _) rfl TL.goPiece rfl) (pa_cons (pv 1) (pa_cons (pv 2) pa_nil)))))
      (pss_one (ps_expr (pe_meth (pv 0) TC_Telling.cl C_tell.m C_tell.ok (hr.mono (by first | decide | omega)) C_tell.b .nil pass0 (pa_cons (pe_ix ix_tup (pv 1) pe_int (fun _ _ => rfl)) (pa_cons (pv 2) pa_nil)))))), ?_⟩
  obtain ⟨dx, ht⟩ := T0.ins
  have hk : Ks.length + 1 ≤ 100000 := hf.k
  refine ⟨_, rfl, tl, dx, _, rfl, ht, no_later _ _ _, _, rfl, _, rfl, tl, S, Fl, .goPiece, Ks, Fs, n, _, _, rfl, trivial, T0, by omega, fun H1 g1 T1 => ?_⟩
  have k1 := T0.kp g1
  obtain ⟨dx1, ht1⟩ := T1.ins
  simp only [Tm.deep] at hz
  refine ⟨_, rfl, tl, dx1, _, rfl, ht1, no_tell _ _ _, _, rfl, p, _, _, _, rfl, rfl, SqT.of (k1.tups _ _ hp), atI_n (n := 1) rfl rfl, _, rfl, tl, S, Fl, a, Ev, _, _, _, _, _, rfl, ⟨e, c, tc.mono k1.tups, rfl, hE.mono k1, by omega⟩, gd _ (.head _), T1, by show Ks.length + 1 ≤ _; omega, fun H2 g2 T2 => q _ (g1.trans g2) T2⟩
theorem ok_fill_hole (F : Fun K "fill_hole" "fill_hole" s_fill_hole f fd) (T : Txt mg) (TC_Telling : TcT K CT)
    (C_tell : CalM P w K mg base CT "tell" ["self", "term", "names"] 2 (spTell CT CP FA) f2 fd2) : FnOk P w K mg base CX0 3 f fd ["telling", "term", "names"] (spStp CT CP CG FA (.m .hole)) := by
  refine F.ok sc_fill_hole (fun vs H Q E h => ?_) (fun cdv A outer s H vs Q E hr h => ?_)
  · obtain ⟨tl, S, Fl, s, K, F, n, a, b, rfl, _⟩ := h
    rfl
  obtain ⟨tl, S, Fl, s, Ks, Fs, n, a, b, rfl, hc, ha, T0, hf, hq⟩ := h
  obtain ⟨t, Ev, rfl, hw⟩ := code_m hc
  obtain ⟨a, rfl⟩ := w_un (o := .hole) hw
  rcases hq with ⟨c', st, gd, q⟩ | ⟨hb, _⟩
  rotate_left
  · cases hb
  cases st
  obtain ⟨e, c, ta, rfl, hE, hz⟩ := id ha
  obtain ⟨p, v1, rfl, hp, tc⟩ := id ta
  refine ⟨_, (pss_one (ps_expr (pe_meth (pv 0) TC_Telling.cl C_tell.m C_tell.ok (hr.mono (by first | decide | omega)) C_tell.b .nil pass0 (pa_cons (pe_ix ix_tup (pv 1) pe_int (fun _ _ => rfl)) (pa_cons (pv 2) pa_nil))))), ?_⟩
  obtain ⟨dx, ht⟩ := T0.ins
  have hk : Ks.length + 1 ≤ 100000 := hf.k
  simp only [Tm.deep] at hz
  refine ⟨_, rfl, tl, dx, _, rfl, ht, no_tell _ _ _, _, rfl, p, _, _, _, rfl, rfl, SqT.of hp, atI_n (n := 1) rfl rfl, _, rfl, tl, S, Fl, a, Ev, _, _, _, _, _, rfl, ⟨e, c, tc, rfl, hE, by omega⟩, gd _ (.head _), T0, by omega, fun H2 g2 T2 => q _ g2 T2⟩
theorem ok_go_piece (F : Fun K "go_on_with_piece" "go_on_with_piece" s_go_on_with_piece f fd) (T : Txt mg) (TC_Telling : TcT K CT) (TC_Piece : TcP K CP)
    (C_tell : CalM P w K mg base CT "tell" ["self", "term", "names"] 2 (spTell CT CP FA) f2 fd2) : FnOk P w K mg base CX0 3 f fd ["telling", "term", "names"] (spStp CT CP CG FA .goPiece) := by
  refine F.ok sc_go_on_with_piece (fun vs H Q E h => ?_) (fun cdv A outer s H vs Q E hr h => ?_)
  · obtain ⟨tl, S, Fl, s, K, F, n, a, b, rfl, _⟩ := h
    rfl
  obtain ⟨tl, S, Fl, s, Ks, Fs, n, a, b, rfl, hc, ha, T0, hf, hq⟩ := h
  rcases hq with ⟨c', st, gd, q⟩ | ⟨hb, _⟩
  rotate_left
  · cases hb; cases hc
  have hk : Ks.length + 1 ≤ 100000 := hf.k
  refine ⟨_, (pss_one (ps_expr (pe_meth (pv 0) TC_Telling.cl C_tell.m C_tell.ok (hr.mono (by first | decide | omega)) C_tell.b .nil pass0 (pa_cons (pe_fld (pe_bm0 PySem.F.plainAttrs_list PySem.F.slot_list_pop PySem.F.type_list_pop mt_pop (pe_fld (pv 0) rfl)) rfl) (pa_cons pe_dnewK pa_nil))))), ?_⟩
  cases st <;> try cases hc
  rename_i t Fs hd
  obtain ⟨dx, ht⟩ := T0.ins
  obtain ⟨fs, u, hF, eu, T1⟩ := T0.popF
  cases eu with
  | piece hq' htm =>
  have k1 := T0.kp (H' := upd H Fl (.lst fs.reverse)) (.putF _)
  have g1 : Frm tl S Fl H (upd H Fl (.lst fs.reverse)) := .putF _
  have hq1 := k1 _ _ hq' (.inr (.inr ⟨_, _, rfl⟩))
  refine ⟨_, rfl, tl, dx, _, rfl, ht, no_tell _ _ _, ?_⟩
  refine ⟨_, rfl, tl, CT, dx, _, _, rfl, ht, TC_Telling.cl, TC_Telling.nF, tlF_found _ _ _, .inl ⟨rfl, _, SqL.of hF⟩, Fl, _, _, rfl, rfl, hF, rev_last, ?_⟩
  rw [rev_dropLast]
  refine ⟨_, CP, _, _, _, rfl, hq1, TC_Piece.cl, TC_Piece.nT, pcF_term _ _, fun pe npe => ?_⟩
  have s1 := same_new npe (.dK [])
  exact ⟨tl, S, Fl, t, .nil, _, _, _, _, _, rfl, ⟨pe, 0, (htm.mono k1.tups).mono (.of_same s1), rfl, .nil upd_same, by omega⟩, gd _ (.head _), T1.same s1, by omega, fun H2 g2 T2 => q _ (g1.trans ((Frm.of_same s1).trans g2)) T2⟩
end
section
variable {P : Program} {w : World} {K : PySem.W.Frag} {mg : Str → Option Value} {base : Heap} {CT CP CG DT DM : Addr} {FA : Sf → Addr} {f f1 f2 f3 f4 f5 f6 f7 f8 : Addr} {fd fd1 fd2 fd3 fd4 fd5 fd6 fd7 fd8 : FuncData}
theorem ok_make_num (F : Fun K "make_num" "make_num" s_make_num f fd) (T : Txt mg) (TC_Telling : TcT K CT) (MK_Piece : CalC P w K mg base "Piece" CP ["self", "term", "size", "depth"] 1 (spPcInit CP) f1 fd1) : FnOk P w K mg base CX0 3 f fd ["telling", "term", "names"] (spStp CT CP CG FA .mkNum) := by
  refine F.ok sc_make_num (fun vs H Q E h => ?_) (fun cdv A outer s H vs Q E hr h => ?_)
  · obtain ⟨tl, S, Fl, s, K, F, n, a, b, rfl, _⟩ := h
    rfl
  obtain ⟨tl, S, Fl, s, Ks, Fs, n, a, b, rfl, hc, ha, T0, hf, hq⟩ := h
  rcases hq with ⟨c', st, gd, q⟩ | ⟨hb, _⟩
  rotate_left
  · cases hb; cases hc
  refine ⟨_, (pss_one (ps_expr (pe_bm PySem.F.plainAttrs_list PySem.F.slot_list_append PySem.F.type_list_append mt_append (pe_fld (pv 0) rfl) (pa_cons (pe_make MK_Piece.mkr MK_Piece.ok (hr.mono (by first | decide | omega)) rfl MK_Piece.m MK_Piece.b .nil pass0 (pa_cons (pe_tup (pa_cons pe_str (pa_cons (pe_bm0 PySem.F.plainAttrs_list PySem.F.slot_list_pop PySem.F.type_list_pop mt_pop (pe_fld (pv 0) rfl)) pa_nil))) (pa_cons pe_int (pa_cons pe_int pa_nil)))) pa_nil)))), ?_⟩
  cases st <;> try cases hc
  rename_i i Fs
  obtain ⟨dx, ht⟩ := T0.ins
  obtain ⟨fs, u, hF, eu, T1⟩ := T0.popF
  cases eu
  have g1 : Frm tl S Fl H (upd H Fl (.lst fs.reverse)) := .putF _
  refine ⟨_, rfl, tl, CT, dx, _, _, rfl, ht, TC_Telling.cl, TC_Telling.nF, tlF_found _ _ _, .inl ⟨rfl, _, SqL.of hF⟩, ?_⟩
  refine ⟨_, rfl, tl, CT, dx, _, _, rfl, ht, TC_Telling.cl, TC_Telling.nF, tlF_found _ _ _, .inl ⟨rfl, _, SqL.of hF⟩, Fl, _, _, rfl, rfl, hF, rev_last, ?_⟩
  rw [rev_dropLast]
  refine ⟨sz 2, fun pn np => ?_⟩
  have s1 := same_new np (.tup [.str "num", .int i])
  have T2 := T1.same s1
  refine fun x d nx nd nxd => ⟨x, d, _, _, _, rfl, upd_same, fun H3 h1 h2 => ⟨rfl, ?_⟩⟩
  obtain ⟨s3, ev⟩ := newPiece (t := .num i) nx nd h1 h2 ⟨pn, rfl, upd_same⟩
  have T3 := T2.same s3
  obtain ⟨fs3, hF3, ef3⟩ := T3.found
  have := s3 _ _ (s1 _ _ (show upd H Fl (.lst fs.reverse) Fl = _ from upd_same))
  exact ⟨Fl, _, _, rfl, rfl, hF3, szK (by rw [T3.ltF hF3]; have := hf.f; show Fs.length ≤ _; exact Nat.le_trans (Nat.le_of_succ_le this) (by decide)), q _ (g1.trans ((Frm.of_same (s1.trans s3)).trans (.putF _))) (T3.pushF hF3 ev)⟩
theorem ok_make_same (F : Fun K "make_same" "make_same" s_make_same f fd) (T : Txt mg) (TC_Telling : TcT K CT) (MK_Piece : CalC P w K mg base "Piece" CP ["self", "term", "size", "depth"] 1 (spPcInit CP) f1 fd1) : FnOk P w K mg base CX0 3 f fd ["telling", "term", "names"] (spStp CT CP CG FA (.m .num)) := by
  refine F.ok sc_make_same (fun vs H Q E h => ?_) (fun cdv A outer s H vs Q E hr h => ?_)
  · obtain ⟨tl, S, Fl, s, K, F, n, a, b, rfl, _⟩ := h
    rfl
  obtain ⟨tl, S, Fl, s, Ks, Fs, n, a, b, rfl, hc, ha, T0, hf, hq⟩ := h
  obtain ⟨t, Ev, rfl, hw⟩ := code_m hc
  obtain ⟨m, rfl⟩ := w_num hw
  rcases hq with ⟨c', st, gd, q⟩ | ⟨hb, _⟩
  rotate_left
  · cases hb
  cases st
  obtain ⟨e, c, ta, rfl, hE, hz⟩ := ha
  refine ⟨_, (pss_one (ps_expr (pe_bm PySem.F.plainAttrs_list PySem.F.slot_list_append PySem.F.type_list_append mt_append (pe_fld (pv 0) rfl) (pa_cons (pe_make MK_Piece.mkr MK_Piece.ok (hr.mono (by first | decide | omega)) rfl MK_Piece.m MK_Piece.b .nil pass0 (pa_cons (pv 1) (pa_cons pe_int (pa_cons pe_int pa_nil)))) pa_nil)))), ?_⟩
  obtain ⟨dx, ht⟩ := T0.ins
  obtain ⟨fs, hF, ef⟩ := T0.found
  refine ⟨_, rfl, tl, CT, dx, _, _, rfl, ht, TC_Telling.cl, TC_Telling.nF, tlF_found _ _ _, .inl ⟨rfl, _, SqL.of hF⟩, _, rfl, ?_⟩
  refine fun x d nx nd nxd => ⟨x, d, _, _, _, rfl, upd_same, fun H3 h1 h2 => ⟨rfl, ?_⟩⟩
  obtain ⟨s3, ev⟩ := newPiece (t := .num m) nx nd h1 h2 ta
  have T3 := T0.same s3
  exact ⟨Fl, _, _, rfl, rfl, s3 _ _ hF, szK (by rw [T0.ltF hF]; have := hf.f; show Fs.length ≤ _; exact Nat.le_trans this (by decide)), q _ ((Frm.of_same s3).trans (.putF _)) (T3.pushF (s3 _ _ hF) ev)⟩
theorem ok_make_name (F : Fun K "make_name" "make_name" s_make_name f fd) (T : Txt mg) (TC_Telling : TcT K CT) (MK_Piece : CalC P w K mg base "Piece" CP ["self", "term", "size", "depth"] 1 (spPcInit CP) f1 fd1) : FnOk P w K mg base CX0 3 f fd ["telling", "term", "names"] (spStp CT CP CG FA (.m .name)) := by
  refine F.ok sc_make_name (fun vs H Q E h => ?_) (fun cdv A outer s H vs Q E hr h => ?_)
  · obtain ⟨tl, S, Fl, s, K, F, n, a, b, rfl, _⟩ := h
    rfl
  obtain ⟨tl, S, Fl, s, Ks, Fs, n, a, b, rfl, hc, ha, T0, hf, hq⟩ := h
  obtain ⟨t, Ev, rfl, hw⟩ := code_m hc
  obtain ⟨m, rfl⟩ := w_name hw
  rcases hq with ⟨c', st, gd, q⟩ | ⟨hb, _⟩
  rotate_left
  · cases hb
  cases st with
  | mname hx =>
  rename_i z
  obtain ⟨e, c, ⟨p, rfl, hp⟩, rfl, hE, hz⟩ := ha
  refine ⟨_, (pss_one (ps_expr (pe_bm PySem.F.plainAttrs_list PySem.F.slot_list_append PySem.F.type_list_append mt_append (pe_fld (pv 0) rfl) (pa_cons (pe_make MK_Piece.mkr MK_Piece.ok (hr.mono (by first | decide | omega)) rfl MK_Piece.m MK_Piece.b .nil pass0 (pa_cons (pe_tup (pa_cons pe_str (pa_cons (pe_dget (hu_of hr) (pv 2) (pe_ix ix_tup (pv 1) pe_int (fun _ _ => rfl)) (fun _ _ => rfl)) pa_nil))) (pa_cons pe_int (pa_cons pe_int pa_nil)))) pa_nil)))), ?_⟩
  obtain ⟨dx, ht⟩ := T0.ins
  obtain ⟨fs, hF, ef⟩ := T0.found
  obtain ⟨kvs, he, hl, hy⟩ := hE
  obtain ⟨v, hv, ev⟩ := hy m (by rw [hx]; exact fun z => nomatch z)
  rw [hx] at ev
  cases ev
  refine ⟨_, rfl, tl, CT, dx, _, _, rfl, ht, TC_Telling.cl, TC_Telling.nF, tlF_found _ _ _, .inl ⟨rfl, _, SqL.of hF⟩, _, rfl, _, rfl, p, _, _, _, rfl, rfl, SqT.of hp, atI_n (n := 1) rfl rfl, e, _, rfl, hv ▸ DGet.k (k := Sum.inr m) he, sz 2, fun pn np => ?_⟩
  have s1 := same_new np (.tup [.str "name", .str z])
  refine fun x d nx nd nxd => ⟨x, d, _, _, _, rfl, upd_same, fun H3 h1 h2 => ⟨rfl, ?_⟩⟩
  obtain ⟨s3, ev⟩ := newPiece (t := .name z) nx nd h1 h2 ⟨pn, rfl, upd_same⟩
  have s4 := s1.trans s3
  have T3 := T0.same s4
  exact ⟨Fl, _, _, rfl, rfl, s4 _ _ hF, szK (by rw [T0.ltF hF]; have := hf.f; show Fs.length ≤ _; exact Nat.le_trans this (by decide)), q _ ((Frm.of_same s4).trans (.putF _)) (T3.pushF (s4 _ _ hF) ev)⟩
/-- the parts of a plain word, all with the same names -/
theorem plain_parts {H : Hp} {Ev : Evs} {e : Addr} {c d : Nat} (hE : EnvAt CP H Ev e c) : ∀ {ts : List Tm} {vs : List V}, TmsAt H ts vs → (∀ t ∈ ts, c + t.deep ≤ 1000) → Each (fun (q : Tm × Evs) (v : V) => Args CP H (.make q.1 q.2) v (.ref e)) (ts.map fun t => (t, Ev)) vs
  | [], [], _, _ => True.intro
  | t :: ts, v :: vs, ⟨h, r⟩, hd => ⟨⟨e, c, h, rfl, hE, hd t List.mem_cons_self⟩, plain_parts (d := d) hE r fun t' m => hd t' (List.mem_cons_of_mem _ m)⟩
  | [], _ :: _, h, _ => h.elim
  | _ :: _, [], h, _ => h.elim
theorem Tm.part_deep8 {t u : Tm} (h : u ∈ t.parts) : u.deep + 1 ≤ t.deep := by
  cases t with
  | num n => cases h
  | name n => cases h
  | bin o a b => simp only [Tm.parts, List.mem_cons, List.not_mem_nil, or_false] at h; simp only [Tm.deep]; rcases h with h | h <;> rw [h] <;> omega
  | cond c a b => simp only [Tm.parts, List.mem_cons, List.not_mem_nil, or_false] at h; simp only [Tm.deep]; rcases h with h | h | h <;> rw [h] <;> omega
  | letx n a b => simp only [Tm.parts, List.mem_cons, List.not_mem_nil, or_false] at h; simp only [Tm.deep]; rcases h with h | h <;> rw [h] <;> omega
  | turns k n a b => simp only [Tm.parts, List.mem_cons, List.not_mem_nil, or_false] at h; simp only [Tm.deep]; rcases h with h | h <;> rw [h] <;> omega
  | deff f n k a b => simp only [Tm.parts, List.mem_cons, List.not_mem_nil, or_false] at h; simp only [Tm.deep]; rcases h with h | h <;> rw [h] <;> omega
  | use f a => simp only [Tm.parts, List.mem_cons, List.not_mem_nil, or_false] at h; simp only [Tm.deep]; rw [h]; omega
  | un o a => simp only [Tm.parts, List.mem_cons, List.not_mem_nil, or_false] at h; simp only [Tm.deep]; rw [h]; omega
theorem ok_make_plain (F : Fun K "make_plain" "make_plain" s_make_plain f fd) (T : Txt mg) (TC_Telling : TcT K CT) (C_make_of : CalM P w K mg base CT "make_of" ["self", "head", "parts"] 3 (spMakeOf CT CP FA) f1 fd1) : FnOk P w K mg base CX0 4 f fd ["telling", "term", "names"] (fun vs H Q E => ∃ u : W, u ∈ [W.sum, .product, .less, .when] ∧ spStp CT CP CG FA (.m u) vs H Q E) := by
  refine F.ok sc_make_plain (fun vs H Q E h => ?_) (fun cdv A outer s H vs Q E hr h => ?_)
  · obtain ⟨u, _, tl, S, Fl, s, K, F, n, a, b, rfl, _⟩ := h
    rfl
  obtain ⟨u, hu, tl, S, Fl, s, Ks, Fs, n, a, b, rfl, hc, ha, T0, hf, hq⟩ := h
  obtain ⟨t, Ev, rfl, hw⟩ := code_m hc
  rcases hq with ⟨c', st, gd, q⟩ | ⟨hb, _⟩
  rotate_left
  · cases hb
  have hk : Ks.length + 1 ≤ 100000 := hf.k
  -- a head of the word alone
  have key : t.head = [.str t.w.str] ∧ c' = ⟨(t.parts.map fun p => Stp.make p Ev) ++ .put t :: Ks, Fs, n⟩ := by
    simp only [List.mem_cons, List.not_mem_nil, or_false] at hu
    cases t with
    | bin o a b => cases st; exact ⟨by show [V.str o.word] = [V.str o.w.str]; rw [o.word_eq], rfl⟩
    | cond c a b => cases st; exact ⟨rfl, rfl⟩
    | num n => exfalso; cases hw; rcases hu with h | h | h | h <;> cases h
    | name n => exfalso; cases hw; rcases hu with h | h | h | h <;> cases h
    | letx x a b => exfalso; cases hw; rcases hu with h | h | h | h <;> cases h
    | turns m x a b => exfalso; cases hw; rcases hu with h | h | h | h <;> cases h
    | deff g x k a b => exfalso; cases hw; rcases hu with h | h | h | h <;> cases h
    | use g a => exfalso; cases hw; rcases hu with h | h | h | h <;> cases h
    | un o a => exfalso; subst hw; cases o <;> rcases hu with h | h | h | h <;> cases h
  obtain ⟨hh, rfl⟩ := key
  obtain ⟨e, c, ta, rfl, hE, hz⟩ := ha
  obtain ⟨p, vs, rfl, hp, hvs⟩ := ta.open
  rw [hh] at hp
  refine ⟨_, (pss_one (ps_expr (pe_meth (pv 0) TC_Telling.cl C_make_of.m C_make_of.ok (hr.mono (by first | decide | omega)) C_make_of.b .nil pass0 (pa_cons (pe_tup (pa_cons (pe_ix ix_tup (pv 1) pe_int (fun _ _ => rfl)) pa_nil)) (pa_cons (pe_lc (own := [("part", 3)]) (g := (gName 3)) (tt := tYes) (by rfl) sc_make_plain.nd (pi_tup (pe_slice sl_tupA (pv 1) (po_some pe_int) po_none)) (blkOk_by (own := [("part", 3)]) (N := ["telling", "term", "names", "part"]) (sc := defScope s_make_plain) (by decide +kernel)) (fun _ _ _ _ _ => (pg_name (i := 3) sc_make_plain.nd rfl (Or.inl rfl))) (fun _ _ _ _ _ => pts_nil) (fun _ _ _ _ _ => (pe_tup (pa_cons (pv 3) (pa_cons (pv 2) pa_nil))))) pa_nil))))), ?_⟩
  obtain ⟨dx, ht⟩ := T0.ins
  refine ⟨_, rfl, tl, dx, _, rfl, ht, no_make_of _ _ _, _, rfl, p, _, _, _, rfl, rfl, SqT.of hp, atI_n (n := 0) rfl rfl, sz 1, fun hd nhd => ?_⟩
  have s1 := same_new nhd (.tup [.str t.w.str])
  have hlen := hvs.len
  have h3 := t.len_parts
  refine ⟨_, rfl, 1, rfl, ?_⟩
  unfold tNoPart
  show rSlA K (V.ref p) (some ((1 : Nat) : Int)) none _ _
  refine slA_from (k := 1) (s1 _ _ hp) (by rw [List.length_append, List.length_singleton]; omega) fun u H2 e2 hu2 => ?_
  have s2 := s1.trans e2
  refine ⟨u, rfl, ⟨_, SqT.of hu2⟩, fun D hD => ?_⟩
  have hvs2 : TmsAt H2 t.parts vs := hvs.mono (.of_same s2)
  have hargs := plain_parts (d := 0) (hE.mono (.of_same s2)) hvs2 fun t' m => by have := Tm.part_deep8 m; omega
  have hu3 : H2 u = some (.tup vs) := hu2
  refine lc_tup (K := K) (a := u) (xs := vs) (fun i H' => Same H2 H' ∧ ∃ us, H' D = some (.lst us) ∧ us.length = i ∧ Each (PartAt CP H') ((t.parts.take i).map fun p => (p, Ev)) us) ⟨same_new hD _, [], upd_same, rfl, by rw [List.take_zero]; exact True.intro⟩ (fun i H' _ z => SqT.of (z.1 _ _ hu3)) ?_ ?_
  · rintro i x H' hi ⟨g, us, hd', hl', he'⟩
    obtain ⟨tp, htp⟩ : ∃ tp, t.parts[i]? = some tp := by
      have hil : i < vs.length := (List.getElem?_eq_some_iff.mp hi).1
      exact ⟨_, List.getElem?_eq_getElem (by omega)⟩
    obtain ⟨v', hv', hta'⟩ := hvs2.get htp
    rw [hi] at hv'
    cases hv'
    refine ⟨rfl, _, rfl, _, rfl, sz 2, fun r nr => ?_⟩
    have g2 := same_new nr (.tup [x, .ref e])
    refine ⟨us, g2 _ _ hd', small1000 (by have := (List.getElem?_eq_some_iff.mp hi).1; omega), fun b o z => ?_, us ++ [.ref r], upd_same, by rw [List.length_append, hl']; rfl, ?_⟩
    · rw [upd_ne (ne_of_none z hD)]
      exact g2 _ _ (g b o z)
    · rw [List.take_add_one, htp, List.map_append]
      have kk : ∀ b o, (∀ ys, o ≠ .lst ys) → upd H' r (.tup [x, .ref e]) b = some o → upd (upd H' r (.tup [x, .ref e])) D (.lst (us ++ [.ref r])) b = some o := fun b o n z => by
        rw [upd_ne (fun y : b = D => by rw [y, g2 _ _ hd'] at z; cases z; exact n _ rfl)]
        exact z
      have kp : Kp CP H' (upd (upd H' r (.tup [x, .ref e])) D (.lst (us ++ [.ref r]))) := fun b o z y => kk b o (by rintro ys rfl; rcases y with ⟨_, y⟩ | ⟨_, y⟩ | ⟨_, _, y⟩ <;> cases y) (g2 _ _ z)
      have kp2 : Kp CP H2 (upd (upd H' r (.tup [x, .ref e])) D (.lst (us ++ [.ref r]))) := (Kp.of_same g).trans kp
      refine Each.app (he'.imp fun _ _ ⟨p, a, b, e1, e2, e3⟩ => ⟨p, a, b, e1, kp.tups _ _ e2, e3.mono kp⟩) ⟨⟨r, x, .ref e, rfl, kk _ _ (fun ys z => by cases z) upd_same, ?_⟩, True.intro⟩
      exact ⟨e, c, hta'.mono kp2.tups, rfl, (hE.mono (.of_same s2)).mono kp2, by have := Tm.part_deep8 (List.mem_of_getElem? htp); show c + tp.deep ≤ 1000; omega⟩
  · rintro H' ⟨g, us, hd', hl', he'⟩
    rw [hlen, List.take_length] at he'
    have s3 := s2.trans g
    have nD : H D = none := s2.free hD
    obtain ⟨ss, hS, _⟩ := T0.steps
    obtain ⟨fs, hF, _⟩ := T0.found
    refine ⟨tl, S, Fl, t, t.parts.map fun p => (p, Ev), Ks, Fs, n, hd, D, us, rfl, ?_, hd', (ne_of_none hS nD).symm, (ne_of_none hF nD).symm, he', by rw [List.length_map], fun qq hqq => ?_, T0.same s3, by omega, fun H4 g4 T4 => q _ ((Frm.of_same s3).trans g4) ?_⟩
    · rw [hh]
      exact g _ _ (e2 _ _ upd_same)
    · obtain ⟨tp, htp, rfl⟩ := List.mem_map.mp hqq
      exact gd (.make tp Ev) (List.mem_append_left _ (List.mem_map_of_mem htp))
    · rw [List.map_map] at T4
      exact T4
end
section
variable {P : Program} {w : World} {K : PySem.W.Frag} {mg : Str → Option Value} {base : Heap} {CT CP CG DT DM : Addr} {FA : Sf → Addr} {f f1 f2 f3 f4 f5 f6 f7 f8 : Addr} {fd fd1 fd2 fd3 fd4 fd5 fd6 fd7 fd8 : FuncData}
/-- a pair of a part and its names: new -/
theorem mkPart {H : Hp} {t : Tm} {E : Evs} {a : V} {e p : Addr} (ha : Args CP H (.make t E) a (.ref e)) (hp : H p = none) : Same H (upd H p (.tup [a, .ref e])) ∧ PartAt CP (upd H p (.tup [a, .ref e])) (t, E) (.ref p) := by
  have s := same_new hp (.tup [a, .ref e])
  exact ⟨s, p, a, .ref e, rfl, upd_same, ha.mono (.of_same s)⟩
theorem PartAt.same {H H' : Hp} (s : Same H H') {q : Tm × Evs} {v : V} (h : PartAt CP H q v) : PartAt CP H' q v := by
  obtain ⟨p, a, b, e1, e2, e3⟩ := h
  exact ⟨p, a, b, e1, s _ _ e2, e3.mono (.of_same s)⟩
/-- a new dict p of e's names and one more, which is known -/
theorem star_same {H : Hp} {E : Evs} {e p q : Addr} {c : Nat} {kvs : List (Key × V)} {x : Str} {v : EV} {u : V} (he : H e = some (.dK kvs)) (hE : EnvAt CP H E e c) (hu : EVAt CP H v u)
    (np : H p = none) (nq : upd (upd H p (.dK [])) p (.dK kvs) q = none) :
    (∀ b o, H b = some o → upd (upd (upd H p (.dK [])) p (.dK kvs)) q (.dK []) b = some o) ∧ upd (upd (upd H p (.dK [])) p (.dK kvs)) q (.dK []) p = some (.dK kvs) ∧
    Same H (upd (upd (upd (upd (upd H p (.dK [])) p (.dK kvs)) q (.dK [])) q (.dK [(Sum.inr x, u)])) p (.dK (putK kvs (.inr x) u))) ∧
    EnvAt CP (upd (upd (upd (upd (upd H p (.dK [])) p (.dK kvs)) q (.dK [])) q (.dK [(Sum.inr x, u)])) p (.dK (putK kvs (.inr x) u))) (E.set x v) p (c + 1) := by
  have pq : p ≠ q := fun z => by rw [← z, upd_same] at nq; cases nq
  have nq0 : H q = none := by
    rw [upd_ne pq.symm, upd_ne pq.symm] at nq
    exact nq
  have s1 : Same H (upd (upd (upd (upd (upd H p (.dK [])) p (.dK kvs)) q (.dK [])) q (.dK [(Sum.inr x, u)])) p (.dK (putK kvs (.inr x) u))) := fun b o h => by
    have bp := ne_of_none h np
    have bq := ne_of_none h nq0
    rw [upd_ne bp, upd_ne bq, upd_ne bq, upd_ne bp, upd_ne bp]
    exact h
  refine ⟨fun b o h => ?_, by rw [upd_ne pq, upd_same], s1, hE.set (.of_same s1) he upd_same (hu.mono (.of_same s1))⟩
  rw [upd_ne (ne_of_none h nq0), upd_ne (ne_of_none h np), upd_ne (ne_of_none h np)]
  exact h
theorem ok_make_let (F : Fun K "make_let" "make_let" s_make_let f fd) (T : Txt mg) (TC_Telling : TcT K CT) (C_new_name : CalM P w K mg base CT "new_name" ["self"] 1 (spNewName CT CP FA) f1 fd1)
    (C_make_of : CalM P w K mg base CT "make_of" ["self", "head", "parts"] 3 (spMakeOf CT CP FA) f2 fd2) : FnOk P w K mg base CX0 4 f fd ["telling", "term", "names"] (spStp CT CP CG FA (.m .let)) := by
  refine F.ok sc_make_let (fun vs H Q E h => ?_) (fun cdv A outer s H vs Q E hr h => ?_)
  · obtain ⟨tl, S, Fl, s, K, F, n, a, b, rfl, _⟩ := h
    rfl
  obtain ⟨tl, S, Fl, s, Ks, Fs, n, a, b, rfl, hc, ha, T0, hf, hq⟩ := h
  obtain ⟨t, Ev, rfl, hw⟩ := code_m hc
  obtain ⟨x, a, b, rfl⟩ := w_let hw
  rcases hq with ⟨c', st, gd, q⟩ | ⟨hb, _⟩
  rotate_left
  · cases hb
  cases st
  have hk : Ks.length + 1 ≤ 100000 := hf.k
  have hn : n < NB := hf.n
  obtain ⟨e, c, ⟨p, v1, v2, rfl, hp0, ta0, tb0⟩, rfl, hE0, hz⟩ := ha
  simp only [Tm.deep] at hz
  refine ⟨_, (pss_cons (ps_set (i := 3) sc_make_let.nd rfl (Or.inl rfl) (pe_meth0 (pv 0) TC_Telling.cl C_new_name.m C_new_name.ok (hr.mono (by first | decide | omega)) C_new_name.b .nil pass0))
      (pss_one (ps_expr (pe_meth (pv 0) TC_Telling.cl C_make_of.m C_make_of.ok (hr.mono (by first | decide | omega)) C_make_of.b .nil pass0 (pa_cons (pe_tup (pa_cons pe_str (pa_cons (pv 3) pa_nil))) (pa_cons (pe_lst (pa_cons (pe_tup (pa_cons (pe_ix ix_tup (pv 1) pe_int (fun _ _ => rfl)) (pa_cons (pv 2) pa_nil))) (pa_cons (pe_tup (pa_cons (pe_ix ix_tup (pv 1) pe_int (fun _ _ => rfl)) (pa_cons (pe_star (pv 2) (pe_ix ix_tup (pv 1) pe_int (fun _ _ => rfl)) (pv 3)) pa_nil))) pa_nil))) pa_nil)))))), ?_⟩
  obtain ⟨dx, ht⟩ := T0.ins
  refine ⟨_, rfl, tl, dx, _, rfl, ht, no_new _ _ _, tl, S, Fl, _, rfl, T0, by show n + 1 ≤ _; omega, fun H1 g1 T1 => ?_⟩
  have k1 := T0.kp g1
  have hp := k1.tups _ _ hp0
  have ta := ta0.mono k1.tups
  have tb := tb0.mono k1.tups
  have hE := hE0.mono k1
  obtain ⟨dx1, ht1⟩ := T1.ins
  refine ⟨_, rfl, tl, dx1, _, rfl, ht1, no_make_of _ _ _, _, rfl, sz 2, fun hd nhd => ?_⟩
  have s1 := same_new nhd (.tup [.str "let", .str (vN (n + 1))])
  have hhd : upd H1 hd (.tup [.str "let", .str (vN (n + 1))]) hd = some (.tup [.str "let", .str (vN (n + 1))]) := upd_same
  generalize upd H1 hd (.tup [.str "let", .str (vN (n + 1))]) = H2 at s1 hhd ⊢
  refine ⟨_, rfl, p, _, _, _, rfl, rfl, SqT.of (s1 _ _ hp), atI_n (n := 2) rfl rfl, _, rfl, sz 2, fun r1 nr1 => ?_⟩
  obtain ⟨s2, pa⟩ := mkPart (CP := CP) (t := a) (E := Ev) (a := v1) (e := e) (H := H2) ⟨e, c, ta.mono (.of_same s1), rfl, hE.mono (.of_same s1), by omega⟩ nr1
  generalize upd H2 r1 (.tup [v1, .ref e]) = H3 at s2 pa ⊢
  have s3 := s1.trans s2
  have hE3 := hE.mono (.of_same s3)
  obtain ⟨kvs, he, hl, hy⟩ := id hE3
  refine ⟨_, rfl, p, _, _, _, rfl, rfl, SqT.of (s3 _ _ hp), atI_n (n := 3) rfl rfl, fun pn np => ?_⟩
  refine ⟨_, rfl, e, kvs, rfl, (ne_of_none he np).symm, (by rw [upd_ne (ne_of_none he np)]; exact he), upd_same, szK (by omega), fun qn nq => ?_⟩
  obtain ⟨old, atp, s4, E4⟩ := star_same (x := x) (v := .nm (vN (n + 1))) (u := .str (vN (n + 1))) he hE3 (.nm _) np nq
  refine ⟨_, rfl, p, _, _, _, rfl, rfl, SqT.of (old _ _ (s3 _ _ hp)), atI_n (n := 1) rfl rfl, _, rfl, atp, upd_same, Sum.inr x, rfl, ?_⟩
  generalize upd (upd (upd (upd (upd H3 pn (.dK [])) pn (.dK kvs)) qn (.dK [])) qn (.dK [(Sum.inr x, .str (vN (n + 1)))])) pn (.dK (putK kvs (.inr x) (.str (vN (n + 1))))) = H4 at s4 E4 ⊢
  have s5 := s3.trans s4
  refine ⟨sz 2, fun r2 nr2 => ?_⟩
  obtain ⟨s6, pb⟩ := mkPart (CP := CP) (t := b) (E := Ev.set x (.nm (vN (n + 1)))) (a := v2) (e := pn) (H := H4) ⟨pn, c + 1, tb.mono (.of_same s5), rfl, E4, by omega⟩ nr2
  generalize upd H4 r2 (.tup [v2, .ref pn]) = H5 at s6 pb ⊢
  refine ⟨sz 2, fun l nl => ?_⟩
  have s7 := same_new nl (.lst [.ref r1, .ref r2])
  have s8 := s5.trans (s6.trans s7)
  have T8 := T1.same s8
  have nl1 : H1 l = none := (s5.trans s6).free nl
  obtain ⟨ss, hS, _⟩ := T1.steps
  obtain ⟨fs, hF, _⟩ := T1.found
  refine ⟨tl, S, Fl, .letx (vN (n + 1)) a b, [(a, Ev), (b, Ev.set x (.nm (vN (n + 1))))], Ks, Fs, n + 1, hd, l, _, rfl, ?_, upd_same, (ne_of_none hS nl1).symm, (ne_of_none hF nl1).symm, ⟨pa.same (s4.trans (s6.trans s7)), pb.same s7, True.intro⟩, rfl, ?_, T8, by omega, fun H9 g9 T9 => q _ (g1.trans ((Frm.of_same s8).trans g9)) T9⟩
  · exact s7 _ _ (s6 _ _ (s4 _ _ (s2 _ _ hhd)))
  · intro qq hqq
    simp only [List.mem_cons, List.not_mem_nil, or_false] at hqq
    rcases hqq with rfl | rfl
    · exact gd (.make a Ev) (.head _)
    · exact gd (.make b _) (.tail _ (.head _))
theorem ok_make_turns (F : Fun K "make_turns" "make_turns" s_make_turns f fd) (T : Txt mg) (TC_Telling : TcT K CT) (C_new_name : CalM P w K mg base CT "new_name" ["self"] 1 (spNewName CT CP FA) f1 fd1)
    (C_make_of : CalM P w K mg base CT "make_of" ["self", "head", "parts"] 3 (spMakeOf CT CP FA) f2 fd2) : FnOk P w K mg base CX0 4 f fd ["telling", "term", "names"] (spStp CT CP CG FA (.m .turns)) := by
  refine F.ok sc_make_turns (fun vs H Q E h => ?_) (fun cdv A outer s H vs Q E hr h => ?_)
  · obtain ⟨tl, S, Fl, s, K, F, n, a, b, rfl, _⟩ := h
    rfl
  obtain ⟨tl, S, Fl, s, Ks, Fs, n, a, b, rfl, hc, ha, T0, hf, hq⟩ := h
  obtain ⟨t, Ev, rfl, hw⟩ := code_m hc
  obtain ⟨m, x, a, b, rfl⟩ := w_turns hw
  rcases hq with ⟨c', st, gd, q⟩ | ⟨hb, _⟩
  rotate_left
  · cases hb
  cases st
  have hk : Ks.length + 1 ≤ 100000 := hf.k
  have hn : n < NB := hf.n
  obtain ⟨e, c, ⟨p, v1, v2, rfl, hp0, ta0, tb0⟩, rfl, hE0, hz⟩ := ha
  simp only [Tm.deep] at hz
  refine ⟨_, (pss_cons (ps_set (i := 3) sc_make_turns.nd rfl (Or.inl rfl) (pe_meth0 (pv 0) TC_Telling.cl C_new_name.m C_new_name.ok (hr.mono (by first | decide | omega)) C_new_name.b .nil pass0))
      (pss_one (ps_expr (pe_meth (pv 0) TC_Telling.cl C_make_of.m C_make_of.ok (hr.mono (by first | decide | omega)) C_make_of.b .nil pass0 (pa_cons (pe_tup (pa_cons pe_str (pa_cons (pe_ix ix_tup (pv 1) pe_int (fun _ _ => rfl)) (pa_cons (pv 3) pa_nil)))) (pa_cons (pe_lst (pa_cons (pe_tup (pa_cons (pe_ix ix_tup (pv 1) pe_int (fun _ _ => rfl)) (pa_cons (pv 2) pa_nil))) (pa_cons (pe_tup (pa_cons (pe_ix ix_tup (pv 1) pe_int (fun _ _ => rfl)) (pa_cons (pe_star (pv 2) (pe_ix ix_tup (pv 1) pe_int (fun _ _ => rfl)) (pv 3)) pa_nil))) pa_nil))) pa_nil)))))), ?_⟩
  obtain ⟨dx, ht⟩ := T0.ins
  refine ⟨_, rfl, tl, dx, _, rfl, ht, no_new _ _ _, tl, S, Fl, _, rfl, T0, by show n + 1 ≤ _; omega, fun H1 g1 T1 => ?_⟩
  have k1 := T0.kp g1
  have hp := k1.tups _ _ hp0
  have ta := ta0.mono k1.tups
  have tb := tb0.mono k1.tups
  have hE := hE0.mono k1
  obtain ⟨dx1, ht1⟩ := T1.ins
  refine ⟨_, rfl, tl, dx1, _, rfl, ht1, no_make_of _ _ _, _, rfl, p, _, _, _, rfl, rfl, SqT.of hp, atI_n (n := 1) rfl rfl, _, rfl, sz 3, fun hd nhd => ?_⟩
  have s1 := same_new nhd (.tup [.str "turns", .int m, .str (vN (n + 1))])
  have hhd : upd H1 hd (.tup [.str "turns", .int m, .str (vN (n + 1))]) hd = some (.tup [.str "turns", .int m, .str (vN (n + 1))]) := upd_same
  generalize upd H1 hd (.tup [.str "turns", .int m, .str (vN (n + 1))]) = H2 at s1 hhd ⊢
  refine ⟨_, rfl, p, _, _, _, rfl, rfl, SqT.of (s1 _ _ hp), atI_n (n := 3) rfl rfl, _, rfl, sz 2, fun r1 nr1 => ?_⟩
  obtain ⟨s2, pa⟩ := mkPart (CP := CP) (t := a) (E := Ev) (a := v1) (e := e) (H := H2) ⟨e, c, ta.mono (.of_same s1), rfl, hE.mono (.of_same s1), by omega⟩ nr1
  generalize upd H2 r1 (.tup [v1, .ref e]) = H3 at s2 pa ⊢
  have s3 := s1.trans s2
  have hE3 := hE.mono (.of_same s3)
  obtain ⟨kvs, he, hl, hy⟩ := id hE3
  refine ⟨_, rfl, p, _, _, _, rfl, rfl, SqT.of (s3 _ _ hp), atI_n (n := 4) rfl rfl, fun pn np => ?_⟩
  refine ⟨_, rfl, e, kvs, rfl, (ne_of_none he np).symm, (by rw [upd_ne (ne_of_none he np)]; exact he), upd_same, szK (by omega), fun qn nq => ?_⟩
  obtain ⟨old, atp, s4, E4⟩ := star_same (x := x) (v := .nm (vN (n + 1))) (u := .str (vN (n + 1))) he hE3 (.nm _) np nq
  refine ⟨_, rfl, p, _, _, _, rfl, rfl, SqT.of (old _ _ (s3 _ _ hp)), atI_n (n := 2) rfl rfl, _, rfl, atp, upd_same, Sum.inr x, rfl, ?_⟩
  generalize upd (upd (upd (upd (upd H3 pn (.dK [])) pn (.dK kvs)) qn (.dK [])) qn (.dK [(Sum.inr x, .str (vN (n + 1)))])) pn (.dK (putK kvs (.inr x) (.str (vN (n + 1))))) = H4 at s4 E4 ⊢
  have s5 := s3.trans s4
  refine ⟨sz 2, fun r2 nr2 => ?_⟩
  obtain ⟨s6, pb⟩ := mkPart (CP := CP) (t := b) (E := Ev.set x (.nm (vN (n + 1)))) (a := v2) (e := pn) (H := H4) ⟨pn, c + 1, tb.mono (.of_same s5), rfl, E4, by omega⟩ nr2
  generalize upd H4 r2 (.tup [v2, .ref pn]) = H5 at s6 pb ⊢
  refine ⟨sz 2, fun l nl => ?_⟩
  have s7 := same_new nl (.lst [.ref r1, .ref r2])
  have s8 := s5.trans (s6.trans s7)
  have T8 := T1.same s8
  have nl1 : H1 l = none := (s5.trans s6).free nl
  obtain ⟨ss, hS, _⟩ := T1.steps
  obtain ⟨fs, hF, _⟩ := T1.found
  refine ⟨tl, S, Fl, .turns m (vN (n + 1)) a b, [(a, Ev), (b, Ev.set x (.nm (vN (n + 1))))], Ks, Fs, n + 1, hd, l, _, rfl, ?_, upd_same, (ne_of_none hS nl1).symm, (ne_of_none hF nl1).symm, ⟨pa.same (s4.trans (s6.trans s7)), pb.same s7, True.intro⟩, rfl, ?_, T8, by omega, fun H9 g9 T9 => q _ (g1.trans ((Frm.of_same s8).trans g9)) T9⟩
  · exact s7 _ _ (s6 _ _ (s4 _ _ (s2 _ _ hhd)))
  · intro qq hqq
    simp only [List.mem_cons, List.not_mem_nil, or_false] at hqq
    rcases hqq with rfl | rfl
    · exact gd (.make a Ev) (.head _)
    · exact gd (.make b _) (.tail _ (.head _))
theorem ok_make_def (F : Fun K "make_def" "make_def" s_make_def f fd) (T : Txt mg) (TC_Telling : TcT K CT) (C_new_name : CalM P w K mg base CT "new_name" ["self"] 1 (spNewName CT CP FA) f1 fd1)
    (C_make_of : CalM P w K mg base CT "make_of" ["self", "head", "parts"] 3 (spMakeOf CT CP FA) f2 fd2) : FnOk P w K mg base CX0 4 f fd ["telling", "term", "names"] (spStp CT CP CG FA (.m .def)) := by
  refine F.ok sc_make_def (fun vs H Q E h => ?_) (fun cdv A outer s H vs Q E hr h => ?_)
  · obtain ⟨tl, S, Fl, s, K, F, n, a, b, rfl, _⟩ := h
    rfl
  obtain ⟨tl, S, Fl, s, Ks, Fs, n, a, b, rfl, hc, ha, T0, hf, hq⟩ := h
  obtain ⟨t, Ev, rfl, hw⟩ := code_m hc
  obtain ⟨g, x, k, a, b, rfl⟩ := w_def hw
  rcases hq with ⟨c', st, gd, q⟩ | ⟨hb, _⟩
  rotate_left
  · cases hb
  cases st
  have hk : Ks.length + 1 ≤ 100000 := hf.k
  have hn : n < NB := hf.n
  obtain ⟨e, c, ⟨p, v1, v2, rfl, hp0, ta0, tb0⟩, rfl, hE0, hz⟩ := ha
  simp only [Tm.deep] at hz
  refine ⟨_, (pss_cons (ps_set (i := 3) sc_make_def.nd rfl (Or.inl rfl) (pe_meth0 (pv 0) TC_Telling.cl C_new_name.m C_new_name.ok (hr.mono (by first | decide | omega)) C_new_name.b .nil pass0))
      (pss_cons (ps_set (i := 4) sc_make_def.nd rfl (Or.inl rfl) (pe_meth0 (pv 0) TC_Telling.cl C_new_name.m C_new_name.ok (hr.mono (by first | decide | omega)) C_new_name.b .nil pass0))
      (pss_cons (ps_set (i := 5) sc_make_def.nd rfl (Or.inl rfl) (pe_lst (pa_cons (pe_tup (pa_cons (pe_ix ix_tup (pv 1) pe_int (fun _ _ => rfl)) (pa_cons (pe_star (pv 2) (pe_ix ix_tup (pv 1) pe_int (fun _ _ => rfl)) (pv 4)) pa_nil))) (pa_cons (pe_tup (pa_cons (pe_ix ix_tup (pv 1) pe_int (fun _ _ => rfl)) (pa_cons (pe_star (pv 2) (pe_ix ix_tup (pv 1) pe_int (fun _ _ => rfl)) (pv 3)) pa_nil))) pa_nil))))
      (pss_one (ps_expr (pe_meth (pv 0) TC_Telling.cl C_make_of.m C_make_of.ok (hr.mono (by first | decide | omega)) C_make_of.b .nil pass0 (pa_cons (pe_tup (pa_cons pe_str (pa_cons (pv 3) (pa_cons (pv 4) (pa_cons (pe_ix ix_tup (pv 1) pe_int (fun _ _ => rfl)) pa_nil))))) (pa_cons (pv 5) pa_nil)))))))), ?_⟩
  obtain ⟨dx, ht⟩ := T0.ins
  refine ⟨_, rfl, tl, dx, _, rfl, ht, no_new _ _ _, tl, S, Fl, _, rfl, T0, by show n + 1 ≤ _; omega, fun H0 g0 T00 => ?_⟩
  obtain ⟨dx0, ht0⟩ := T00.ins
  refine ⟨_, rfl, tl, dx0, _, rfl, ht0, no_new _ _ _, tl, S, Fl, _, rfl, T00, by show n + 1 + 1 ≤ _; omega, fun H1 g01 T1 => ?_⟩
  have g1 := g0.trans g01
  have k1 := T0.kp g1
  have hp := k1.tups _ _ hp0
  have ta := ta0.mono k1.tups
  have tb := tb0.mono k1.tups
  have hE := hE0.mono k1
  obtain ⟨dx1, ht1⟩ := T1.ins
  obtain ⟨kvs, he, hl, hy⟩ := id hE
  refine ⟨_, rfl, p, _, _, _, rfl, rfl, SqT.of hp, atI_n (n := 4) rfl rfl, fun pn np => ?_⟩
  refine ⟨_, rfl, e, kvs, rfl, (ne_of_none he np).symm, (by rw [upd_ne (ne_of_none he np)]; exact he), upd_same, szK (by omega), fun qn nq => ?_⟩
  obtain ⟨old, atp, s1, E1⟩ := star_same (x := x) (v := .nm (vN (n + 2))) (u := .str (vN (n + 2))) he hE (.nm _) np nq
  refine ⟨_, rfl, p, _, _, _, rfl, rfl, SqT.of (old _ _ hp), atI_n (n := 2) rfl rfl, _, rfl, atp, upd_same, Sum.inr x, rfl, ?_⟩
  generalize upd (upd (upd (upd (upd H1 pn (.dK [])) pn (.dK kvs)) qn (.dK [])) qn (.dK [(Sum.inr x, .str (vN (n + 2)))])) pn (.dK (putK kvs (.inr x) (.str (vN (n + 2))))) = H2 at s1 E1 ⊢
  refine ⟨sz 2, fun r1 nr1 => ?_⟩
  obtain ⟨s2, pa⟩ := mkPart (CP := CP) (t := a) (E := Ev.set x (.nm (vN (n + 2)))) (a := v1) (e := pn) (H := H2) ⟨pn, c + 1, ta.mono (.of_same s1), rfl, E1, by omega⟩ nr1
  generalize upd H2 r1 (.tup [v1, .ref pn]) = H3 at s2 pa ⊢
  have s3 := s1.trans s2
  have hE3 := hE.mono (.of_same s3)
  obtain ⟨kvs3, he3, hl3, hy3⟩ := id hE3
  refine ⟨_, rfl, p, _, _, _, rfl, rfl, SqT.of (s3 _ _ hp), atI_n (n := 5) rfl rfl, fun pm nm => ?_⟩
  refine ⟨_, rfl, e, kvs3, rfl, (ne_of_none he3 nm).symm, (by rw [upd_ne (ne_of_none he3 nm)]; exact he3), upd_same, szK (by omega), fun qm nqm => ?_⟩
  obtain ⟨old4, atp4, s4, E4⟩ := star_same (x := g) (v := .nm (vN (n + 1))) (u := .str (vN (n + 1))) he3 hE3 (.nm _) nm nqm
  refine ⟨_, rfl, p, _, _, _, rfl, rfl, SqT.of (old4 _ _ (s3 _ _ hp)), atI_n (n := 1) rfl rfl, _, rfl, atp4, upd_same, Sum.inr g, rfl, ?_⟩
  generalize upd (upd (upd (upd (upd H3 pm (.dK [])) pm (.dK kvs3)) qm (.dK [])) qm (.dK [(Sum.inr g, .str (vN (n + 1)))])) pm (.dK (putK kvs3 (.inr g) (.str (vN (n + 1))))) = H4 at s4 E4 ⊢
  have s5 := s3.trans s4
  refine ⟨sz 2, fun r2 nr2 => ?_⟩
  obtain ⟨s6, pb⟩ := mkPart (CP := CP) (t := b) (E := Ev.set g (.nm (vN (n + 1)))) (a := v2) (e := pm) (H := H4) ⟨pm, c + 1, tb.mono (.of_same s5), rfl, E4, by omega⟩ nr2
  generalize upd H4 r2 (.tup [v2, .ref pm]) = H5 at s6 pb ⊢
  refine ⟨sz 2, fun l nl => ?_⟩
  have s7 := same_new nl (.lst [.ref r1, .ref r2])
  have s8 := s5.trans (s6.trans s7)
  have hl8 : upd H5 l (.lst [.ref r1, .ref r2]) l = some (.lst [.ref r1, .ref r2]) := upd_same
  have nl1 : H1 l = none := (s5.trans s6).free nl
  generalize upd H5 l (.lst [.ref r1, .ref r2]) = H6 at s7 s8 hl8 ⊢
  have T8 := T1.same s8
  obtain ⟨dx8, ht8⟩ := T8.ins
  refine ⟨_, rfl, tl, dx8, _, rfl, ht8, no_make_of _ _ _, _, rfl, _, rfl, _, rfl, p, _, _, _, rfl, rfl, SqT.of (s8 _ _ hp), atI_n (n := 3) rfl rfl, sz 4, fun hd nhd => ?_⟩
  have s9 := same_new nhd (.tup [.str "def", .str (vN (n + 1)), .str (vN (n + 2)), .str (kindS k)])
  have s10 := s8.trans s9
  obtain ⟨ss, hS, _⟩ := T1.steps
  obtain ⟨fs, hF, _⟩ := T1.found
  refine ⟨_, rfl, tl, S, Fl, .deff (vN (n + 1)) (vN (n + 2)) k a b, [(a, Ev.set x (.nm (vN (n + 2)))), (b, Ev.set g (.nm (vN (n + 1))))], Ks, Fs, n + 2, hd, l, _, rfl, upd_same, s9 _ _ hl8, (ne_of_none hS nl1).symm, (ne_of_none hF nl1).symm, ⟨pa.same (s4.trans (s6.trans (s7.trans s9))), pb.same (s7.trans s9), True.intro⟩, rfl, ?_, T8.same s9, by omega, fun H9 g9 T9 => q _ (g1.trans ((Frm.of_same s10).trans g9)) T9⟩
  intro qq hqq
  simp only [List.mem_cons, List.not_mem_nil, or_false] at hqq
  rcases hqq with rfl | rfl
  · exact gd (.make a _) (.head _)
  · exact gd (.make b _) (.tail _ (.head _))
theorem ok_make_use (F : Fun K "make_use" "make_use" s_make_use f fd) (T : Txt mg) (TC_Telling : TcT K CT)
    (C_make_of : CalM P w K mg base CT "make_of" ["self", "head", "parts"] 3 (spMakeOf CT CP FA) f2 fd2) : FnOk P w K mg base CX0 4 f fd ["telling", "term", "names"] (spStp CT CP CG FA (.m .use)) := by
  refine F.ok sc_make_use (fun vs H Q E h => ?_) (fun cdv A outer s H vs Q E hr h => ?_)
  · obtain ⟨tl, S, Fl, s, K, F, n, a, b, rfl, _⟩ := h
    rfl
  obtain ⟨tl, S, Fl, s, Ks, Fs, n, a, b, rfl, hc, ha, T0, hf, hq⟩ := h
  obtain ⟨t, Ev, rfl, hw⟩ := code_m hc
  obtain ⟨g, a, rfl⟩ := w_use hw
  rcases hq with ⟨c', st, gd, q⟩ | ⟨hb, _⟩
  rotate_left
  · cases hb
  cases st with
  | muse hx =>
  rename_i z
  have hk : Ks.length + 1 ≤ 100000 := hf.k
  obtain ⟨e, c, ⟨p, v1, rfl, hp, ta⟩, rfl, hE, hz⟩ := ha
  simp only [Tm.deep] at hz
  refine ⟨_, (pss_one (ps_expr (pe_meth (pv 0) TC_Telling.cl C_make_of.m C_make_of.ok (hr.mono (by first | decide | omega)) C_make_of.b .nil pass0 (pa_cons (pe_tup (pa_cons pe_str (pa_cons (pe_dget (hu_of hr) (pv 2) (pe_ix ix_tup (pv 1) pe_int (fun _ _ => rfl)) (fun _ _ => rfl)) pa_nil))) (pa_cons (pe_lst (pa_cons (pe_tup (pa_cons (pe_ix ix_tup (pv 1) pe_int (fun _ _ => rfl)) (pa_cons (pv 2) pa_nil))) pa_nil)) pa_nil))))), ?_⟩
  obtain ⟨dx, ht⟩ := T0.ins
  obtain ⟨kvs, he, hl, hy⟩ := id hE
  obtain ⟨v, hv, ev⟩ := hy g (by rw [hx]; exact fun z => nomatch z)
  rw [hx] at ev
  cases ev
  refine ⟨_, rfl, tl, dx, _, rfl, ht, no_make_of _ _ _, _, rfl, _, rfl, p, _, _, _, rfl, rfl, SqT.of hp, atI_n (n := 1) rfl rfl, e, _, rfl, hv ▸ DGet.k (k := Sum.inr g) he, sz 2, fun hd nhd => ?_⟩
  have s1 := same_new nhd (.tup [.str "use", .str z])
  refine ⟨_, rfl, p, _, _, _, rfl, rfl, SqT.of (s1 _ _ hp), atI_n (n := 2) rfl rfl, _, rfl, sz 2, fun r1 nr1 => ?_⟩
  obtain ⟨s2, pa⟩ := mkPart (CP := CP) (t := a) (E := Ev) (a := v1) (e := e) (H := upd H hd (.tup [.str "use", .str z])) ⟨e, c, ta.mono (.of_same s1), rfl, hE.mono (.of_same s1), by omega⟩ nr1
  refine ⟨sz 1, fun l nl => ?_⟩
  have s7 := same_new nl (.lst [.ref r1])
  have s8 := s1.trans (s2.trans s7)
  have nl1 : H l = none := (s1.trans s2).free nl
  obtain ⟨ss, hS, _⟩ := T0.steps
  obtain ⟨fs, hF, _⟩ := T0.found
  refine ⟨tl, S, Fl, .use z a, [(a, Ev)], Ks, Fs, n, hd, l, _, rfl, s7 _ _ (s2 _ _ upd_same), upd_same, (ne_of_none hS nl1).symm, (ne_of_none hF nl1).symm, ⟨pa.same s7, True.intro⟩, rfl, ?_, T0.same s8, by omega, fun H9 g9 T9 => q _ ((Frm.of_same s8).trans g9) T9⟩
  intro qq hqq
  rw [List.mem_singleton.mp hqq]
  exact gd (.make a _) (.head _)
end

/-! ### put together; the whole telling -/
theorem FnOk.weak {P : Program} {w : World} {K : PySem.W.Frag} {mg : Str → Option Value} {base : Heap} {CX : CXT} {k : Nat} {f : Addr} {fd : FuncData} {ps : List Str} {sp sp' : Sp} (F : FnOk P w K mg base CX k f fd ps sp) (h : ∀ vs H Q E, sp' vs H Q E → sp vs H Q E) :
    FnOk P w K mg base CX k f fd ps sp' := ⟨fun vs H Q E q => F.len vs H Q E (h _ _ _ _ q), fun A outer s H args us vs Q E hr e b v q => F.run A outer s H args us vs Q E hr e b v (h _ _ _ _ q)⟩
structure HeldX (P : Program) (w : World) (K : PySem.W.Frag) (mg : Str → Option Value) (base : Heap) (k : Nat) (f : Addr) (sp : Sp) : Prop where
  ex : ∃ (fd : FuncData) (ps : List Str) (C : CXT), FnOk P w K mg base C k f fd ps sp ∧ PySem.W.keepIn K (.ref f) = true ∧ Binds K fd ps [] ∧ (C = CX0 ∨ C = L2.CX P w)
def tCallH (P : Program) (w : World) (K : PySem.W.Frag) (mg : Str → Option Value) (base : Heap) (k i : Nat) (E : XK) (t : TA) : TE := fun σ H Q => ∃ f sp, σ[i]? = some (some (.ref f)) ∧ HeldX P w K mg base k f sp ∧ t σ H fun vs H1 => sp vs H1 Q E
theorem pe_callH {X : Cx} {k i : Nat} {E : XK} {x : Str} {p pos : Pos} {e : Expr} {es : List Expr} {t : TA} (hr : Room k X.A) (hx : Passes (L2.CX X.prog X.w) X E) (hN : X.N[i]? = some x) (hv : Vis X.env.scope x) (ha : PA X (e :: es) t)
    (hdb : (x == ("__debug__" : Str)) = false := by decide) (hcd : (x == ("__classdict__" : Str)) = false := by decide)
    (he : starEach (e :: es) X.env = (false, eval e X.env) :: starEach es X.env := by rfl) (hpl : (backTo pos (starEach es X.env)).any (·.1) = false := by rfl) : PE X (.Call (.Name x p) (e :: es) [] pos) (tCallH X.prog X.w X.K X.mg X.base k i E t) := by
  refine ⟨fun pins s σ H Q I h => ?_⟩
  obtain ⟨f, sp, hs, ⟨⟨fd, ps, C, F, hk, hb, hC⟩⟩, ht⟩ := h
  have hx' : Passes C X E := by
    rcases hC with rfl | rfl
    · exact fun _ _ _ _ _ _ _ z => z.elim
    · exact hx
  refine (pe_callL (i := i) (f := f) (sp := sp) (dvs := []) (E := E) F hr hN hv hk hb .nil hx' ha hdb hcd he hpl).run pins s σ H Q I ⟨hs, ?_⟩
  have e0 : (fun (vs : List V) (H1 : Hp) => sp (vs ++ []) H1 Q E) = fun vs H1 => sp vs H1 Q E := by
    funext vs H1
    rw [List.append_nil]
  show t σ H (fun vs H1 => sp (vs ++ []) H1 Q E)
  rw [e0]
  exact ht
theorem sum_sizes : ∀ ps : List Tm, (ps.map fun t => (t.size : Int)).sum = ((sizes ps : Nat) : Int)
  | [] => rfl
  | t :: r => by
    rw [List.map_cons, List.sum_cons, sum_sizes r]
    show (t.size : Int) + (sizes r : Int) = ((t.size + sizes r : Nat) : Int)
    omega
theorem Tm.deep_parts {t : Tm} (h : t.parts ≠ []) : ∃ u ∈ t.parts, t.deep = 1 + u.deep := by
  have m2 : ∀ x y : Tm, ∃ u ∈ [x, y], 1 + max x.deep y.deep = 1 + u.deep := fun x y => by
    by_cases c : x.deep ≤ y.deep
    · exact ⟨y, by simp, by rw [Nat.max_eq_right c]⟩
    · exact ⟨x, by simp, by rw [Nat.max_eq_left (by omega)]⟩
  cases t with
  | num n => exact absurd rfl h
  | name n => exact absurd rfl h
  | bin o a b => exact m2 a b
  | cond c a b =>
    obtain ⟨u, hu, e⟩ := m2 a b
    have e' : max a.deep b.deep = u.deep := by omega
    by_cases z : c.deep ≤ u.deep
    · exact ⟨u, List.mem_cons_of_mem _ hu, by simp only [Tm.deep]; rw [e', Nat.max_eq_right z]⟩
    · exact ⟨c, List.mem_cons_self, by simp only [Tm.deep]; rw [e', Nat.max_eq_left (by omega)]⟩
  | letx x a b => exact m2 a b
  | turns n x a b => exact m2 a b
  | deff f x k a b => exact m2 a b
  | use f a => exact ⟨a, List.mem_singleton.mpr rfl, rfl⟩
  | un o a => exact ⟨a, List.mem_singleton.mpr rfl, rfl⟩
def spValueOf (CT CP CG : Addr) (FA : Sf → Addr) : Sp := fun vs H Q E => ∃ (tl S Fl : Addr) (t : Tm) (tv : V) (r : Option (List EV × Nat)), vs = [.ref tl, tv] ∧ TelAt CT CP FA H tl S Fl ⟨[], [], 0⟩ ∧ TmAt H t tv ∧ t.deep ≤ 900 ∧ EndsE ⟨[.tell t .nil], [], 0⟩ r ∧
  (∀ v F n, r = some (v :: F, n) → ∀ u H', Frm tl S Fl H H' → EVAt CP H' v u → Q u H') ∧ (∀ n, r ≠ some ([], n)) ∧ (r = none → ∀ H', Frm tl S Fl H H' → E (.ref CG) none H')
abbrev s_Telling_value_of : Stmt := inClass (topS 45) 1
theorem sc_Telling_value_of : FnScope ["self", "term", "step", "about", "names"] ["self", "term"] (defScope s_Telling_value_of) := ⟨rfl, rfl, rfl, by decide +kernel, rfl, by decide +kernel, by decide +kernel⟩
section
variable {P : Program} {w : World} {K : PySem.W.Frag} {mg : Str → Option Value} {base : Heap} {CT CP CG DT DM : Addr} {FA : Sf → Addr} {f f1 f2 f3 f4 f5 f6 f7 f8 : Addr} {fd fd1 fd2 fd3 fd4 fd5 fd6 fd7 fd8 : FuncData}
theorem ok_put (F : Fun K "put_together" "put_together" s_put_together f fd) (T : Txt mg) (TC_Telling : TcT K CT) (TC_Piece : TcP K CP) (MK_Piece : CalC P w K mg base "Piece" CP ["self", "term", "size", "depth"] 1 (spPcInit CP) f1 fd1) : FnOk P w K mg base CX0 3 f fd ["telling", "head", "many"] (spStp CT CP CG FA .put) := by
  refine F.ok sc_put_together (fun vs H Q E h => ?_) (fun cdv A outer s H vs Q E hr h => ?_)
  · obtain ⟨tl, S, Fl, s, K, F, n, a, b, rfl, _⟩ := h
    rfl
  obtain ⟨tl, S, Fl, s, Ks, Fs, n, a, b, rfl, hc, ha, T0, hf, hq⟩ := h
  rcases hq with ⟨c', st, gd, q⟩ | ⟨hb, _⟩
  rotate_left
  · cases hb; cases hc
  generalize hFs : Fs = Fs0 at st T0 hf
  cases st <;> try cases hc
  rename_i t ps F' hpl hpn
  obtain ⟨ph, rfl, hph, rfl⟩ := ha
  refine ⟨_, (pss_cons (ps_set (i := 3) sc_put_together.nd rfl (Or.inl rfl) (pe_op op_sub (pe_callB call_len_seq (by rfl) T.len PySem.boot_len (pa_cons (pe_fld (pv 0) rfl) pa_nil)) (pv 2)))
      (pss_cons (ps_set (i := 4) sc_put_together.nd rfl (Or.inl rfl) (pe_slice sl_list (pe_fld (pv 0) rfl) (po_some (pv 3)) po_none))
      (pss_cons (ps_cutFrom (pe_fld (pv 0) rfl) (pv 3))
      (pss_cons (ps_set (i := 5) sc_put_together.nd rfl (Or.inl rfl) (pe_op op_add pe_int (pe_callB (cr_sum rfl) (by rfl) T.sum (by decide +kernel) (pa_cons (pe_lc (own := [("part", 8)]) (g := (gName 8)) (tt := tYes) (te := tFld K (tVar 8) "size") (by rfl) sc_put_together.nd (pi_list (pv 4)) (blkOk_by (own := [("part", 8)]) (N := ["telling", "head", "many", "start", "parts", "size", "depth", "terms", "part"]) (sc := defScope s_put_together) (by decide +kernel)) (fun _ _ _ _ _ => (pg_name (i := 8) sc_put_together.nd rfl (Or.inl rfl))) (fun _ _ _ _ _ => pts_nil) (fun _ _ _ _ _ => (pe_fld (pv 8) rfl))) pa_nil))))
      (pss_cons (ps_set (i := 6) sc_put_together.nd rfl (Or.inl rfl) (pe_op op_add pe_int (pe_callB (cr_max rfl) (by rfl) T.max (by decide +kernel) (pa_cons (pe_lc (own := [("part", 8)]) (g := (gName 8)) (tt := tYes) (te := tFld K (tVar 8) "depth") (by rfl) sc_put_together.nd (pi_list (pv 4)) (blkOk_by (own := [("part", 8)]) (N := ["telling", "head", "many", "start", "parts", "size", "depth", "terms", "part"]) (sc := defScope s_put_together) (by decide +kernel)) (fun _ _ _ _ _ => (pg_name (i := 8) sc_put_together.nd rfl (Or.inl rfl))) (fun _ _ _ _ _ => pts_nil) (fun _ _ _ _ _ => (pe_fld (pv 8) rfl))) pa_nil))))
      (pss_cons (ps_setLc (i := 7) (own := [("part", 8)]) (g := (gName 8)) (tt := tYes) (te := tFld K (tVar 8) "term") (by rfl) sc_put_together.nd rfl rfl (sw_true rfl rfl rfl (by decide +kernel)) (pi_list (pv 4)) (blkOk_by (own := [("part", 8)]) (N := ["telling", "head", "many", "start", "parts", "size", "depth", "terms", "part"]) (sc := defScope s_put_together) (by decide +kernel)) (fun _ _ _ _ _ => (pg_name (i := 8) sc_put_together.nd rfl (Or.inl rfl))) (fun _ _ _ _ _ => pts_nil) (fun _ _ _ _ _ => (pe_fld (pv 8) rfl)))
      (pss_one (ps_expr (pe_bm PySem.F.plainAttrs_list PySem.F.slot_list_append PySem.F.type_list_append mt_append (pe_fld (pv 0) rfl) (pa_cons (pe_make MK_Piece.mkr MK_Piece.ok (hr.mono (by first | decide | omega)) rfl MK_Piece.m MK_Piece.b .nil pass0 (pa_cons (pe_tup (StX.pa_star (pv 1) (StX.pa_star (pv 7) pa_nil))) (pa_cons (pv 5) (pa_cons (pv 6) pa_nil)))) pa_nil)))))))))), ?_⟩
  obtain ⟨dx, ht⟩ := T0.ins
  obtain ⟨fs, hF, ef⟩ := T0.found
  obtain ⟨b1, b2, rfl, e1, e2⟩ := ef.split
  have e1r := e1.rev
  rw [List.reverse_reverse] at e1r
  have e1m := e1r.map
  have l1 : b1.length = ps.length := by have := e1m.len; rw [List.length_reverse] at this; exact this
  have l2 : b2.length = F'.length := e2.len
  have hfl : b2.length + b1.length ≤ 100000 := by
    have := hf.f
    simp only [List.length_append, List.length_reverse, List.length_map] at this
    omega
  have hrev : (b1 ++ b2).reverse = b2.reverse ++ b1.reverse := List.reverse_append
  rw [hrev] at hF
  have hlen : (b2.reverse ++ b1.reverse).length = b2.length + b1.length := by rw [List.length_append, List.length_reverse, List.length_reverse]
  generalize hus : b1.reverse = us at e1m hF hlen hrev
  have lus : us.length = ps.length := by rw [← hus, List.length_reverse, l1]
  -- start
  refine ⟨_, rfl, tl, CT, dx, _, _, rfl, ht, TC_Telling.cl, TC_Telling.nF, tlF_found _ _ _, Fl, _, rfl, .inl (SqL.of hF), _, rfl, _, _, rfl, rfl, ?_⟩
  have es : (((b2.reverse ++ us).length : Nat) : Int) - (t.parts.length : Int) = (b2.length : Int) := by rw [hlen, ← hpl, l1]; omega
  dsimp only
  rw [es]
  -- parts
  refine ⟨_, rfl, tl, CT, dx, _, _, rfl, ht, TC_Telling.cl, TC_Telling.nF, tlF_found _ _ _, _, rfl, _, rfl, ?_⟩
  unfold tNoPart
  refine ⟨Fl, _, rfl, SqL.of hF, fun pp npp => ?_⟩
  have ecut : cutV (b2.reverse ++ us) (some (b2.length : Int)) none = us := by
    unfold cutV
    rw [HT.sIx_nat, Nat.min_eq_left (by rw [hlen]; omega), List.drop_left' (by rw [List.length_reverse])]
    exact List.take_of_length_le (by show us.length ≤ (b2.reverse ++ us).length - b2.length; rw [hlen, lus, l1]; omega)
  rw [ecut]
  have s1 := same_new npp (.lst us)
  have hpp : upd H pp (.lst us) pp = some (.lst us) := upd_same
  have T1 := T0.same s1
  have hF1 := s1 _ _ hF
  have hph1 := s1 _ _ hph
  have npF : pp ≠ Fl := (ne_of_none hF npp).symm
  obtain ⟨dx1, ht1⟩ := T1.ins
  have e1m1 : Each (fun c b => EVAt CP (upd H pp (.lst us)) (EV.piece c) b) ps us := e1m.imp fun _ _ z => z.mono (.of_same s1)
  generalize upd H pp (.lst us) = H1 at s1 hpp T1 hF1 hph1 ht1 e1m1 ⊢
  -- del
  refine ⟨_, rfl, tl, CT, dx1, _, _, rfl, ht1, TC_Telling.cl, TC_Telling.nF, tlF_found _ _ _, _, rfl, Fl, _, b2.length, rfl, rfl, hF1, by rw [hlen]; omega, ?_⟩
  rw [List.take_left' (by rw [List.length_reverse])]
  have T2 : TelAt CT CP FA (upd H1 Fl (.lst b2.reverse)) tl S Fl ⟨Ks, F', n⟩ := by
    have k := T1.kp (H' := upd H1 Fl (.lst b2.reverse)) (.putF _)
    have n1 := T1.nS
    obtain ⟨⟨dx', h1⟩, ⟨ss, h2, h3⟩, _, hn, hc⟩ := T1
    exact ⟨⟨dx', by rw [upd_ne n1.2]; exact h1⟩, ⟨ss, by rw [upd_ne hn]; exact h2, h3.imp fun _ _ z => z.mono k⟩, ⟨b2, upd_same, e2.imp fun _ _ z => (z.mono (.of_same s1)).mono k⟩, hn, hc⟩
  have k2 := T1.kp (H' := upd H1 Fl (.lst b2.reverse)) (.putF _)
  have g2 : Frm tl S Fl H (upd H1 Fl (.lst b2.reverse)) := (Frm.of_same s1).trans (.putF _)
  have hpp2 : upd H1 Fl (.lst b2.reverse) pp = some (.lst us) := by rw [upd_ne npF]; exact hpp
  have hph2 := k2.tups _ _ hph1
  have em2 : Each (fun c b => EVAt CP (upd H1 Fl (.lst b2.reverse)) (EV.piece c) b) ps us := e1m1.imp fun _ _ z => z.mono k2
  generalize upd H1 Fl (.lst b2.reverse) = H2 at T2 g2 hpp2 hph2 em2 ⊢
  clear k2
  -- a comprehension over the parts
  have at_ : ∀ {H' : Hp}, Same H2 H' → ∀ {i : Nat} {x : V}, us[i]? = some x → ∃ u q d tv, ps[i]? = some u ∧ x = .ref q ∧ H' q = some (.ins CP d (pcF tv u)) ∧ TmAt H' u tv := fun {H'} g {i x} hi => by
    have key : ∀ (qs : List Tm) (vs : List V) (i : Nat), Each (fun c b => EVAt CP H2 (EV.piece c) b) qs vs → vs[i]? = some x → ∃ u, qs[i]? = some u ∧ EVAt CP H2 (.piece u) x := by
      intro qs
      induction qs with
      | nil => intro vs i h hx; rw [h.nilL] at hx; cases hx
      | cons z zs ih =>
        intro vs i h hx
        obtain ⟨b, bs, rfl, h1, h2⟩ := h.consL
        cases i with
        | zero => cases hx; exact ⟨z, rfl, h1⟩
        | succ i => exact ih bs i h2 hx
    obtain ⟨u, hu, ev⟩ := key ps us i em2 hi
    cases ev with
    | piece hq2 htm => exact ⟨u, _, _, _, hu, rfl, g _ _ hq2, htm.mono (.of_same g)⟩
  have ul : us.length ≤ 3 := by rw [lus, hpl]; exact t.len_parts
  refine ⟨_, rfl, pp, rfl, ⟨_, SqL.of hpp2⟩, fun D1 nD1 => ?_⟩
  refine lc_list (K := K) (a := pp) (xs := us) (fun i H' => Same H2 H' ∧ H' D1 = some (.lst (((ps.take i).map fun t => (t.size : Int)).map V.int))) ⟨same_new nD1 _, upd_same⟩ (fun i H' _ z => SqL.of (z.1 _ _ hpp2)) ?_ ?_
  · rintro i x H' hi ⟨g, hd'⟩
    obtain ⟨u, qd, d, tv, hu, rfl, hqd, _⟩ := at_ g hi
    refine ⟨rfl, _, rfl, qd, CP, d, _, _, rfl, hqd, TC_Piece.cl, TC_Piece.nS, pcF_size _ _, _, hd', small1000 (by rw [List.length_map, List.length_map, List.length_take]; have := (List.getElem?_eq_some_iff.mp hi).1; omega), fun b o z => ?_, ?_⟩
    · rw [upd_ne (ne_of_none z nD1)]
      exact g b o z
    · rw [upd_same, List.take_add_one, hu, List.map_append, List.map_append]
      rfl
  rintro H3 ⟨g3, hd3⟩
  rw [lus, List.take_length] at hd3
  refine ⟨D1, _, rfl, SqL.of hd3, _, _, rfl, rfl, ?_⟩
  dsimp only
  rw [sum_sizes]
  have hpp3 := g3 _ _ hpp2
  refine ⟨_, rfl, pp, rfl, ⟨_, SqL.of hpp3⟩, fun D2 nD2 => ?_⟩
  refine lc_list (K := K) (a := pp) (xs := us) (fun i H' => Same H3 H' ∧ H' D2 = some (.lst (((ps.take i).map fun t => (t.deep : Int)).map V.int))) ⟨same_new nD2 _, upd_same⟩ (fun i H' _ z => SqL.of (z.1 _ _ hpp3)) ?_ ?_
  · rintro i x H' hi ⟨g, hd'⟩
    obtain ⟨u, qd, d, tv, hu, rfl, hqd, _⟩ := at_ (g3.trans g) hi
    refine ⟨rfl, _, rfl, qd, CP, d, _, _, rfl, hqd, TC_Piece.cl, TC_Piece.nD, pcF_depth _ _, _, hd', small1000 (by rw [List.length_map, List.length_map, List.length_take]; have := (List.getElem?_eq_some_iff.mp hi).1; omega), fun b o z => ?_, ?_⟩
    · rw [upd_ne (ne_of_none z nD2)]
      exact g b o z
    · rw [upd_same, List.take_add_one, hu, List.map_append, List.map_append]
      rfl
  rintro H4 ⟨g4, hd4⟩
  rw [lus, List.take_length] at hd4
  refine ⟨D2, _, rfl, SqL.of hd4, by rw [List.length_map]; exact Nat.pos_of_ne_zero fun z => hpn (List.length_eq_zero_iff.mp z), fun mx hmx hall => ⟨_, _, rfl, rfl, ?_⟩⟩
  have edeep : (1 : Int) + mx = ((t.re ps).deep : Int) := by
    obtain ⟨u, hu, rfl⟩ := List.mem_map.mp hmx
    have hp' := Tm.re_parts hpl
    have b1 := Tm.part_deep8 (t := t.re ps) (u := u) (by rw [hp']; exact hu)
    obtain ⟨u1, hu1, e⟩ := Tm.deep_parts (t := t.re ps) (by rw [hp']; exact hpn)
    rw [hp'] at hu1
    have := hall _ (List.mem_map_of_mem hu1)
    omega
  have esize : (1 : Int) + ((sizes ps : Nat) : Int) = ((t.re ps).size : Int) := by
    rw [(t.re ps).size_parts, Tm.re_parts hpl]
    omega
  dsimp only
  rw [edeep, esize]
  have g34 := g3.trans g4
  have hpp4 := g34 _ _ hpp2
  refine ⟨_, rfl, pp, rfl, ⟨_, SqL.of hpp4⟩, fun D3 nD3 => ?_⟩
  refine lc_list (K := K) (a := pp) (xs := us) (fun i H' => Same H4 H' ∧ ∃ tvs, H' D3 = some (.lst tvs) ∧ TmsAt H' (ps.take i) tvs) ⟨same_new nD3 _, [], upd_same, by rw [List.take_zero]; exact True.intro⟩ (fun i H' _ z => SqL.of (z.1 _ _ hpp4)) ?_ ?_
  · rintro i x H' hi ⟨g, tvs, hd', htv⟩
    obtain ⟨u, qd, d, tv, hu, rfl, hqd, htu⟩ := at_ (g34.trans g) hi
    have tl := htv.len
    rw [List.length_take] at tl
    have s5 : Tups H' (upd H' D3 (.lst (tvs ++ [tv]))) := Tups.put hd'
    refine ⟨rfl, _, rfl, qd, CP, d, _, _, rfl, hqd, TC_Piece.cl, TC_Piece.nT, pcF_term _ _, _, hd', small1000 (by have := (List.getElem?_eq_some_iff.mp hi).1; omega), fun b o z => ?_, _, upd_same, ?_⟩
    · rw [upd_ne (ne_of_none z nD3)]
      exact g b o z
    · rw [List.take_add_one, hu]
      exact TmsAt.snoc (htu.mono s5) (htv.mono s5)
  rintro H5 ⟨g5, tvs, hd5, htv⟩
  rw [lus, List.take_length] at htv
  have g25 := g34.trans g5
  have T5 := T2.same g25
  obtain ⟨dx5, ht5⟩ := T5.ins
  obtain ⟨fs5, hF5, ef5⟩ := T5.found
  have tvl := htv.len
  refine ⟨_, rfl, tl, CT, dx5, _, _, rfl, ht5, TC_Telling.cl, TC_Telling.nF, tlF_found _ _ _, .inl ⟨rfl, _, SqL.of hF5⟩, ?_⟩
  have hdl : t.head.length ≤ 4 := by cases t <;> simp only [Tm.head, List.length_cons, List.length_nil] <;> omega
  have eh : (t.re ps).head = t.head := Tm.re_head hpl
  refine ⟨_, rfl, ph, _, rfl, .inl (SqT.of (g25 _ _ hph2)), _, rfl, D3, _, rfl, .inr (SqL.of hd5), sz _ ?_, fun pn npn => ?_⟩
  · rw [List.length_append, List.append_nil, tvl, hpl]
    have := t.len_parts
    omega
  rw [List.append_nil]
  have s6 := same_new npn (.tup (t.head ++ tvs))
  refine ⟨_, rfl, _, rfl, fun x d nx nd nxd => ⟨x, d, _, _, _, rfl, upd_same, fun H7 h1 h2 => ⟨rfl, ?_⟩⟩⟩
  have htm : TmAt (upd H5 pn (.tup (t.head ++ tvs))) (t.re ps) (.ref pn) := TmAt.close (vs := tvs) (by rw [eh]; exact upd_same) (by rw [Tm.re_parts hpl]; exact htv.mono (.of_same s6))
  obtain ⟨s7, ev⟩ := newPiece (t := t.re ps) nx nd h1 h2 htm
  have s67 := s6.trans s7
  have T7 := T5.same s67
  have hF7 := s67 _ _ hF5
  exact ⟨Fl, _, _, rfl, rfl, hF7, szK (by rw [T7.ltF hF7]; show F'.length ≤ _; omega), q _ (g2.trans ((Frm.of_same (g25.trans s67)).trans (.putF _))) (T7.pushF hF7 ev)⟩
theorem ok_value_of (F : Fun K "value_of" "Telling.value_of" s_Telling_value_of f fd) (T : Txt mg) (TC_Telling : TcT K CT) (C_tell : CalM P w K mg base CT "tell" ["self", "term", "names"] 2 (spTell CT CP FA) f2 fd2)
    (HA : ∀ s : Stp, s.Good → HeldX P w K mg base 4 (FA s.code) (spStp CT CP CG FA s.code)) : FnOk P w K mg base (L2.CX P w) 5 f fd ["self", "term"] (spValueOf CT CP CG FA) := by
  refine F.okX sc_Telling_value_of (fun vs H Q E h => ?_) (fun cdv A outer s H vs Q E hr h => ?_)
  · obtain ⟨tl, S, Fl, t, tv, r, rfl, _⟩ := h
    rfl
  obtain ⟨tl, S, Fl, t, tv, r, rfl, T0, ht, hd, ⟨m0, he⟩, q1, q2, q3⟩ := h
  refine ⟨_, (pss_cons (ps_expr (pe_meth (pv 0) TC_Telling.cl C_tell.m C_tell.ok (hr.mono (by first | decide | omega)) C_tell.b .nil pass0 (pa_cons (pv 1) (pa_cons pe_dnewK pa_nil))))
      (pss_cons (ps_while (passes_of rfl) (pt_truth (pe_fld (pv 0) rfl) (by intro _; rfl)) (pss_cons (ps_asg (pe_bm0 PySem.F.plainAttrs_list PySem.F.slot_list_pop PySem.F.type_list_pop mt_pop (pe_fld (pv 0) rfl)) (pg_tup rfl (pgs_cons (pg_name (i := 2) sc_Telling_value_of.nd rfl (Or.inl rfl)) (pgs_cons (pg_name (i := 3) sc_Telling_value_of.nd rfl (Or.inl rfl)) (pgs_cons (pg_name (i := 4) sc_Telling_value_of.nd rfl (Or.inl rfl)) pgs_nil)))))
      (pss_one (ps_expr (pe_callH (k := 4) (i := 2) (hr.mono (by first | decide | omega)) (passes_call (takes_of rfl rfl rfl rfl) (fun _ _ _ _ h => h)) rfl (Or.inl rfl) (pa_cons (pv 0) (pa_cons (pv 3) (pa_cons (pv 4) pa_nil))))))))
      (pss_one (ps_ret (pe_bm0 PySem.F.plainAttrs_list PySem.F.slot_list_pop PySem.F.type_list_pop mt_pop (pe_fld (pv 0) rfl)))))), ?_⟩
  obtain ⟨dx, hti⟩ := T0.ins
  refine ⟨_, rfl, tl, dx, _, rfl, hti, no_tell _ _ _, _, rfl, fun e0 ne0 => ?_⟩
  have s0 := same_new ne0 (.dK [])
  refine ⟨tl, S, Fl, t, .nil, [], [], 0, _, _, rfl, ⟨e0, 0, ht.mono (.of_same s0), rfl, .nil upd_same, by omega⟩, he.good _ (.head _), T0.same s0, by decide, fun H1 g1 T1 => ?_⟩
  have g01 : Frm tl S Fl H H1 := (Frm.of_same s0).trans g1
  refine ⟨fun m σ H' => ∃ c o2 o3 o4, σ = [some (.ref tl), some tv, o2, o3, o4] ∧ Frm tl S Fl H H' ∧ TelAt CT CP FA H' tl S Fl c ∧ Ends m c r, ⟨m0, _, none, none, none, rfl, g01, T1, he⟩, ?_⟩
  rintro m σ H' ⟨⟨Ks, Fs, n⟩, o2, o3, o4, rfl, g, T', hen⟩
  obtain ⟨dx', hti'⟩ := T'.ins
  obtain ⟨ss, hS, ess⟩ := T'.steps
  refine ⟨_, rfl, tl, CT, dx', _, _, rfl, hti', TC_Telling.cl, TC_Telling.nS, tlF_steps _ _ _, _, .inl ⟨_, SqL.of hS, rfl⟩, ?_⟩
  cases Ks with
  | nil =>
    have e := ess.nilL
    subst e
    refine iteF' (by simp) ?_
    obtain ⟨fs, hF, efs⟩ := T'.found
    have er : r = some (Fs, n) := by
      cases hen with
      | done => rfl
      | boom _ b => cases b
      | step _ s _ => cases s
    subst er
    cases Fs with
    | nil => exact absurd rfl (q2 n)
    | cons v Fs =>
      obtain ⟨u, fs', rfl, eu, _⟩ := efs.consL
      refine ⟨_, rfl, tl, CT, dx', _, _, rfl, hti', TC_Telling.cl, TC_Telling.nF, tlF_found _ _ _, .inl ⟨rfl, _, SqL.of hF⟩, Fl, _, _, rfl, rfl, hF, rev_last, ?_⟩
      have g9 : Frm tl S Fl H' (upd H' Fl (.lst (u :: fs').reverse.dropLast)) := .putF _
      exact q1 v Fs n rfl u _ (g.trans g9) (eu.mono (T'.kp g9))
  | cons s Ks =>
    obtain ⟨ss', u, hS2, ⟨p, a, b, rfl, hp, hab⟩, T2⟩ := T'.popS
    rw [hS] at hS2
    have ess2 := List.reverse_inj.mp (HO.lst.inj (Option.some.inj hS2))
    subst ess2
    refine iteT' (by simp) ?_
    refine ⟨fun σ' H'' => ∃ m' c o2 o3 o4, m' < m ∧ σ' = [some (.ref tl), some tv, o2, o3, o4] ∧ Frm tl S Fl H H'' ∧ TelAt CT CP FA H'' tl S Fl c ∧ Ends m' c r, fun σ' H'' ⟨m', c, o2, o3, o4, hm, h⟩ => ⟨m', hm, c, o2, o3, o4, h⟩, ?_⟩
    have g9 : Frm tl S Fl H' (upd H' S (.lst ss'.reverse)) := .putS _
    have k9 := T'.kp g9
    refine ⟨_, rfl, tl, CT, dx', _, _, rfl, hti', TC_Telling.cl, TC_Telling.nS, tlF_steps _ _ _, .inl ⟨rfl, _, SqL.of hS⟩, S, _, _, rfl, rfl, hS, rev_last, ?_⟩
    rw [rev_dropLast]
    refine ⟨p, _, rfl, SqT.of (k9.tups _ _ hp), rfl, _, _, rfl, _, _, rfl, _, _, rfl, rfl, ?_⟩
    have hg := hen.good s (.head _)
    refine ⟨FA s.code, _, rfl, HA s hg, _, rfl, _, rfl, _, rfl, tl, S, Fl, s, Ks, Fs, n, a, b, rfl, rfl, hab.mono k9, T2, ?_, ?_⟩
    · cases hen with
      | boom f _ => exact f
      | step f _ _ => exact f
    · cases hen with
      | boom _ bm => exact .inr ⟨bm, q3 rfl _ (g.trans g9)⟩
      | step _ st hr' => exact .inl ⟨_, st, hr'.good, fun H3 g3 T3 => ⟨_, _, _, _, _, Nat.lt_succ_self _, rfl, g.trans (g9.trans g3), T3, hr'⟩⟩
end

/-! ### pieces under names yet to come: worlds -/
def Agr (Γ : Sco) (θ ψ : PDs) : Prop := ∀ x, match Γ x with
  | none => True
  | some false => ∃ i, In i ∧ θ x = .val i ∧ ψ x = .val i
  | some true => ∃ f g, θ x = .fn f ∧ ψ x = .fn g ∧ ∀ i, In i → f i = g i ∧ In (f i)
theorem Agr.v {Γ : Sco} {θ ψ : PDs} (h : Agr Γ θ ψ) {x : Str} (e : Γ x = some false) : ∃ i, In i ∧ θ x = .val i ∧ ψ x = .val i := by
  have z := h x
  rw [e] at z
  exact z
theorem Agr.f {Γ : Sco} {θ ψ : PDs} (h : Agr Γ θ ψ) {x : Str} (e : Γ x = some true) : ∃ f g, θ x = .fn f ∧ ψ x = .fn g ∧ ∀ i, In i → f i = g i ∧ In (f i) := by
  have z := h x
  rw [e] at z
  exact z
theorem Agr.setv {Γ : Sco} {θ ψ : PDs} (h : Agr Γ θ ψ) (x : Str) {i : Int} (hi : In i) : Agr (Γ.set x false) (θ.set x (.val i)) (ψ.set x (.val i)) := fun y => by
  unfold Sco.set PDs.set
  by_cases e : y = x
  · rw [if_pos e, if_pos e, if_pos e]
    exact ⟨i, hi, rfl, rfl⟩
  · rw [if_neg e, if_neg e, if_neg e]
    exact h y
theorem Agr.setf {Γ : Sco} {θ ψ : PDs} (h : Agr Γ θ ψ) (x : Str) {f g : Int → Int} (hi : ∀ i, In i → f i = g i ∧ In (f i)) : Agr (Γ.set x true) (θ.set x (.fn f)) (ψ.set x (.fn g)) := fun y => by
  unfold Sco.set PDs.set
  by_cases e : y = x
  · rw [if_pos e, if_pos e, if_pos e]
    exact ⟨f, g, rfl, rfl, hi⟩
  · rw [if_neg e, if_neg e, if_neg e]
    exact h y
theorem iter_agr {f g : Int → Int} (h : ∀ i, In i → f i = g i ∧ In (f i)) : ∀ (k : Nat) {i : Int}, In i → iter f k i = iter g k i ∧ In (iter f k i)
  | 0, _, hi => ⟨rfl, hi⟩
  | k + 1, i, hi => by
    have z := h i hi
    show iter f k (f i) = iter g k (g i) ∧ In (iter f k (f i))
    rw [← z.1]
    exact iter_agr h k z.2
/-- the value rests on the names in force alone -/
theorem vl_agr : ∀ (t : Tm) {Γ : Sco} {θ ψ : PDs}, Scp Γ t → Agr Γ θ ψ → vl t θ = vl t ψ ∧ In (vl t θ) := by
  intro t
  induction t with
  | num m => exact fun _ _ => ⟨rfl, .mod _⟩
  | name x =>
    intro Γ θ ψ hs h
    obtain ⟨i, hi, e1, e2⟩ := h.v hs
    simp only [vl, e1, e2, PD.int]
    exact ⟨trivial, hi⟩
  | bin o a b iha ihb =>
    intro Γ θ ψ hs h
    simp only [vl, (iha hs.1 h).1, (ihb hs.2 h).1]
    exact ⟨trivial, .op _ _ _⟩
  | cond c a b ihc iha ihb =>
    intro Γ θ ψ hs h
    have h1 := ihc hs.1 h
    have h2 := iha hs.2.1 h
    have h3 := ihb hs.2.2 h
    simp only [vl, h1.1]
    split
    · exact h3
    · exact h2
  | letx x a b iha ihb =>
    intro Γ θ ψ hs h
    have ha := iha hs.1 h
    have hb := ihb hs.2 (h.setv x ha.2)
    simp only [vl]
    rw [← ha.1]
    exact hb
  | turns m x a b iha ihb =>
    intro Γ θ ψ hs h
    have ha := iha hs.1 h
    simp only [vl]
    rw [← ha.1]
    exact iter_agr (fun i hi => ihb hs.2 (h.setv x hi)) _ ha.2
  | deff f x k a b iha ihb =>
    intro Γ θ ψ hs h
    simp only [vl]
    exact ihb hs.2 (h.setf f fun i hi => iha hs.1 (h.setv x hi))
  | use f a iha =>
    intro Γ θ ψ hs h
    obtain ⟨f', g', e1, e2, e3⟩ := h.f hs.1
    have ha := iha hs.2 h
    simp only [vl, e1, e2, PD.app]
    rw [← ha.1]
    exact e3 _ ha.2
  | un o a iha => exact fun hs h => iha hs h
def Sub (Γ Γ' : Sco) : Prop := ∀ x b, Γ x = some b → Γ' x = some b
theorem Sub.refl (Γ : Sco) : Sub Γ Γ := fun _ _ h => h
theorem Sub.trans {A B C : Sco} (h : Sub A B) (k : Sub B C) : Sub A C := fun x b z => k x b (h x b z)
theorem Sub.set {Γ Γ' : Sco} (h : Sub Γ Γ') (x : Str) (c : Bool) : Sub (Γ.set x c) (Γ'.set x c) := fun y b z => by
  unfold Sco.set at z ⊢
  by_cases e : y = x
  · rw [if_pos e] at z ⊢
    exact z
  · rw [if_neg e] at z ⊢
    exact h y b z
theorem Sub.new {Γ : Sco} {x : Str} (h : Γ x = none) (c : Bool) : Sub Γ (Γ.set x c) := fun y b z => by
  unfold Sco.set
  by_cases e : y = x
  · rw [e, h] at z
    cases z
  · rw [if_neg e]
    exact z
theorem Scp.mono : ∀ {t : Tm} {Γ Γ' : Sco}, Sub Γ Γ' → Scp Γ t → Scp Γ' t := by
  intro t
  induction t with
  | num m => exact fun _ _ => trivial
  | name x => exact fun h z => h _ _ z
  | bin o a b iha ihb => exact fun h z => ⟨iha h z.1, ihb h z.2⟩
  | cond c a b ihc iha ihb => exact fun h z => ⟨ihc h z.1, iha h z.2.1, ihb h z.2.2⟩
  | letx x a b iha ihb => exact fun h z => ⟨iha h z.1, ihb (h.set x false) z.2⟩
  | turns m x a b iha ihb => exact fun h z => ⟨iha h z.1, ihb (h.set x false) z.2⟩
  | deff f x k a b iha ihb => exact fun h z => ⟨iha (h.set x false) z.1, ihb (h.set f true) z.2⟩
  | use f a iha => exact fun h z => ⟨h _ _ z.1, iha h z.2⟩
  | un o a iha => exact fun h z => iha h z
/-- the made names in force, and what they may come to mean -/
structure Wd where
  I : Type
  Γ : Sco
  θ : I → PDs
def Wd.Fine (W : Wd) (n : Nat) : Prop := (∀ ι, Agr W.Γ (W.θ ι) (W.θ ι)) ∧ ∀ x b, W.Γ x = some b → ∃ k, 1 ≤ k ∧ k ≤ n ∧ x = vN k
/-- a world further on -/
structure Far (W W' : Wd) (π : W'.I → W.I) : Prop where
  sub : Sub W.Γ W'.Γ
  agr : ∀ ι, Agr W.Γ (W.θ (π ι)) (W'.θ ι)
theorem Agr.sub {Γ Γ' : Sco} {θ ψ : PDs} (s : Sub Γ Γ') (h : Agr Γ' θ ψ) : Agr Γ θ ψ := fun x => by
  cases e : Γ x with
  | none => trivial
  | some b =>
    cases b with
    | false => exact h.v (s _ _ e)
    | true => exact h.f (s _ _ e)
theorem Agr.trans {Γ : Sco} {a b c : PDs} (h : Agr Γ a b) (k : Agr Γ b c) : Agr Γ a c := fun x => by
  cases e : Γ x with
  | none => trivial
  | some u =>
    cases u with
    | false =>
      obtain ⟨i, hi, e1, e2⟩ := h.v e
      obtain ⟨j, hj, e3, e4⟩ := k.v e
      rw [e2] at e3
      cases e3
      exact ⟨i, hi, e1, e4⟩
    | true =>
      obtain ⟨f, g, e1, e2, e5⟩ := h.f e
      obtain ⟨f', g', e3, e4, e6⟩ := k.f e
      rw [e2] at e3
      cases e3
      exact ⟨f, g', e1, e4, fun i hi => ⟨(e5 i hi).1.trans (e6 i hi).1, (e5 i hi).2⟩⟩
theorem Far.refl {W : Wd} {n : Nat} (h : W.Fine n) : Far W W id := ⟨.refl _, h.1⟩
theorem Far.trans {W W1 W2 : Wd} {π : W1.I → W.I} {π' : W2.I → W1.I} (h : Far W W1 π) (k : Far W1 W2 π') : Far W W2 (π ∘ π') := ⟨h.sub.trans k.sub, fun ι => (h.agr (π' ι)).trans ((k.agr ι).sub h.sub)⟩
theorem Wd.Fine.mono {W : Wd} {n m : Nat} (h : W.Fine n) (l : n ≤ m) : W.Fine m := ⟨h.1, fun x b z => by
  obtain ⟨k, a, c, e⟩ := h.2 x b z
  exact ⟨k, a, Nat.le_trans c l, e⟩⟩
/-- a piece, by what it comes to at each -/
structure PcR (W : Wd) (p : Tm) (g : W.I → Int) : Prop where
  plain : Plain p
  sc : Scp W.Γ p
  val : ∀ ι, vl p (W.θ ι) = g ι
inductive VR (W : Wd) : Bool → EV → (W.I → Int) → Prop
  | num {i : Int} {g : W.I → Int} : In i → (∀ ι, g ι = i) → VR W false (.num i) g
  | piece {p : Tm} {g : W.I → Int} : PcR W p g → p.size ≤ 2000 → p.deep ≤ 30 → VR W true (.piece p) g
theorem PcR.far {W W' : Wd} {π : W'.I → W.I} {p : Tm} {g : W.I → Int} (h : PcR W p g) (f : Far W W' π) : PcR W' p (g ∘ π) := ⟨h.plain, h.sc.mono f.sub, fun ι => by
  rw [← (vl_agr p h.sc (f.agr ι)).1]
  exact h.val _⟩
theorem PcR.in {W : Wd} {n : Nat} {p : Tm} {g : W.I → Int} (h : PcR W p g) (f : W.Fine n) (ι : W.I) : In (g ι) := by
  rw [← h.val ι]
  exact (vl_agr p h.sc (f.1 ι)).2
theorem VR.far {W W' : Wd} {π : W'.I → W.I} {k : Bool} {v : EV} {g : W.I → Int} (h : VR W k v g) (f : Far W W' π) : VR W' k v (g ∘ π) := by
  cases h with
  | num a b => exact .num a fun ι => b _
  | piece a b c => exact .piece (a.far f) b c
theorem VR.in {W : Wd} {n : Nat} {k : Bool} {v : EV} {g : W.I → Int} (h : VR W k v g) (f : W.Fine n) (ι : W.I) : In (g ι) := by
  cases h with
  | num a b => rw [b]; exact a
  | piece a b c => exact a.in f ι
theorem VR.bad {W : Wd} {k : Bool} {v : EV} {g : W.I → Int} (h : VR W k v g) : v ≠ .bad := by
  cases h <;> exact fun z => nomatch z
/-- what stands ahead ends refused, or goes on with a value -/
def OutC (R : EV → Prop) (L : List Stp) (G : List EV) (n h c : Nat) : Prop :=
  (∀ K F, Hi K F n h → EndsE ⟨L ++ K, G ++ F, n⟩ none) ∨ ∃ v n', n ≤ n' ∧ n' ≤ n + c ∧ R v ∧ ∀ K F r, Hi K F n h → EndsE ⟨K, v :: F, n'⟩ r → EndsE ⟨L ++ K, G ++ F, n⟩ r
def Out (W : Wd) (k : Bool) (s : Stp) (n h c : Nat) (g : W.I → Int) : Prop := OutC (fun v => VR W k v g) [s] [] n h c
def PcM (W : Wd) (z : Nat) (g : W.I → Int) (v : EV) : Prop := ∃ p, v = .piece p ∧ PcR W p g ∧ p.size ≤ 2000 * z
def OutM (W : Wd) (z : Nat) (s : Stp) (n h c : Nat) (g : W.I → Int) : Prop := OutC (PcM W z g) [s] [] n h c
/-- how many names are made -/
def cnt : Tm → Hts → Nat
  | .num _, _ => 0
  | .name _, _ => 0
  | .bin _ a b, δ => cnt a δ + cnt b δ
  | .cond c a b, δ => cnt c δ + (cnt a δ + cnt b δ)
  | .letx x a b, δ => 1 + (cnt a δ + cnt b (δ.set x 0))
  | .turns m x a b, δ => 1 + (cnt a δ + (1 + m.toNat) * cnt b (δ.set x 0))
  | .deff f x _ a b, δ => 2 + (cnt a (δ.set x 0) + cnt b (δ.set f (cnt a (δ.set x 0))))
  | .use f a, δ => cnt a δ + δ f
  | .un _ a, δ => cnt a δ
/-- what one name means: in the machine, for the made text, as values -/
def EntR (W : Wd) (u : Ent) (v : EV) (ρ : W.I → PD) (h c : Nat) : Prop := match u.lv, u.dom with
  | false, none => ∃ g, (∀ ι, ρ ι = .val (g ι)) ∧ VR W u.k v g
  | false, some d => ∃ f y j a b E', v = .fn f y j a b E' ∧ (∀ ι, ∃ φ, ρ ι = .fn φ) ∧ ∀ (W' : Wd) (π : W'.I → W.I), Far W W' π → ∀ n, W'.Fine n → n + c < NB → ∀ v g, VR W' d v g → Out W' u.k (.tell a (Evs.set E' y v)) n h c fun ι => (ρ (π ι)).app (g ι)
  | true, none => u.k = false ∧ ∃ s, v = .nm s ∧ W.Γ s = some false ∧ ∀ ι, ∃ i, In i ∧ W.θ ι s = .val i ∧ ρ ι = .val i
  | true, some d => u.k = false ∧ d = false ∧ ∃ s, v = .nm s ∧ W.Γ s = some true ∧ ∀ ι, ∃ φ ψ, W.θ ι s = .fn φ ∧ ρ ι = .fn ψ ∧ ∀ i, In i → φ i = ψ i ∧ In (φ i)
def EnvR (W : Wd) (E : Env) (Ev : Evs) (ρ : W.I → PDs) (δ κ : Hts) : Prop := ∀ x u, E x = some u → EntR W u (Ev x) (fun ι => ρ ι x) (δ x) (κ x)
theorem EntR.far {W W' : Wd} {π : W'.I → W.I} {u : Ent} {v : EV} {ρ : W.I → PD} {h c : Nat} (q : EntR W u v ρ h c) (f : Far W W' π) : EntR W' u v (ρ ∘ π) h c := by
  obtain ⟨lv, dom, k⟩ := u
  cases lv <;> cases dom
  · obtain ⟨g, h1, h2⟩ := q
    exact ⟨g ∘ π, fun ι => h1 _, h2.far f⟩
  · obtain ⟨f1, y, j, a, b, E', h1, h2, h3⟩ := q
    exact ⟨f1, y, j, a, b, E', h1, fun ι => h2 _, fun W2 π2 f2 n hn hc v g hv => h3 W2 (π ∘ π2) (f.trans f2) n hn hc v g hv⟩
  · obtain ⟨h0, s, h1, h2, h3⟩ := q
    refine ⟨h0, s, h1, f.sub _ _ h2, fun ι => ?_⟩
    obtain ⟨i, a1, a2, a3⟩ := h3 (π ι)
    obtain ⟨j, b1, b2, b3⟩ := (f.agr ι).v h2
    rw [a2] at b2
    cases b2
    exact ⟨i, a1, b3, a3⟩
  · obtain ⟨h0, h00, s, h1, h2, h3⟩ := q
    refine ⟨h0, h00, s, h1, f.sub _ _ h2, fun ι => ?_⟩
    obtain ⟨φ, ψ, a1, a2, a3⟩ := h3 (π ι)
    obtain ⟨φ', ψ', b1, b2, b3⟩ := (f.agr ι).f h2
    rw [a1] at b1
    cases b1
    exact ⟨ψ', ψ, b2, a2, fun i hi => ⟨(b3 i hi).1.symm.trans (a3 i hi).1, by rw [← (b3 i hi).1]; exact (b3 i hi).2⟩⟩
theorem EnvR.far {W W' : Wd} {π : W'.I → W.I} {E : Env} {Ev : Evs} {ρ : W.I → PDs} {δ κ : Hts} (q : EnvR W E Ev ρ δ κ) (f : Far W W' π) : EnvR W' E Ev (fun ι => ρ (π ι)) δ κ := fun x u e => (q x u e).far f
theorem EnvR.set {W : Wd} {E : Env} {Ev : Evs} {ρ : W.I → PDs} {δ κ : Hts} (q : EnvR W E Ev ρ δ κ) (x : Str) {u : Ent} {v : EV} {σ : W.I → PD} {h c : Nat} (z : EntR W u v σ h c) :
    EnvR W (E.set x u) (Ev.set x v) (fun ι => (ρ ι).set x (σ ι)) (δ.set x h) (κ.set x c) := fun y w e => by
  unfold Env.set at e
  unfold Evs.set PDs.set Hts.set
  by_cases e1 : y = x
  · rw [if_pos e1] at e
    cases e
    simp only [if_pos e1]
    exact z
  · rw [if_neg e1] at e
    simp only [if_neg e1]
    exact q y w e

/-! ### staged terms: what the machine finds -/
section
variable {R R1 : EV → Prop} {L L' : List Stp} {G G' : List EV} {n n1 h h1 c c1 c2 : Nat}
theorem Hi.at' {K : List Stp} {F : List EV} (q : Hi K F n h) (l : n1 < NB) : Hi K F n1 h := ⟨q.good, q.k, q.f, l⟩
theorem OutC.done {v : EV} (hv : R v) : OutC R [] [v] n h c := .inr ⟨v, n, Nat.le_refl _, Nat.le_add_right _ _, hv, fun _ _ _ _ q => q⟩
theorem OutC.weak {R' : EV → Prop} (w : ∀ v, R v → R' v) (o : OutC R L G n h c) : OutC R' L G n h c := o.elim .inl fun ⟨v, n', a, b, d, e⟩ => .inr ⟨v, n', a, b, w v d, e⟩
theorem OutC.mono (o : OutC R L G n h1 c1) (l1 : h1 ≤ h) (l2 : c1 ≤ c) : OutC R L G n h c :=
  o.elim (fun z => .inl fun K F q => z K F (q.le l1)) fun ⟨v, n', a, b, d, e⟩ => .inr ⟨v, n', a, by omega, d, fun K F r q => e K F r (q.le l1)⟩
theorem OutC.step (st : ∀ K F, Stp1 ⟨L ++ K, G ++ F, n⟩ ⟨L' ++ K, G' ++ F, n1⟩) (gL : ∀ s ∈ L, s.Good) (l1 : L.length ≤ 3 * h) (l2 : G.length ≤ 3 * h) (m : n ≤ n1) (m1 : n1 < NB) (m2 : n1 + c1 ≤ n + c) (o : OutC R L' G' n1 h c1) : OutC R L G n h c := by
  rcases o with z | ⟨v, n', a, b, d, e⟩
  · exact .inl fun K F q => .step (st K F) (q.fit gL l1 l2) (z K F (q.at' m1))
  · exact .inr ⟨v, n', by omega, by omega, d, fun K F r q w => .step (st K F) (q.fit gL l1 l2) (e K F r (q.at' m1) w)⟩
theorem OutC.bind {s : Stp} (o : OutC R1 [s] [] n h1 c1) (gL : ∀ s ∈ L, s.Good) (l1 : L.length + 3 * h1 ≤ 3 * h) (l2 : G.length + 3 * h1 ≤ 3 * h) (m : n + c1 < NB) (m2 : c1 + c2 ≤ c) (next : ∀ v n1, n ≤ n1 → n1 ≤ n + c1 → R1 v → OutC R L (v :: G) n1 h c2) : OutC R (s :: L) G n h c := by
  rcases o with z | ⟨v, n', a, b, d, e⟩
  · exact .inl fun K F q => z (L ++ K) (G ++ F) (q.sub gL l1 l2)
  · rcases next v n' a b d with z | ⟨u, n2, a2, b2, d2, e2⟩
    · exact .inl fun K F q => e (L ++ K) (G ++ F) none (q.sub gL l1 l2) (z K F (q.at' (by omega)))
    · exact .inr ⟨u, n2, by omega, by omega, d2, fun K F r q w => e (L ++ K) (G ++ F) r (q.sub gL l1 l2) (e2 K F r (q.at' (by omega)) w)⟩
end
theorem good_tell {t : Tm} {E : Env} {Ev : Evs} {fr k : Bool} (h : kd t false E fr = .ok k) : (Stp.tell t Ev).Good := by
  show t.w ≠ .hole
  cases t with
  | un o a =>
    cases o with
    | hole => simp [kd] at h
    | _ => intro z; cases z
  | bin o a b => cases o <;> (intro z; cases z)
  | _ => intro z; cases z
theorem good_make {t : Tm} {E : Env} {Ev : Evs} {fr k : Bool} (h : kd t true E fr = .ok k) : (Stp.make t Ev).Good := by
  show t.w ≠ .quote ∧ t.w ≠ .lift ∧ t.w ≠ .run
  cases t with
  | un o a =>
    cases o with
    | hole => refine ⟨?_, ?_, ?_⟩ <;> (intro z; cases z)
    | _ => simp [kd] at h
  | bin o a b => cases o <;> (refine ⟨?_, ?_, ?_⟩ <;> (intro z; cases z))
  | _ => refine ⟨?_, ?_, ?_⟩ <;> (intro z; cases z)
theorem kd_want {r : Kd} {k j : Bool} (h : r.want k = .ok j) : r = .ok k ∧ j = k := by
  cases r with
  | error e => cases h
  | ok i =>
    unfold Kd.want at h
    dsimp only at h
    by_cases e : i = k
    · rw [if_pos e] at h
      cases h
      exact ⟨by rw [e], rfl⟩
    · rw [if_neg e] at h
      cases h
theorem kd_and {r : Kd} {f : Bool → Kd} {k : Bool} (h : r.and f = .ok k) : ∃ j, r = .ok j ∧ f j = .ok k := by
  cases r with
  | error e => cases h
  | ok i => exact ⟨i, rfl, h⟩
theorem hgt_size : ∀ (t : Tm) {δ : Hts} {D : Nat}, Plain t → (∀ x, δ x ≤ D) → hgt t δ ≤ t.size + D := by
  have st : ∀ {δ : Hts} {D D' : Nat} {x : Str} {v : Nat}, (∀ x, δ x ≤ D) → v ≤ D' → D ≤ D' → ∀ y, (δ.set x v) y ≤ D' := fun {δ D D' x v} h l m y => by
    unfold Hts.set
    split
    · exact l
    · exact Nat.le_trans (h y) m
  intro t
  induction t with
  | num m => intro δ D _ _; simp only [hgt, Tm.size]; omega
  | name x => intro δ D _ _; simp only [hgt, Tm.size]; omega
  | bin o a b iha ihb => intro δ D p h; have := iha p.1 h; have := ihb p.2 h; simp only [hgt, Tm.size]; omega
  | cond c a b ihc iha ihb => intro δ D p h; have := ihc p.1 h; have := iha p.2.1 h; have := ihb p.2.2 h; simp only [hgt, Tm.size]; omega
  | letx x a b iha ihb => intro δ D p h; have := iha p.1 h; have := ihb p.2 (st h (v := 0) (x := x) (Nat.zero_le _) (Nat.le_refl _)); simp only [hgt, Tm.size]; omega
  | turns m x a b iha ihb => intro δ D p h; have := iha p.1 h; have := ihb p.2 (st h (v := 0) (x := x) (Nat.zero_le _) (Nat.le_refl _)); simp only [hgt, Tm.size]; omega
  | deff f x k a b iha ihb =>
    intro δ D p h
    have h1 := iha p.1 (st h (v := 0) (x := x) (Nat.zero_le _) (Nat.le_refl _))
    have h2 := ihb p.2 (st h (x := f) h1 (Nat.le_add_left _ _))
    simp only [hgt, Tm.size]
    omega
  | use f a iha => intro δ D p h; have := iha p h; have := h f; simp only [hgt, Tm.size]; omega
  | un o a iha => intro δ D p h; exact p.elim

/-! ### the staged telling keeps the values -/
theorem ofString_inj {a b : String} (h : Str.ofString a = Str.ofString b) : a = b := by
  rw [Str.ofString_eq_toList, Str.ofString_eq_toList] at h
  have h1 : a.toList.map Char.toNat = b.toList.map Char.toNat := by
    have z := congrArg (fun s : Str => s.cps.toList) h
    simpa using z
  have h2 : a.toList = b.toList := by
    refine List.map_inj_right (f := Char.toNat) ?_ |>.mp h1
    intro x y e
    exact Char.ext (UInt32.toNat_inj.mp e)
  exact String.toList_inj.mp h2
theorem vN_inj {a b : Nat} (h : vN a = vN b) : a = b := by
  unfold vN at h
  have h1 : (("v" : Str).cps ++ (Str.ofString (toString (a : Int))).cps) = (("v" : Str).cps ++ (Str.ofString (toString (b : Int))).cps) := congrArg Str.cps h
  have h2 := Array.append_right_inj _ |>.mp h1
  have h3 : Str.ofString (toString (a : Int)) = Str.ofString (toString (b : Int)) := by
    cases e1 : Str.ofString (toString (a : Int))
    cases e2 : Str.ofString (toString (b : Int))
    rw [e1, e2] at h2
    exact congrArg Str.mk h2
  exact Int.ofNat.inj (Int.repr_inj.mp (ofString_inj h3))
theorem Wd.Fine.new {W : Wd} {n m : Nat} (h : W.Fine n) (l : n < m) : W.Γ (vN m) = none := by
  cases e : W.Γ (vN m) with
  | none => rfl
  | some b =>
    obtain ⟨k, _, a, z⟩ := h.2 _ _ e
    have := vN_inj z
    omega
/-- one more made name, of a value -/
def Wd.val (W : Wd) (s : Str) (J : Type) (π : J → W.I) (g : J → Int) : Wd := ⟨J, W.Γ.set s false, fun ι => (W.θ (π ι)).set s (.val (g ι))⟩
def Wd.fnc (W : Wd) (s : Str) (φ : W.I → Int → Int) : Wd := ⟨W.I, W.Γ.set s true, fun ι => (W.θ ι).set s (.fn (φ ι))⟩
theorem far_new {W W' : Wd} {π : W'.I → W.I} {s : Str} {b : Bool} (e : W.Γ s = none) (h1 : W'.Γ = W.Γ.set s b) (h2 : ∀ ι, ∃ v, W'.θ ι = (W.θ (π ι)).set s v) (h : ∀ ι, Agr W.Γ (W.θ ι) (W.θ ι)) : Far W W' π := by
  refine ⟨by rw [h1]; exact .new e b, fun ι => ?_⟩
  obtain ⟨v, hv⟩ := h2 ι
  rw [hv]
  intro x
  cases ex : W.Γ x with
  | none => trivial
  | some u =>
    have ne : x ≠ s := fun z => by rw [z, e] at ex; cases ex
    unfold PDs.set
    cases u with
    | false =>
      obtain ⟨i, a, c, d⟩ := (h (π ι)).v ex
      exact ⟨i, a, c, by rw [if_neg ne]; exact c⟩
    | true =>
      obtain ⟨f, g, a, c, d⟩ := (h (π ι)).f ex
      rw [a] at c
      cases c
      exact ⟨f, f, a, by rw [if_neg ne]; exact a, d⟩
theorem Wd.Fine.val {W : Wd} {n m : Nat} {J : Type} {π : J → W.I} {g : J → Int} (h : W.Fine n) (l : n < m) (hg : ∀ ι, In (g ι)) : (W.val (vN m) J π g).Fine m ∧ Far W (W.val (vN m) J π g) π := by
  refine ⟨⟨fun ι => (h.1 _).setv _ (hg ι), fun x b z => ?_⟩, far_new (h.new l) rfl (fun ι => ⟨_, rfl⟩) h.1⟩
  have z' : (W.Γ.set (vN m) false) x = some b := z
  unfold Sco.set at z'
  by_cases e : x = vN m
  · exact ⟨m, by omega, Nat.le_refl _, e⟩
  · rw [if_neg e] at z'
    obtain ⟨k, a, c, d⟩ := h.2 x b z'
    exact ⟨k, a, by omega, d⟩
theorem Wd.Fine.fnc {W : Wd} {n m : Nat} {φ : W.I → Int → Int} (h : W.Fine n) (l : n < m) (hg : ∀ ι i, In i → In (φ ι i)) : (W.fnc (vN m) φ).Fine m ∧ Far W (W.fnc (vN m) φ) id := by
  refine ⟨⟨fun ι => (h.1 _).setf _ fun i hi => ⟨rfl, hg ι i hi⟩, fun x b z => ?_⟩, far_new (h.new l) rfl (fun ι => ⟨_, rfl⟩) h.1⟩
  have z' : (W.Γ.set (vN m) true) x = some b := z
  unfold Sco.set at z'
  by_cases e : x = vN m
  · exact ⟨m, by omega, Nat.le_refl _, e⟩
  · rw [if_neg e] at z'
    obtain ⟨k, a, c, d⟩ := h.2 x b z'
    exact ⟨k, a, by omega, d⟩
theorem turn_out {W : Wd} {j : Bool} {m : Int} {x : Str} {a b : Tm} {Ev : Evs} {h h0 c0 : Nat} (gf : W.I → Int → Int) (hh : 1 + h0 ≤ h)
    (step : ∀ v n g, VR W j v g → n + c0 < NB → W.Fine n → OutC (fun u => VR W j u fun ι => gf ι (g ι)) [.tell b (Ev.set x v)] [] n h0 c0) :
    ∀ (k : Nat) (v : EV) (n : Nat) (g : W.I → Int), VR W j v g → W.Fine n → n + (1 + k) * c0 < NB → OutC (fun u => VR W j u fun ι => iter (gf ι) k (g ι)) [.turn m x a b (k : Int) Ev] [v] n h (k * c0)
  | 0, v, n, g, hv, hf, hn => .step (L' := []) (G' := [v]) (c1 := 0) (fun K F => .turnN (by omega)) (goods1 trivial) (by show 1 ≤ _; omega) (by show 1 ≤ _; omega) (Nat.le_refl _) (by omega) (by omega) (.done hv)
  | k + 1, v, n, g, hv, hf, hn => by
    have e1 : (1 + (k + 1)) * c0 = c0 + (1 + k) * c0 := by rw [Nat.add_mul, Nat.add_mul, Nat.add_mul]; omega
    have e2 : (k + 1) * c0 = c0 + k * c0 := by rw [Nat.add_mul]; omega
    refine .step (L' := [.tell b (Ev.set x v), .turn m x a b ((k + 1 : Nat) - 1 : Int) Ev]) (G' := []) (n1 := n) (c1 := (k + 1) * c0) (fun K F => .turnS (by omega) hv.bad) (goods1 trivial) (by show 1 ≤ _; omega) (by show 1 ≤ _; omega) (Nat.le_refl _) (by omega) (Nat.le_refl _) ?_
    refine .bind (step v n g hv (by omega) hf) (goods1 trivial) (by show 1 + _ ≤ _; omega) (by show 0 + _ ≤ _; omega) (by omega) (c2 := k * c0) (by omega) fun u n1 l1 l2 hu => ?_
    rw [show ((k + 1 : Nat) : Int) - 1 = (k : Int) by omega]
    exact turn_out gf hh step k u n1 _ hu (hf.mono l1) (by omega)
theorem cnt_turn (m k c : Nat) (h : k ≤ m) : k * c ≤ m * c := Nat.mul_le_mul_right c h
/-- at level 1 there are numbers alone -/
def One (E : Env) : Prop := ∀ x u, E x = some u → u.lv = true → u.k = false ∧ ∀ d, u.dom = some d → d = false
theorem One.set {E : Env} (h : One E) (x : Str) {u : Ent} (q : u.lv = true → u.k = false ∧ ∀ d, u.dom = some d → d = false) : One (E.set x u) := fun y w e => by
  unfold Env.set at e
  by_cases z : y = x
  · rw [if_pos z] at e
    cases e
    exact q
  · rw [if_neg z] at e
    exact h y w e
theorem kd_one : ∀ (t : Tm) {E : Env} {fr k : Bool}, One E → kd t true E fr = .ok k → k = false := by
  intro t
  induction t with
  | num m => intro E fr k _ h; cases h; rfl
  | name x =>
    intro E fr k hE h
    simp only [kd] at h
    cases z : E x with
    | none => rw [z] at h; cases h
    | some u =>
      rw [z] at h
      dsimp only at h
      split at h
      · rename_i y
        cases z2 : u.dom with
        | none => rw [z2] at h; cases h; exact (hE x u z y).1
        | some d => rw [z2] at h; cases h
      · cases h
  | bin o a b iha ihb =>
    intro E fr k hE h
    obtain ⟨_, _, h1⟩ := kd_and (show Kd.and ((kd a true E fr).want false) (fun _ => (kd b true E fr).want false) = .ok k from h)
    exact (kd_want h1).2
  | cond c a b ihc iha ihb =>
    intro E fr k hE h
    obtain ⟨_, _, h1⟩ := kd_and (show Kd.and ((kd c true E fr).want false) (fun _ => (kd a true E fr).and fun k => (kd b true E fr).want k) = .ok k from h)
    obtain ⟨j, h2, h3⟩ := kd_and h1
    rw [(kd_want h3).2]
    exact iha hE h2
  | letx x a b iha ihb =>
    intro E fr k hE h
    obtain ⟨j, h2, h3⟩ := kd_and (show Kd.and (kd a true E fr) (fun k => kd b true (E.set x ⟨true, none, k⟩) fr) = .ok k from h)
    exact ihb (hE.set x fun _ => ⟨iha hE h2, fun _ z => by cases z⟩) h3
  | turns m x a b iha ihb =>
    intro E fr k hE h
    obtain ⟨j, h2, h3⟩ := kd_and (show Kd.and (kd a true E fr) (fun k => (kd b true (E.set x ⟨true, none, k⟩) fr).want k) = .ok k from h)
    rw [(kd_want h3).2]
    exact iha hE h2
  | deff f x d a b iha ihb =>
    intro E fr k hE h
    simp only [kd] at h
    split at h
    · cases h
    · rename_i z
      have ed : d = false := by
        cases d with
        | false => rfl
        | true => simp at z
      obtain ⟨j, h2, h3⟩ := kd_and h
      have ej := iha (hE.set x fun _ => ⟨ed, fun _ z => by cases z⟩) h2
      exact ihb (hE.set f fun _ => ⟨ej, fun d' z => by cases z; exact ed⟩) h3
  | use f a iha =>
    intro E fr k hE h
    simp only [kd] at h
    cases z : E f with
    | none => rw [z] at h; cases h
    | some u =>
      rw [z] at h
      dsimp only at h
      split at h
      · rename_i y
        cases z2 : u.dom with
        | none => rw [z2] at h; cases h
        | some d =>
          rw [z2] at h
          obtain ⟨_, _, h3⟩ := kd_and h
          cases h3
          exact (hE f u z y).1
      · cases h
  | un o a iha =>
    intro E fr k hE h
    cases o with
    | hole =>
      simp only [kd] at h
      split at h
      · cases h
      · obtain ⟨_, _, h3⟩ := kd_and h
        cases h3
        rfl
    | _ => simp [kd] at h
theorem EnvR.one {W : Wd} {E : Env} {Ev : Evs} {ρ : W.I → PDs} {δ κ : Hts} (q : EnvR W E Ev ρ δ κ) : One E := fun x u e hl => by
  have z := q x u e
  obtain ⟨lv, dom, k⟩ := u
  cases hl
  cases dom
  · exact ⟨z.1, fun d y => by cases y⟩
  · exact ⟨z.1, fun d y => by cases y; exact z.2.1⟩
/-- what is true of every term that has a kind -/
def Adq (t : Tm) : Prop := ∀ {W : Wd} {E : Env} {Ev : Evs} {ρ : W.I → PDs} {δ κ : Hts} {l fr k : Bool} {n : Nat}, kd t l E fr = .ok k → EnvR W E Ev ρ δ κ → W.Fine n → n + cnt t κ < NB → t.size ≤ 400000 → (l = false → fr = true → W.Γ = Sco.nil) →
  (l = false → Out W k (.tell t Ev) n (hgt t δ) (cnt t κ) fun ι => vl t (ρ ι)) ∧ (l = true → OutM W t.size (.make t Ev) n (hgt t δ) (cnt t κ) fun ι => vl t (ρ ι))
theorem adq_num (m : Int) : Adq (.num m) := by
  intro W E Ev ρ δ κ l fr k n hk hE hf hn hz hr
  cases hk
  refine ⟨fun hl => ?_, fun hl => ?_⟩
  · exact .step (L' := []) (G' := [_]) (n1 := n) (c1 := 0) (fun K F => .num) (goods1 (fun z => nomatch z)) (by show 1 ≤ 3 * 1; omega) (Nat.zero_le _) (Nat.le_refl _) (by omega) (by omega) (.done (.num (.mod _) fun _ => rfl))
  · refine .step (L' := []) (G' := [_]) (n1 := n) (c1 := 0) (fun K F => .mnum) (goods1 (by refine ⟨?_, ?_, ?_⟩ <;> (intro z; cases z))) (by show 1 ≤ 3 * 1; omega) (Nat.zero_le _) (Nat.le_refl _) (by omega) (by omega) (.done ⟨_, rfl, ⟨trivial, trivial, fun _ => rfl⟩, ?_⟩)
    show 1 ≤ 2000 * 1
    omega
theorem adq_name (x : Str) : Adq (.name x) := by
  intro W E Ev ρ δ κ l fr k n hk hE hf hn hz hr
  have ⟨u, hu, hl, hd0, ek⟩ : ∃ u, E x = some u ∧ u.lv = l ∧ u.dom = none ∧ u.k = k := by
    simp only [kd] at hk
    cases z : E x with
    | none => rw [z] at hk; cases hk
    | some u =>
      rw [z] at hk
      dsimp only at hk
      split at hk
      · rename_i y
        cases z2 : u.dom with
        | none => rw [z2] at hk; cases hk; exact ⟨u, rfl, y, z2, rfl⟩
        | some d => rw [z2] at hk; cases hk
      · cases hk
  obtain ⟨lv, dom, k0⟩ := u
  subst hl hd0 ek
  have q := hE x _ hu
  refine ⟨fun hl => ?_, fun hl => ?_⟩
  · cases lv with
    | true => cases hl
    | false =>
      obtain ⟨g, h1, h2⟩ := q
      refine .step (L' := []) (G' := [_]) (n1 := n) (c1 := 0) (fun K F => .name h2.bad) (goods1 (fun z => nomatch z)) (by show 1 ≤ 3 * 1; omega) (Nat.zero_le _) (Nat.le_refl _) (by omega) (by omega) (.done ?_)
      have e : (fun ι => vl (.name x) (ρ ι)) = g := funext fun ι => by show (ρ ι x).int = g ι; rw [show ρ ι x = _ from h1 ι]; rfl
      rw [e]
      exact h2
  · cases lv with
    | false => cases hl
    | true =>
      obtain ⟨h0, s, h1, h2, h3⟩ := q
      refine .step (L' := []) (G' := [_]) (n1 := n) (c1 := 0) (fun K F => .mname h1) (goods1 (by refine ⟨?_, ?_, ?_⟩ <;> (intro z; cases z))) (by show 1 ≤ 3 * 1; omega) (Nat.zero_le _) (Nat.le_refl _) (by omega) (by omega) (.done ⟨_, rfl, ⟨trivial, h2, fun ι => ?_⟩, by show 1 ≤ 2000 * 1; omega⟩)
      obtain ⟨i, a, b, c⟩ := h3 ι
      show (W.θ ι s).int = (ρ ι x).int
      rw [b, show ρ ι x = _ from c]
theorem adq_bin {o : Bin} {a b : Tm} (iha : Adq a) (ihb : Adq b) : Adq (.bin o a b) := by
  intro W E Ev ρ δ κ l fr k n hk hE hf hn hz hr
  obtain ⟨_, k0, k1⟩ := kd_and (show Kd.and ((kd a l E fr).want false) (fun _ => (kd b l E fr).want false) = .ok k from hk)
  obtain ⟨k0, _⟩ := kd_want k0
  obtain ⟨k1b, ek⟩ := kd_want k1
  subst ek
  simp only [cnt] at hn
  simp only [Tm.size] at hz
  refine ⟨fun hl => ?_, fun hl => ?_⟩
  · subst hl
    refine .step (L' := [_, _, _]) (G' := []) (n1 := n) (c1 := cnt a κ + cnt b κ) (fun K F => .bin) (goods1 (good_tell hk)) (by show 1 ≤ 3 * (1 + _); omega) (Nat.zero_le _) (Nat.le_refl _) (by omega) (Nat.le_refl _) ?_
    refine .bind ((iha k0 hE hf (by omega) (by omega) hr).1 rfl) (goods2 (good_tell k1b) trivial) (by show 2 + _ ≤ 3 * (1 + max _ _); omega) (by show 0 + _ ≤ 3 * (1 + max _ _); omega) (by omega) (c2 := cnt b κ) (Nat.le_refl _) fun v n1 l1 l2 hv => ?_
    refine .bind ((ihb k1b hE (hf.mono l1) (by omega) (by omega) hr).1 rfl) (goods1 trivial) (by show 1 + _ ≤ 3 * (1 + max _ _); omega) (by show 1 + _ ≤ 3 * (1 + max _ _); omega) (by omega) (c2 := 0) (Nat.le_refl _) fun v2 n2 m1 m2 hv2 => ?_
    cases hv with
    | num hi gi =>
      cases hv2 with
      | num hj gj =>
        refine .step (L' := []) (G' := [_]) (n1 := n2) (c1 := 0) (fun K F => .reckon hi.1 hi.2) (goods1 trivial) (by show 1 ≤ 3 * (1 + _); omega) (by show 2 ≤ 3 * (1 + _); omega) (Nat.le_refl _) (by omega) (by omega) (.done (.num (.op _ _ _) fun ι => ?_))
        show o.op (vl a (ρ ι)) (vl b (ρ ι)) = _
        rw [show vl a (ρ ι) = _ from gi ι, show vl b (ρ ι) = _ from gj ι]
  · subst hl
    refine .step (L' := [_, _, _]) (G' := []) (n1 := n) (c1 := cnt a κ + cnt b κ) (fun K F => .mbin) (goods1 (good_make hk)) (by show 1 ≤ 3 * (1 + _); omega) (Nat.zero_le _) (Nat.le_refl _) (by omega) (Nat.le_refl _) ?_
    refine .bind ((iha k0 hE hf (by omega) (by omega) hr).2 rfl) (goods2 (good_make k1b) trivial) (by show 2 + _ ≤ 3 * (1 + max _ _); omega) (by show 0 + _ ≤ 3 * (1 + max _ _); omega) (by omega) (c2 := cnt b κ) (Nat.le_refl _) fun v n1 l1 l2 ⟨pa, ea, qa, za⟩ => ?_
    refine .bind ((ihb k1b hE (hf.mono l1) (by omega) (by omega) hr).2 rfl) (goods1 trivial) (by show 1 + _ ≤ 3 * (1 + max _ _); omega) (by show 1 + _ ≤ 3 * (1 + max _ _); omega) (by omega) (c2 := 0) (Nat.le_refl _) fun v2 n2 m1 m2 ⟨pb, eb, qb, zb⟩ => ?_
    subst ea eb
    refine .step (L' := []) (G' := [_]) (n1 := n2) (c1 := 0) (fun K F => .put (t := .bin o a b) (ps := [pa, pb]) rfl (fun z => nomatch z)) (goods1 trivial) (by show 1 ≤ 3 * (1 + _); omega) (by show 2 ≤ 3 * (1 + _); omega) (Nat.le_refl _) (by omega) (by omega) (.done ⟨.bin o pa pb, rfl, ⟨⟨qa.plain, qb.plain⟩, ⟨qa.sc, qb.sc⟩, fun ι => ?_⟩, ?_⟩)
    · show o.op (vl pa _) (vl pb _) = o.op _ _
      rw [qa.val, qb.val]
    · simp only [Tm.size]
      omega

theorem adq_cond {c a b : Tm} (ihc : Adq c) (iha : Adq a) (ihb : Adq b) : Adq (.cond c a b) := by
  intro W E Ev ρ δ κ l fr k n hk hE hf hn hz hr
  obtain ⟨_, k0, k1⟩ := kd_and (show Kd.and ((kd c l E fr).want false) (fun _ => (kd a l E fr).and fun k => (kd b l E fr).want k) = .ok k from hk)
  obtain ⟨k0, _⟩ := kd_want k0
  obtain ⟨j, k1, k2⟩ := kd_and k1
  obtain ⟨k2b, ek⟩ := kd_want k2
  subst ek
  simp only [cnt] at hn
  simp only [Tm.size] at hz
  refine ⟨fun hl => ?_, fun hl => ?_⟩
  · subst hl
    refine .step (L' := [_, _]) (G' := []) (n1 := n) (c1 := cnt c κ + (cnt a κ + cnt b κ)) (fun K F => .cond) (goods1 (good_tell hk)) (by show 1 ≤ 3 * (1 + _); omega) (Nat.zero_le _) (Nat.le_refl _) (by omega) (Nat.le_refl _) ?_
    refine .bind ((ihc k0 hE hf (by omega) (by omega) hr).1 rfl) (goods1 trivial) (by show 1 + _ ≤ 3 * (1 + max _ _); omega) (by show 0 + _ ≤ 3 * (1 + max _ _); omega) (by omega) (c2 := cnt a κ + cnt b κ) (Nat.le_refl _) fun v n1 l1 l2 hv => ?_
    have ia := (iha (δ := δ) k1 hE (hf.mono l1) (by omega) (by omega) hr).1 rfl
    have ib := (ihb (δ := δ) k2b hE (hf.mono l1) (by omega) (by omega) hr).1 rfl
    cases hv with
    | num hi gi =>
      rename_i i
      by_cases z : i = 0
      · subst z
        refine .step (L' := [_]) (G' := []) (n1 := n1) (c1 := cnt b κ) (fun K F => .chooseB) (goods1 trivial) (by show 1 ≤ 3 * (1 + _); omega) (by show 1 ≤ 3 * (1 + _); omega) (Nat.le_refl _) (by omega) (by omega) (.mono (h1 := hgt b δ) (.weak (fun v hv => ?_) ib) (by show _ ≤ 1 + max _ (max _ _); omega) (Nat.le_refl _))
        have e : (fun ι => vl (.cond c a b) (ρ ι)) = fun ι => vl b (ρ ι) := funext fun ι => by show (if vl c (ρ ι) = 0 then _ else _) = _; rw [if_pos (gi ι)]
        rw [e]
        exact hv
      · refine .step (L' := [_]) (G' := []) (n1 := n1) (c1 := cnt a κ) (fun K F => .chooseA z) (goods1 trivial) (by show 1 ≤ 3 * (1 + _); omega) (by show 1 ≤ 3 * (1 + _); omega) (Nat.le_refl _) (by omega) (by omega) (.mono (h1 := hgt a δ) (.weak (fun v hv => ?_) ia) (by show _ ≤ 1 + max _ (max _ _); omega) (Nat.le_refl _))
        have e : (fun ι => vl (.cond c a b) (ρ ι)) = fun ι => vl a (ρ ι) := funext fun ι => by show (if vl c (ρ ι) = 0 then _ else _) = _; rw [if_neg (by rw [show vl c (ρ ι) = _ from gi ι]; exact z)]
        rw [e]
        exact hv
  · subst hl
    have ea0 := kd_one a hE.one k1
    subst ea0
    refine .step (L' := [_, _, _, _]) (G' := []) (n1 := n) (c1 := cnt c κ + (cnt a κ + cnt b κ)) (fun K F => .mcond) (goods1 (good_make hk)) (by show 1 ≤ 3 * (1 + _); omega) (Nat.zero_le _) (Nat.le_refl _) (by omega) (Nat.le_refl _) ?_
    refine .bind ((ihc k0 hE hf (by omega) (by omega) hr).2 rfl) (goods3 (good_make k1) (good_make k2b) trivial) (by show 3 + _ ≤ 3 * (1 + max _ _); omega) (by show 0 + _ ≤ 3 * (1 + max _ _); omega) (by omega) (c2 := cnt a κ + cnt b κ) (Nat.le_refl _) fun v n1 l1 l2 ⟨pc, ec, qc, zc⟩ => ?_
    refine .bind ((iha k1 hE (hf.mono l1) (by omega) (by omega) hr).2 rfl) (goods2 (good_make k2b) trivial) (by show 2 + _ ≤ 3 * (1 + max _ (max _ _)); omega) (by show 1 + _ ≤ 3 * (1 + max _ (max _ _)); omega) (by omega) (c2 := cnt b κ) (Nat.le_refl _) fun v2 n2 m1 m2 ⟨pa, ea, qa, za⟩ => ?_
    refine .bind ((ihb k2b hE (hf.mono (by omega)) (by omega) (by omega) hr).2 rfl) (goods1 trivial) (by show 1 + _ ≤ 3 * (1 + max _ (max _ _)); omega) (by show 2 + _ ≤ 3 * (1 + max _ (max _ _)); omega) (by omega) (c2 := 0) (Nat.le_refl _) fun v3 n3 o1 o2 ⟨pb, eb, qb, zb⟩ => ?_
    subst ec ea eb
    refine .step (L' := []) (G' := [_]) (n1 := n3) (c1 := 0) (fun K F => .put (t := .cond c a b) (ps := [pc, pa, pb]) rfl (fun z => nomatch z)) (goods1 trivial) (by show 1 ≤ 3 * (1 + _); omega) (by show 3 ≤ 3 * (1 + _); omega) (Nat.le_refl _) (by omega) (by omega) (.done ⟨.cond pc pa pb, rfl, ⟨⟨qc.plain, qa.plain, qb.plain⟩, ⟨qc.sc, qa.sc, qb.sc⟩, fun ι => ?_⟩, ?_⟩)
    · show (if vl pc _ = 0 then vl pb _ else vl pa _) = if _ = 0 then _ else _
      rw [qa.val, qb.val, qc.val]
    · simp only [Tm.size]
      omega
theorem EntR.value {W : Wd} {v : EV} {k : Bool} {g : W.I → Int} (h : VR W k v g) : EntR W ⟨false, none, k⟩ v (fun ι => .val (g ι)) 0 0 := ⟨g, fun _ => rfl, h⟩
theorem adq_letx {x : Str} {a b : Tm} (iha : Adq a) (ihb : Adq b) : Adq (.letx x a b) := by
  intro W E Ev ρ δ κ l fr k n hk hE hf hn hz hr
  obtain ⟨j, k0, k1⟩ := kd_and (show Kd.and (kd a l E fr) (fun k => kd b l (E.set x ⟨l, none, k⟩) fr) = .ok k from hk)
  simp only [cnt] at hn
  simp only [Tm.size] at hz
  refine ⟨fun hl => ?_, fun hl => ?_⟩
  · subst hl
    refine .step (L' := [_, _]) (G' := []) (n1 := n) (c1 := cnt a κ + cnt b (κ.set x 0)) (fun K F => .letx) (goods1 (good_tell hk)) (by show 1 ≤ 3 * (1 + _); omega) (Nat.zero_le _) (Nat.le_refl _) (by omega) (by show _ ≤ n + (1 + _); omega) ?_
    refine .bind ((iha k0 hE hf (by omega) (by omega) hr).1 rfl) (goods1 trivial) (by show 1 + _ ≤ 3 * (1 + max _ _); omega) (by show 0 + _ ≤ 3 * (1 + max _ _); omega) (by omega) (c2 := cnt b (κ.set x 0)) (Nat.le_refl _) fun v n1 l1 l2 hv => ?_
    have ib := (ihb (δ := δ.set x 0) (κ := κ.set x 0) k1 (hE.set x (EntR.value hv)) (hf.mono l1) (by omega) (by omega) hr).1 rfl
    exact .step (L' := [_]) (G' := []) (n1 := n1) (c1 := cnt b (κ.set x 0)) (fun K F => .goB hv.bad) (goods1 trivial) (by show 1 ≤ 3 * (1 + _); omega) (by show 1 ≤ 3 * (1 + _); omega) (Nat.le_refl _) (by omega) (Nat.le_refl _) (.mono (h1 := hgt b (δ.set x 0)) ib (by show _ ≤ 1 + max _ _; omega) (Nat.le_refl _))
  · subst hl
    have ej := kd_one a hE.one k0
    subst ej
    refine .step (L' := [_, _, _]) (G' := []) (n1 := n + 1) (c1 := cnt a κ + cnt b (κ.set x 0)) (fun K F => .mletx) (goods1 (good_make hk)) (by show 1 ≤ 3 * (1 + _); omega) (Nat.zero_le _) (Nat.le_succ _) (by omega) (by show n + 1 + _ ≤ n + (1 + _); omega) ?_
    refine .bind ((iha k0 hE (hf.mono (Nat.le_succ _)) (by omega) (by omega) hr).2 rfl) (goods2 (good_make k1) trivial) (by show 2 + _ ≤ 3 * (1 + max _ _); omega) (by show 0 + _ ≤ 3 * (1 + max _ _); omega) (by omega) (c2 := cnt b (κ.set x 0)) (Nat.le_refl _) fun v n1 l1 l2 ⟨pa, ea, qa, za⟩ => ?_
    have hi : ∀ ι, In (vl a (ρ ι)) := fun ι => qa.in hf ι
    obtain ⟨hf1, far⟩ := hf.val (m := n + 1) (J := W.I) (π := id) (g := fun ι => vl a (ρ ι)) (by omega) hi
    have hE1 := (hE.far far).set x (u := ⟨true, none, false⟩) (v := .nm (vN (n + 1))) (σ := fun ι => .val (vl a (ρ ι))) (h := 0) (c := 0) ⟨rfl, vN (n + 1), rfl, if_pos rfl, fun ι => ⟨_, hi ι, if_pos rfl, rfl⟩⟩
    refine .bind ((ihb (δ := δ.set x 0) (κ := κ.set x 0) k1 hE1 (hf1.mono (by omega)) (by omega) (by omega) (fun z => nomatch z)).2 rfl) (goods1 trivial) (by show 1 + _ ≤ 3 * (1 + max _ _); omega) (by show 1 + _ ≤ 3 * (1 + max _ _); omega) (by omega) (c2 := 0) (Nat.le_refl _) fun v2 n2 m1 m2 ⟨pb, eb, qb, zb⟩ => ?_
    subst ea eb
    refine .step (L' := []) (G' := [_]) (n1 := n2) (c1 := 0) (fun K F => .put (t := .letx (vN (n + 1)) a b) (ps := [pa, pb]) rfl (fun z => nomatch z)) (goods1 trivial) (by show 1 ≤ 3 * (1 + _); omega) (by show 2 ≤ 3 * (1 + _); omega) (Nat.le_refl _) (by omega) (by omega) (.done ⟨.letx (vN (n + 1)) pa pb, rfl, ⟨⟨qa.plain, qb.plain⟩, ⟨qa.sc, qb.sc⟩, fun ι => ?_⟩, ?_⟩)
    · show vl pb ((W.θ ι).set (vN (n + 1)) (.val (vl pa (W.θ ι)))) = vl b ((ρ ι).set x (.val (vl a (ρ ι))))
      rw [qa.val]
      exact qb.val ι
    · simp only [Tm.size]
      omega

theorem adq_turns {m : Int} {x : Str} {a b : Tm} (iha : Adq a) (ihb : Adq b) : Adq (.turns m x a b) := by
  intro W E Ev ρ δ κ l fr k n hk hE hf hn hz hr
  obtain ⟨j, k0, k1⟩ := kd_and (show Kd.and (kd a l E fr) (fun k => (kd b l (E.set x ⟨l, none, k⟩) fr).want k) = .ok k from hk)
  obtain ⟨k1b, ek⟩ := kd_want k1
  subst ek
  simp only [cnt] at hn
  simp only [Tm.size] at hz
  obtain ⟨cb, ecb⟩ : ∃ cb, cb = cnt b (κ.set x 0) := ⟨_, rfl⟩
  have em : (1 + m.toNat) * cb = cb + m.toNat * cb := by rw [Nat.add_mul]; omega
  rw [← ecb] at hn
  refine ⟨fun hl => ?_, fun hl => ?_⟩
  · subst hl
    refine .step (L' := [_, _]) (G' := []) (n1 := n) (c1 := cnt a κ + m.toNat * cb) (fun K F => .turns) (goods1 (good_tell hk)) (by show 1 ≤ 3 * (1 + _); omega) (Nat.zero_le _) (Nat.le_refl _) (by omega) (by show _ ≤ n + (1 + (_ + (1 + _) * cnt b (κ.set x 0))); rw [← ecb]; omega) ?_
    refine .bind ((iha k0 hE hf (by omega) (by omega) hr).1 rfl) (goods1 trivial) (by show 1 + _ ≤ 3 * (1 + max _ _); omega) (by show 0 + _ ≤ 3 * (1 + max _ _); omega) (by omega) (c2 := m.toNat * cb) (Nat.le_refl _) fun v n1 l1 l2 hv => ?_
    by_cases z : m ≤ 0
    · have e0 : m.toNat = 0 := by omega
      refine .step (L' := []) (G' := [v]) (n1 := n1) (c1 := 0) (fun K F => .turnN z) (goods1 trivial) (by show 1 ≤ 3 * (1 + _); omega) (by show 1 ≤ 3 * (1 + _); omega) (Nat.le_refl _) (by omega) (by omega) (.done ?_)
      have e : (fun ι => vl (.turns m x a b) (ρ ι)) = fun ι => vl a (ρ ι) := funext fun ι => by show iter _ m.toNat _ = _; rw [e0]; rfl
      rw [e]
      exact hv
    · have t := turn_out (W := W) (j := k) (m := m) (x := x) (a := a) (b := b) (Ev := Ev) (h := hgt (.turns m x a b) δ) (h0 := hgt b (δ.set x 0)) (c0 := cb) (fun ι i => vl b ((ρ ι).set x (.val i))) (by show 1 + _ ≤ 1 + max _ _; omega)
        (fun v n g hv hn hf => by rw [ecb] at hn ⊢; exact (ihb (δ := δ.set x 0) (κ := κ.set x 0) k1b (hE.set x (EntR.value hv)) hf hn (by omega) hr).1 rfl) m.toNat v n1 _ hv (hf.mono l1) (by omega)
      rw [show ((m.toNat : Nat) : Int) = m by omega] at t
      exact t
  · subst hl
    have ej := kd_one a hE.one k0
    subst ej
    refine .step (L' := [_, _, _]) (G' := []) (n1 := n + 1) (c1 := cnt a κ + cb) (fun K F => .mturns) (goods1 (good_make hk)) (by show 1 ≤ 3 * (1 + _); omega) (Nat.zero_le _) (Nat.le_succ _) (by omega) (by show n + 1 + _ ≤ n + (1 + (_ + (1 + _) * cnt b (κ.set x 0))); rw [← ecb]; omega) ?_
    refine .bind ((iha k0 hE (hf.mono (Nat.le_succ _)) (by omega) (by omega) hr).2 rfl) (goods2 (good_make k1b) trivial) (by show 2 + _ ≤ 3 * (1 + max _ _); omega) (by show 0 + _ ≤ 3 * (1 + max _ _); omega) (by omega) (c2 := cb) (Nat.le_refl _) fun v n1 l1 l2 ⟨pa, ea, qa, za⟩ => ?_
    obtain ⟨hf1, far⟩ := hf.val (m := n + 1) (J := W.I × {i : Int // In i}) (π := Prod.fst) (g := fun p => p.2.1) (by omega) (fun p => p.2.2)
    have hE1 := (hE.far far).set x (u := ⟨true, none, false⟩) (v := .nm (vN (n + 1))) (σ := fun p => .val p.2.1) (h := 0) (c := 0) ⟨rfl, vN (n + 1), rfl, if_pos rfl, fun p => ⟨_, p.2.2, if_pos rfl, rfl⟩⟩
    rw [ecb]
    refine .bind ((ihb (δ := δ.set x 0) (κ := κ.set x 0) k1b hE1 (hf1.mono (by omega)) (by omega) (by omega) (fun z => nomatch z)).2 rfl) (goods1 trivial) (by show 1 + _ ≤ 3 * (1 + max _ _); omega) (by show 1 + _ ≤ 3 * (1 + max _ _); omega) (by omega) (c2 := 0) (Nat.le_refl _) fun v2 n2 m1 m2 ⟨pb, eb, qb, zb⟩ => ?_
    subst ea eb
    refine .step (L' := []) (G' := [_]) (n1 := n2) (c1 := 0) (fun K F => .put (t := .turns m (vN (n + 1)) a b) (ps := [pa, pb]) rfl (fun z => nomatch z)) (goods1 trivial) (by show 1 ≤ 3 * (1 + _); omega) (by show 2 ≤ 3 * (1 + _); omega) (Nat.le_refl _) (by omega) (by omega) (.done ⟨.turns m (vN (n + 1)) pa pb, rfl, ⟨⟨qa.plain, qb.plain⟩, ⟨qa.sc, qb.sc⟩, fun ι => ?_⟩, ?_⟩)
    · show iter (fun i => vl pb ((W.θ ι).set (vN (n + 1)) (.val i))) m.toNat (vl pa (W.θ ι)) = iter (fun i => vl b ((ρ ι).set x (.val i))) m.toNat (vl a (ρ ι))
      rw [qa.val]
      refine (iter_agr (fun i hi => ?_) _ (qa.in hf ι)).1
      have z := qb.val (ι, ⟨i, hi⟩)
      have z2 := (vl_agr pb qb.sc (hf1.1 (ι, ⟨i, hi⟩))).2
      exact ⟨z, z2⟩
    · simp only [Tm.size]
      omega
theorem adq_deff {f x : Str} {d : Bool} {a b : Tm} (iha : Adq a) (ihb : Adq b) : Adq (.deff f x d a b) := by
  intro W E Ev ρ δ κ l fr k n hk hE hf hn hz hr
  have ⟨hld, j, k0, k1⟩ : ¬ (l = true ∧ d = true) ∧ ∃ j, kd a l (E.set x ⟨l, none, d⟩) false = .ok j ∧ kd b l (E.set f ⟨l, some d, j⟩) fr = .ok k := by
    simp only [kd] at hk
    split at hk
    · cases hk
    · rename_i z
      exact ⟨z, kd_and hk⟩
  simp only [cnt] at hn
  simp only [Tm.size] at hz
  refine ⟨fun hl => ?_, fun hl => ?_⟩
  · subst hl
    have q : EntR W ⟨false, some d, j⟩ (.fn f x d a b Ev) (fun ι => .fn fun i => vl a ((ρ ι).set x (.val i))) (hgt a (δ.set x 0)) (cnt a (κ.set x 0)) :=
      ⟨f, x, d, a, b, Ev, rfl, fun ι => ⟨_, rfl⟩, fun W' π far n hn hc v g hv => (iha (δ := δ.set x 0) (κ := κ.set x 0) k0 ((hE.far far).set x (EntR.value hv)) hn hc (by omega) (fun _ z => nomatch z)).1 rfl⟩
    have ib := (ihb (δ := δ.set f (hgt a (δ.set x 0))) (κ := κ.set f (cnt a (κ.set x 0))) k1 (hE.set f q) hf (by omega) (by omega) hr).1 rfl
    exact .step (L' := [_]) (G' := []) (n1 := n) (c1 := cnt b (κ.set f (cnt a (κ.set x 0)))) (fun K F => .deff) (goods1 (good_tell hk)) (by show 1 ≤ 3 * (1 + _); omega) (Nat.zero_le _) (Nat.le_refl _) (by omega) (by show _ ≤ n + (2 + (_ + _)); omega) (.mono (h1 := hgt b (δ.set f (hgt a (δ.set x 0)))) ib (by show _ ≤ 1 + max _ _; omega) (Nat.le_refl _))
  · subst hl
    have ed : d = false := by
      cases d with
      | false => rfl
      | true => exact absurd ⟨rfl, rfl⟩ hld
    subst ed
    have ej := kd_one a (hE.one.set x (u := ⟨true, none, false⟩) fun _ => ⟨rfl, fun _ z => by cases z⟩) k0
    subst ej
    refine .step (L' := [_, _, _]) (G' := []) (n1 := n + 2) (c1 := cnt a (κ.set x 0) + cnt b (κ.set f (cnt a (κ.set x 0)))) (fun K F => .mdeff) (goods1 (good_make hk)) (by show 1 ≤ 3 * (1 + _); omega) (Nat.zero_le _) (by omega) (by omega) (by show n + 2 + _ ≤ n + (2 + (_ + _)); omega) ?_
    obtain ⟨hfa, fara⟩ := hf.val (m := n + 2) (J := W.I × {i : Int // In i}) (π := Prod.fst) (g := fun p => p.2.1) (by omega) (fun p => p.2.2)
    have hEa := (hE.far fara).set x (u := ⟨true, none, false⟩) (v := .nm (vN (n + 2))) (σ := fun p => .val p.2.1) (h := 0) (c := 0) ⟨rfl, vN (n + 2), rfl, if_pos rfl, fun p => ⟨_, p.2.2, if_pos rfl, rfl⟩⟩
    refine .bind ((iha (δ := δ.set x 0) (κ := κ.set x 0) k0 hEa hfa (by omega) (by omega) (fun z => nomatch z)).2 rfl) (goods2 (good_make k1) trivial) (by show 2 + _ ≤ 3 * (1 + max _ _); omega) (by show 0 + _ ≤ 3 * (1 + max _ _); omega) (by omega) (c2 := cnt b (κ.set f (cnt a (κ.set x 0)))) (Nat.le_refl _) fun v n1 l1 l2 ⟨pa, ea, qa, za⟩ => ?_
    have va : ∀ ι i, (hi : In i) → vl pa ((W.θ ι).set (vN (n + 2)) (.val i)) = vl a ((ρ ι).set x (.val i)) ∧ In (vl pa ((W.θ ι).set (vN (n + 2)) (.val i))) := fun ι i hi => ⟨qa.val (ι, ⟨i, hi⟩), (vl_agr pa qa.sc (hfa.1 (ι, ⟨i, hi⟩))).2⟩
    obtain ⟨hfb, farb⟩ := hf.fnc (m := n + 1) (φ := fun ι i => vl pa ((W.θ ι).set (vN (n + 2)) (.val i))) (by omega) fun ι i hi => (va ι i hi).2
    have hEb := (hE.far farb).set f (u := ⟨true, some false, false⟩) (v := .nm (vN (n + 1))) (σ := fun ι => .fn fun i => vl a ((ρ ι).set x (.val i))) (h := hgt a (δ.set x 0)) (c := cnt a (κ.set x 0)) ⟨rfl, rfl, vN (n + 1), rfl, if_pos rfl, fun ι => ⟨_, _, if_pos rfl, rfl, va ι⟩⟩
    refine .bind ((ihb (δ := δ.set f (hgt a (δ.set x 0))) (κ := κ.set f (cnt a (κ.set x 0))) k1 hEb (hfb.mono (by omega)) (by omega) (by omega) (fun z => nomatch z)).2 rfl) (goods1 trivial) (by show 1 + _ ≤ 3 * (1 + max _ _); omega) (by show 1 + _ ≤ 3 * (1 + max _ _); omega) (by omega) (c2 := 0) (Nat.le_refl _) fun v2 n2 m1 m2 ⟨pb, eb, qb, zb⟩ => ?_
    subst ea eb
    refine .step (L' := []) (G' := [_]) (n1 := n2) (c1 := 0) (fun K F => .put (t := .deff (vN (n + 1)) (vN (n + 2)) false a b) (ps := [pa, pb]) rfl (fun z => nomatch z)) (goods1 trivial) (by show 1 ≤ 3 * (1 + _); omega) (by show 2 ≤ 3 * (1 + _); omega) (Nat.le_refl _) (by omega) (by omega) (.done ⟨.deff (vN (n + 1)) (vN (n + 2)) false pa pb, rfl, ⟨⟨qa.plain, qb.plain⟩, ⟨qa.sc, qb.sc⟩, fun ι => ?_⟩, ?_⟩)
    · exact qb.val ι
    · simp only [Tm.size]
      omega

theorem adq_use {f : Str} {a : Tm} (iha : Adq a) : Adq (.use f a) := by
  intro W E Ev ρ δ κ l fr k n hk hE hf hn hz hr
  have ⟨u, d, hu, hl, hd0, k0, ek⟩ : ∃ u d, E f = some u ∧ u.lv = l ∧ u.dom = some d ∧ kd a l E fr = .ok d ∧ u.k = k := by
    simp only [kd] at hk
    cases z : E f with
    | none => rw [z] at hk; cases hk
    | some u =>
      rw [z] at hk
      dsimp only at hk
      split at hk
      · rename_i y
        cases z2 : u.dom with
        | none => rw [z2] at hk; cases hk
        | some d =>
          rw [z2] at hk
          obtain ⟨_, z3, z4⟩ := kd_and hk
          cases z4
          exact ⟨u, d, rfl, y, z2, (kd_want z3).1, rfl⟩
      · cases hk
  obtain ⟨lv, dom, k1⟩ := u
  subst hl hd0 ek
  have q := hE f _ hu
  simp only [cnt] at hn
  simp only [Tm.size] at hz
  refine ⟨fun hl => ?_, fun hl => ?_⟩
  · cases lv with
    | true => cases hl
    | false =>
      obtain ⟨f', y, j, a', b', E', e1, e2, e3⟩ := q
      refine .step (L' := [_, _]) (G' := []) (n1 := n) (c1 := cnt a κ + κ f) (fun K F => .use e1) (goods1 (good_tell hk)) (by show 1 ≤ 3 * (1 + _); omega) (Nat.zero_le _) (Nat.le_refl _) (by omega) (Nat.le_refl _) ?_
      refine .bind ((iha k0 hE hf (by omega) (by omega) hr).1 rfl) (goods1 trivial) (by show 1 + _ ≤ 3 * (1 + max _ _); omega) (by show 0 + _ ≤ 3 * (1 + max _ _); omega) (by omega) (c2 := κ f) (Nat.le_refl _) fun v n1 l1 l2 hv => ?_
      have o := e3 W id (Far.refl hf) n1 (hf.mono l1) (by omega) v _ hv
      exact .step (L' := [_]) (G' := []) (n1 := n1) (c1 := κ f) (fun K F => .goF hv.bad) (goods1 trivial) (by show 1 ≤ 3 * (1 + _); omega) (by show 1 ≤ 3 * (1 + _); omega) (Nat.le_refl _) (by omega) (Nat.le_refl _) (.mono (h1 := δ f) o (by show _ ≤ 1 + max _ _; omega) (Nat.le_refl _))
  · cases lv with
    | false => cases hl
    | true =>
      obtain ⟨h0, h00, s, h1, h2, h3⟩ := q
      subst h00
      refine .step (L' := [_, _]) (G' := []) (n1 := n) (c1 := cnt a κ) (fun K F => .muse h1) (goods1 (by refine ⟨?_, ?_, ?_⟩ <;> (intro z; cases z))) (by show 1 ≤ 3 * (1 + _); omega) (Nat.zero_le _) (Nat.le_refl _) (by omega) (by show n + _ ≤ n + (_ + _); omega) ?_
      refine .bind ((iha k0 hE hf (by omega) (by omega) hr).2 rfl) (goods1 trivial) (by show 1 + _ ≤ 3 * (1 + max _ _); omega) (by show 0 + _ ≤ 3 * (1 + max _ _); omega) (by omega) (c2 := 0) (Nat.le_refl _) fun v n1 l1 l2 ⟨pa, ea, qa, za⟩ => ?_
      subst ea
      refine .step (L' := []) (G' := [_]) (n1 := n1) (c1 := 0) (fun K F => .put (t := .use s a) (ps := [pa]) rfl (fun z => nomatch z)) (goods1 trivial) (by show 1 ≤ 3 * (1 + _); omega) (by show 1 ≤ 3 * (1 + _); omega) (Nat.le_refl _) (by omega) (by omega) (.done ⟨.use s pa, rfl, ⟨qa.plain, ⟨h2, qa.sc⟩, fun ι => ?_⟩, ?_⟩)
      · obtain ⟨φ, ψ, b1, b2, b3⟩ := h3 ι
        show (W.θ ι s).app (vl pa (W.θ ι)) = (ρ ι f).app (vl a (ρ ι))
        rw [b1, show ρ ι f = _ from b2, qa.val]
        exact (b3 _ (qa.in hf ι)).1
      · simp only [Tm.size]
        omega
theorem adq_quote {a : Tm} (iha : Adq a) : Adq (.un .quote a) := by
  intro W E Ev ρ δ κ l fr k n hk hE hf hn hz hr
  have hk0 := hk
  simp only [kd] at hk
  split at hk
  · cases hk
  rename_i hl0
  obtain ⟨_, z1, z2⟩ := kd_and hk
  cases z2
  have h1 := (kd_want z1).1
  have hn' : n + cnt a κ < NB := hn
  have hz' : 1 + a.size ≤ 400000 := hz
  refine ⟨fun hl => ?_, fun hl => absurd hl hl0⟩
  subst hl
  refine .step (L' := [_, _]) (G' := []) (n1 := n) (c1 := cnt a κ) (fun K F => .quote) (goods1 (good_tell hk0)) (by show 1 ≤ 3 * (1 + _); omega) (Nat.zero_le _) (Nat.le_refl _) (by omega) (Nat.le_refl _) ?_
  refine .bind ((iha (δ := δ) h1 hE hf hn' (by omega) (fun z => nomatch z)).2 rfl) (goods1 trivial) (by show 1 + _ ≤ 3 * (1 + _); omega) (by show 0 + _ ≤ 3 * (1 + _); omega) hn' (c2 := 0) (Nat.le_refl _) fun v n1 l1 l2 ⟨pa, ea, qa, za⟩ => ?_
  subst ea
  by_cases z : pa.size ≤ 2000 ∧ pa.deep ≤ 30
  · exact .step (L' := []) (G' := [_]) (n1 := n1) (c1 := 0) (fun K F => .fits z.1 z.2) (goods1 trivial) (by show 1 ≤ 3 * (1 + _); omega) (by show 1 ≤ 3 * (1 + _); omega) (Nat.le_refl _) (by omega) (by omega) (.done (.piece ⟨qa.plain, qa.sc, qa.val⟩ z.1 z.2))
  · refine .inl fun K F q => ⟨1, .boom (q.fit (L := [_]) (G := [_]) (goods1 trivial) (by show 1 ≤ 3 * (1 + _); omega) (by show 1 ≤ 3 * (1 + _); omega)) (.mk (by omega) (by omega))⟩
theorem adq_hole {a : Tm} (iha : Adq a) : Adq (.un .hole a) := by
  intro W E Ev ρ δ κ l fr k n hk hE hf hn hz hr
  have hk0 := hk
  simp only [kd] at hk
  split at hk
  · cases hk
  rename_i hl0
  obtain ⟨_, z1, z2⟩ := kd_and hk
  cases z2
  have h1 := (kd_want z1).1
  have hn' : n + cnt a κ < NB := hn
  have hz' : 1 + a.size ≤ 400000 := hz
  refine ⟨fun hl => absurd hl hl0, fun hl => ?_⟩
  subst hl
  have o := (iha (δ := δ) h1 hE hf hn' (by omega) (fun _ z => nomatch z)).1 rfl
  refine .step (L' := [_]) (G' := []) (n1 := n) (c1 := cnt a κ) (fun K F => .mhole) (goods1 (good_make hk0)) (by show 1 ≤ 3 * (1 + _); omega) (Nat.zero_le _) (Nat.le_refl _) (by omega) (Nat.le_refl _) (.mono (h1 := hgt a δ) (.weak (fun v hv => ?_) o) (by show _ ≤ 1 + _; omega) (Nat.le_refl _))
  cases hv with
  | piece qa s1 s2 => exact ⟨_, rfl, ⟨qa.plain, qa.sc, qa.val⟩, by show _ ≤ 2000 * (1 + _); omega⟩
theorem adq_lift {a : Tm} (iha : Adq a) : Adq (.un .lift a) := by
  intro W E Ev ρ δ κ l fr k n hk hE hf hn hz hr
  have hk0 := hk
  simp only [kd] at hk
  split at hk
  · cases hk
  rename_i hl0
  obtain ⟨_, z1, z2⟩ := kd_and hk
  cases z2
  have h1 := (kd_want z1).1
  have hn' : n + cnt a κ < NB := hn
  have hz' : 1 + a.size ≤ 400000 := hz
  refine ⟨fun hl => ?_, fun hl => absurd hl hl0⟩
  subst hl
  refine .step (L' := [_, _]) (G' := []) (n1 := n) (c1 := cnt a κ) (fun K F => .lift) (goods1 (good_tell hk0)) (by show 1 ≤ 3 * (1 + _); omega) (Nat.zero_le _) (Nat.le_refl _) (by omega) (Nat.le_refl _) ?_
  refine .bind ((iha (δ := δ) h1 hE hf hn' (by omega) hr).1 rfl) (goods1 trivial) (by show 1 + _ ≤ 3 * (1 + _); omega) (by show 0 + _ ≤ 3 * (1 + _); omega) hn' (c2 := 0) (Nat.le_refl _) fun v n1 l1 l2 hv => ?_
  cases hv with
  | num hi gi =>
    refine .step (L' := []) (G' := [_]) (n1 := n1) (c1 := 0) (fun K F => .mkNum) (goods1 trivial) (by show 1 ≤ 3 * (1 + _); omega) (by show 1 ≤ 3 * (1 + _); omega) (Nat.le_refl _) (by omega) (by omega) (.done (.piece ⟨trivial, trivial, fun ι => ?_⟩ (by show 1 ≤ 2000; omega) (by show 1 ≤ 30; omega)))
    show _ % 1000003 = vl a (ρ ι)
    rw [show vl a (ρ ι) = _ from gi ι]
    exact Int.emod_eq_of_lt hi.1 hi.2
theorem adq_run {a : Tm} (iha : Adq a) : Adq (.un .run a) := by
  intro W E Ev ρ δ κ l fr k n hk hE hf hn hz hr
  have hk0 := hk
  simp only [kd] at hk
  split at hk
  · cases hk
  rename_i hl0
  obtain ⟨_, z1, z2⟩ := kd_and hk
  cases z2
  have h1 := (kd_want z1).1
  have hn' : n + cnt a κ < NB := hn
  have hz' : 1 + a.size ≤ 400000 := hz
  refine ⟨fun hl => ?_, fun hl => absurd (.inl hl) hl0⟩
  have hfr : fr = true := by
    cases fr with
    | true => rfl
    | false => exact absurd (.inr rfl) hl0
  subst hl hfr
  have hΓ := hr rfl rfl
  refine .step (L' := [_, _]) (G' := []) (n1 := n) (c1 := cnt a κ) (fun K F => .run) (goods1 (good_tell hk0)) (by show 1 ≤ 3 * (1 + _); omega) (Nat.zero_le _) (Nat.le_refl _) (by omega) (Nat.le_refl _) ?_
  refine .bind ((iha (δ := δ) h1 hE hf hn' (by omega) hr).1 rfl) (goods1 trivial) (by show 1 + _ ≤ 3 * (1 + max _ _); omega) (by show 0 + _ ≤ 3 * (1 + max _ _); omega) hn' (c2 := 0) (Nat.le_refl _) fun v n1 l1 l2 hv => ?_
  cases hv with
  | piece qa s1 s2 =>
    rename_i p
    have sc : Scp .nil p := by rw [← hΓ]; exact qa.sc
    have ad := adq0 p (E := Evs.nil) (ρ := fun _ => .val 0) (δ := fun _ => 0) qa.plain sc .nil
    have hh := hgt_size p (δ := fun _ => 0) (D := 0) qa.plain (fun _ => Nat.le_refl _)
    refine .step (L' := [_]) (G' := []) (n1 := n1) (c1 := 0) (fun K F => .goPiece (by omega)) (goods1 trivial) (by show 1 ≤ 3 * (1 + _); omega) (by show 1 ≤ 3 * (1 + _); omega) (Nat.le_refl _) (by omega) (Nat.le_refl _) (.inr ⟨_, n1, Nat.le_refl _, Nat.le_refl _, .num ad.1 fun ι => ?_, fun K F r q w => ad.2 K F n1 r (q.le (by show _ ≤ 1 + max _ 2000; omega)) w⟩)
    show vl a (ρ ι) = _
    rw [show vl a (ρ ι) = _ from (qa.val ι).symm]
    exact (vl_agr p sc (fun x => trivial)).1
theorem adq : ∀ t : Tm, Adq t := by
  intro t
  induction t with
  | num m => exact adq_num m
  | name x => exact adq_name x
  | bin o a b iha ihb => exact adq_bin iha ihb
  | cond c a b ihc iha ihb => exact adq_cond ihc iha ihb
  | letx x a b iha ihb => exact adq_letx iha ihb
  | turns m x a b iha ihb => exact adq_turns iha ihb
  | deff f x k a b iha ihb => exact adq_deff iha ihb
  | use f a iha => exact adq_use iha
  | un o a iha =>
    cases o
    · exact adq_quote iha
    · exact adq_hole iha
    · exact adq_lift iha
    · exact adq_run iha

/-! ### the machine goes one way -/
def EV.pc : EV → Tm
  | .piece t => t
  | _ => .num 0
def stepF : Cfg → Option Cfg
  | ⟨.tell (.num m) _ :: K, F, n⟩ => some ⟨K, .num (m % 1000003) :: F, n⟩
  | ⟨.tell (.name x) E :: K, F, n⟩ => some ⟨K, E x :: F, n⟩
  | ⟨.tell (.bin o a b) E :: K, F, n⟩ => some ⟨.tell a E :: .tell b E :: .reckon o :: K, F, n⟩
  | ⟨.tell (.cond c a b) E :: K, F, n⟩ => some ⟨.tell c E :: .choose c a b E :: K, F, n⟩
  | ⟨.tell (.letx x a b) E :: K, F, n⟩ => some ⟨.tell a E :: .goB x a b E :: K, F, n⟩
  | ⟨.tell (.turns m x a b) E :: K, F, n⟩ => some ⟨.tell a E :: .turn m x a b m E :: K, F, n⟩
  | ⟨.tell (.deff f x k a b) E :: K, F, n⟩ => some ⟨.tell b (E.set f (.fn f x k a b E)) :: K, F, n⟩
  | ⟨.tell (.use f a) E :: K, F, n⟩ => match E f with
    | .fn f' x k a' b' E' => some ⟨.tell a E :: .goF f' x k a' b' E' :: K, F, n⟩
    | _ => none
  | ⟨.tell (.un .quote a) E :: K, F, n⟩ => some ⟨.make a E :: .tooGreat :: K, F, n⟩
  | ⟨.tell (.un .lift a) E :: K, F, n⟩ => some ⟨.tell a E :: .mkNum :: K, F, n⟩
  | ⟨.tell (.un .run a) E :: K, F, n⟩ => some ⟨.tell a E :: .goPiece :: K, F, n⟩
  | ⟨.tell (.un .hole _) _ :: _, _, _⟩ => none
  | ⟨.reckon o :: K, .num j :: .num i :: F, n⟩ => some ⟨K, .num (o.op i j) :: F, n⟩
  | ⟨.choose _ a b E :: K, .num i :: F, n⟩ => if i = 0 then some ⟨.tell b E :: K, F, n⟩ else some ⟨.tell a E :: K, F, n⟩
  | ⟨.goB x _ b E :: K, v :: F, n⟩ => some ⟨.tell b (E.set x v) :: K, F, n⟩
  | ⟨.turn m x a b k E :: K, F, n⟩ => if k ≤ 0 then some ⟨K, F, n⟩ else match F with
    | v :: F => some ⟨.tell b (E.set x v) :: .turn m x a b (k - 1) E :: K, F, n⟩
    | [] => none
  | ⟨.goF _ x _ a _ E :: K, v :: F, n⟩ => some ⟨.tell a (E.set x v) :: K, F, n⟩
  | ⟨.tooGreat :: K, .piece t :: F, n⟩ => if t.size ≤ 2000 ∧ t.deep ≤ 30 then some ⟨K, .piece t :: F, n⟩ else none
  | ⟨.mkNum :: K, .num i :: F, n⟩ => some ⟨K, .piece (.num i) :: F, n⟩
  | ⟨.goPiece :: K, .piece t :: F, n⟩ => some ⟨.tell t .nil :: K, F, n⟩
  | ⟨.make (.num m) _ :: K, F, n⟩ => some ⟨K, .piece (.num m) :: F, n⟩
  | ⟨.make (.name x) E :: K, F, n⟩ => match E x with
    | .nm s => some ⟨K, .piece (.name s) :: F, n⟩
    | _ => none
  | ⟨.make (.bin o a b) E :: K, F, n⟩ => some ⟨.make a E :: .make b E :: .put (.bin o a b) :: K, F, n⟩
  | ⟨.make (.cond c a b) E :: K, F, n⟩ => some ⟨.make c E :: .make a E :: .make b E :: .put (.cond c a b) :: K, F, n⟩
  | ⟨.make (.letx x a b) E :: K, F, n⟩ => some ⟨.make a E :: .make b (E.set x (.nm (vN (n + 1)))) :: .put (.letx (vN (n + 1)) a b) :: K, F, n + 1⟩
  | ⟨.make (.turns m x a b) E :: K, F, n⟩ => some ⟨.make a E :: .make b (E.set x (.nm (vN (n + 1)))) :: .put (.turns m (vN (n + 1)) a b) :: K, F, n + 1⟩
  | ⟨.make (.deff f x k a b) E :: K, F, n⟩ => some ⟨.make a (E.set x (.nm (vN (n + 2)))) :: .make b (E.set f (.nm (vN (n + 1)))) :: .put (.deff (vN (n + 1)) (vN (n + 2)) k a b) :: K, F, n + 2⟩
  | ⟨.make (.use f a) E :: K, F, n⟩ => match E f with
    | .nm s => some ⟨.make a E :: .put (.use s a) :: K, F, n⟩
    | _ => none
  | ⟨.make (.un .hole a) E :: K, F, n⟩ => some ⟨.tell a E :: K, F, n⟩
  | ⟨.make (.un _ _) _ :: _, _, _⟩ => none
  | ⟨.put t :: K, F, n⟩ => some ⟨K, .piece (t.re ((F.take t.parts.length).reverse.map EV.pc)) :: F.drop t.parts.length, n⟩
  | _ => none
theorem stepF_of {c c' : Cfg} (h : Stp1 c c') : stepF c = some c' := by
  cases h with
  | use e => simp only [stepF, e]
  | mname e => simp only [stepF, e]
  | muse e => simp only [stepF, e]
  | chooseA z => simp only [stepF, if_neg z]
  | chooseB => simp only [stepF, if_pos]
  | turnN z => simp only [stepF, if_pos z]
  | turnS z => simp only [stepF]; rw [if_neg (by omega)]
  | fits a b => simp only [stepF]; rw [if_pos ⟨a, b⟩]
  | put hl hn =>
    rename_i t ps K F n
    have e1 : ((ps.map EV.piece).reverse ++ F).take t.parts.length = (ps.map EV.piece).reverse := by rw [← hl]; exact List.take_left' (by simp)
    have e2 : ((ps.map EV.piece).reverse ++ F).drop t.parts.length = F := by rw [← hl]; exact List.drop_left' (by simp)
    have e3 : ((ps.map EV.piece).reverse.reverse).map EV.pc = ps := by rw [List.reverse_reverse, List.map_map]; exact List.map_id' ps
    simp only [stepF, e1, e2, e3]
  | _ => rfl
theorem stepF_boom {c : Cfg} (h : Boom c) : stepF c = none := by
  cases h with
  | mk a b => simp only [stepF]; rw [if_neg (by omega)]
theorem Ends.det {m : Nat} {c : Cfg} {r : Option (List EV × Nat)} (h : Ends m c r) : ∀ {m' : Nat} {r' : Option (List EV × Nat)}, Ends m' c r' → r = r' := by
  induction h with
  | done =>
    intro m' r' h'
    cases h' with
    | done => rfl
    | boom _ b => cases b
    | step _ s _ => cases s
  | boom _ b =>
    intro m' r' h'
    cases h' with
    | done => cases b
    | boom _ _ => rfl
    | step _ s _ =>
      have z := stepF_boom b
      rw [stepF_of s] at z
      cases z
  | step _ s _ ih =>
    intro m' r' h'
    cases h' with
    | done => cases s
    | boom _ b =>
      have z := stepF_boom b
      rw [stepF_of s] at z
      cases z
    | step _ s' h2 =>
      have z := stepF_of s
      rw [stepF_of s'] at z
      cases z
      exact ih h2
theorem EndsE.det {c : Cfg} {r r' : Option (List EV × Nat)} (h : EndsE c r) (k : EndsE c r') : r = r' := by
  obtain ⟨_, h⟩ := h
  obtain ⟨_, k⟩ := k
  exact h.det k

/-! ### the telling as a function: what it finds, how many names it makes; none: refused -/
inductive VV where
  | num (i : Int)
  | piece (t : Tm)
def VV.i : VV → Int
  | .num i => i
  | .piece _ => 0
def VV.pc : VV → Tm
  | .num _ => .num 0
  | .piece t => t
def VV.ev : VV → EV
  | .num i => .num i
  | .piece t => .piece t
def VV.Is (k : Bool) (v : VV) : Prop := match k with
  | false => ∃ i, v = .num i ∧ In i
  | true => ∃ p, v = .piece p ∧ p.size ≤ 2000 ∧ p.deep ≤ 30
inductive SD where
  | bad
  | val (v : VV)
  | nm (s : Str)
  | fn (φ : VV → Nat → Option (VV × Nat))
abbrev SDs := Str → SD
def SDs.set (E : SDs) (x : Str) (v : SD) : SDs := fun y => if y = x then v else E y
def SD.ap : SD → VV → Nat → Option (VV × Nat)
  | .fn φ => φ
  | _ => fun _ _ => none
def SD.txt : SD → Str
  | .nm s => s
  | _ => Str.empty
def SD.vv : SD → VV
  | .val v => v
  | _ => .num 0
def bnd (o : Option (VV × Nat)) (k : VV → Nat → Option (VV × Nat)) : Option (VV × Nat) := match o with
  | none => none
  | some (v, n) => k v n
def itM (φ : VV → Nat → Option (VV × Nat)) : Nat → VV → Nat → Option (VV × Nat)
  | 0, v, n => some (v, n)
  | k + 1, v, n => bnd (φ v n) fun u n1 => itM φ k u n1
def fitP (v : VV) (n : Nat) : Option (VV × Nat) := if v.pc.size ≤ 2000 ∧ v.pc.deep ≤ 30 then some (v, n) else none
def noD : PDs := fun _ => .val 0
def mg : Tm → Bool → SDs → Nat → Option (VV × Nat)
  | .num m, false, _, n => some (.num (m % 1000003), n)
  | .num m, true, _, n => some (.piece (.num m), n)
  | .name x, false, E, n => some ((E x).vv, n)
  | .name x, true, E, n => some (.piece (.name (E x).txt), n)
  | .bin o a b, false, E, n => bnd (mg a false E n) fun v n1 => bnd (mg b false E n1) fun u n2 => some (.num (o.op v.i u.i), n2)
  | .bin o a b, true, E, n => bnd (mg a true E n) fun v n1 => bnd (mg b true E n1) fun u n2 => some (.piece (.bin o v.pc u.pc), n2)
  | .cond c a b, false, E, n => bnd (mg c false E n) fun v n1 => if v.i = 0 then mg b false E n1 else mg a false E n1
  | .cond c a b, true, E, n => bnd (mg c true E n) fun v n1 => bnd (mg a true E n1) fun u n2 => bnd (mg b true E n2) fun w n3 => some (.piece (.cond v.pc u.pc w.pc), n3)
  | .letx x a b, false, E, n => bnd (mg a false E n) fun v n1 => mg b false (E.set x (.val v)) n1
  | .letx x a b, true, E, n => bnd (mg a true E (n + 1)) fun v n1 => bnd (mg b true (E.set x (.nm (vN (n + 1)))) n1) fun u n2 => some (.piece (.letx (vN (n + 1)) v.pc u.pc), n2)
  | .turns m x a b, false, E, n => bnd (mg a false E n) fun v n1 => itM (fun v n => mg b false (E.set x (.val v)) n) m.toNat v n1
  | .turns m x a b, true, E, n => bnd (mg a true E (n + 1)) fun v n1 => bnd (mg b true (E.set x (.nm (vN (n + 1)))) n1) fun u n2 => some (.piece (.turns m (vN (n + 1)) v.pc u.pc), n2)
  | .deff f x _ a b, false, E, n => mg b false (E.set f (.fn fun v n => mg a false (E.set x (.val v)) n)) n
  | .deff f x k a b, true, E, n => bnd (mg a true (E.set x (.nm (vN (n + 2)))) (n + 2)) fun v n1 => bnd (mg b true (E.set f (.nm (vN (n + 1)))) n1) fun u n2 => some (.piece (.deff (vN (n + 1)) (vN (n + 2)) k v.pc u.pc), n2)
  | .use f a, false, E, n => bnd (mg a false E n) fun v n1 => (E f).ap v n1
  | .use f a, true, E, n => bnd (mg a true E n) fun v n1 => some (.piece (.use (E f).txt v.pc), n1)
  | .un .quote a, _, E, n => bnd (mg a true E n) fitP
  | .un .hole a, _, E, n => mg a false E n
  | .un .lift a, _, E, n => bnd (mg a false E n) fun v n1 => some (.piece (.num v.i), n1)
  | .un .run a, _, E, n => bnd (mg a false E n) fun v n1 => some (.num (vl v.pc noD), n1)
/-- what stands ahead does as the function tells -/
def OutX (R : VV → Prop) (o : Option (VV × Nat)) (L : List Stp) (G : List EV) (n h c : Nat) : Prop := match o with
  | none => ∀ K F, Hi K F n h → EndsE ⟨L ++ K, G ++ F, n⟩ none
  | some (v, n') => n ≤ n' ∧ n' ≤ n + c ∧ R v ∧ ∀ K F r, Hi K F n h → EndsE ⟨K, v.ev :: F, n'⟩ r → EndsE ⟨L ++ K, G ++ F, n⟩ r
section
variable {R R1 : VV → Prop} {o : Option (VV × Nat)} {k : VV → Nat → Option (VV × Nat)} {L L' : List Stp} {G G' : List EV} {n n1 h h1 c c1 c2 : Nat}
theorem OutX.done {v : VV} (hv : R v) : OutX R (some (v, n)) [] [v.ev] n h c := ⟨Nat.le_refl _, Nat.le_add_right _ _, hv, fun _ _ _ _ q => q⟩
theorem OutX.weak {R' : VV → Prop} (w : ∀ v, R v → R' v) (q : OutX R o L G n h c) : OutX R' o L G n h c := by
  rcases o with _ | ⟨v, n'⟩
  · exact q
  · exact ⟨q.1, q.2.1, w _ q.2.2.1, q.2.2.2⟩
theorem OutX.mono (q : OutX R o L G n h1 c1) (l1 : h1 ≤ h) (l2 : c1 ≤ c) : OutX R o L G n h c := by
  rcases o with _ | ⟨v, n'⟩
  · exact fun K F w => q K F (w.le l1)
  · exact ⟨q.1, by have := q.2.1; omega, q.2.2.1, fun K F r w => q.2.2.2 K F r (w.le l1)⟩
theorem OutX.step (st : ∀ K F, Stp1 ⟨L ++ K, G ++ F, n⟩ ⟨L' ++ K, G' ++ F, n1⟩) (gL : ∀ s ∈ L, s.Good) (l1 : L.length ≤ 3 * h) (l2 : G.length ≤ 3 * h) (m : n ≤ n1) (m1 : n1 < NB) (m2 : n1 + c1 ≤ n + c) (q : OutX R o L' G' n1 h c1) : OutX R o L G n h c := by
  rcases o with _ | ⟨v, n'⟩
  · exact fun K F w => .step (st K F) (w.fit gL l1 l2) (q K F (w.at' m1))
  · exact ⟨by have := q.1; omega, by have := q.2.1; omega, q.2.2.1, fun K F r w z => .step (st K F) (w.fit gL l1 l2) (q.2.2.2 K F r (w.at' m1) z)⟩
theorem OutX.bind {s : Stp} (q : OutX R1 o [s] [] n h1 c1) (gL : ∀ s ∈ L, s.Good) (l1 : L.length + 3 * h1 ≤ 3 * h) (l2 : G.length + 3 * h1 ≤ 3 * h) (m : n + c1 < NB) (m2 : c1 + c2 ≤ c) (next : ∀ v n1, n ≤ n1 → n1 ≤ n + c1 → R1 v → OutX R (k v n1) L (v.ev :: G) n1 h c2) : OutX R (bnd o k) (s :: L) G n h c := by
  rcases o with _ | ⟨v, n'⟩
  · exact fun K F w => q (L ++ K) (G ++ F) (w.sub gL l1 l2)
  · obtain ⟨a, b, d, e⟩ := q
    have nx := next v n' a b d
    show OutX R (k v n') (s :: L) G n h c
    generalize k v n' = kk at nx ⊢
    rcases kk with _ | ⟨u, n2⟩
    · exact fun K F w => e (L ++ K) (G ++ F) none (w.sub gL l1 l2) (nx K F (w.at' (by omega)))
    · exact ⟨by have := nx.1; omega, by have := nx.2.1; omega, nx.2.2.1, fun K F r w z => e (L ++ K) (G ++ F) r (w.sub gL l1 l2) (nx.2.2.2 K F r (w.at' (by omega)) z)⟩
end

/-! ### the function tells what the machine finds, and the values are kept -/
theorem evP {v : VV} {p : Tm} (h : v.ev = .piece p) : v = .piece p := by
  cases v with
  | num i => cases h
  | piece t => cases h; rfl
theorem VR.numX {W : Wd} {v : VV} {g : W.I → Int} (h : VR W false v.ev g) : ∃ i, v = .num i ∧ In i ∧ ∀ ι, g ι = i := by
  cases v with
  | num i => cases h with | num a b => exact ⟨_, rfl, a, b⟩
  | piece t => cases h
theorem VR.pieceX {W : Wd} {v : VV} {g : W.I → Int} (h : VR W true v.ev g) : ∃ p, v = .piece p ∧ PcR W p g ∧ p.size ≤ 2000 ∧ p.deep ≤ 30 := by
  cases v with
  | num i => cases h
  | piece t => cases h with | piece a b c => exact ⟨_, rfl, a, b, c⟩
def EntX (W : Wd) (u : Ent) (v : EV) (s : SD) (ρ : W.I → PD) (h c : Nat) : Prop := match u.lv, u.dom with
  | false, none => ∃ g w, s = .val w ∧ v = w.ev ∧ (∀ ι, ρ ι = .val (g ι)) ∧ VR W u.k w.ev g
  | false, some d => ∃ f y j a b E' φ, v = .fn f y j a b E' ∧ s = .fn φ ∧ (∀ ι, ∃ φ, ρ ι = .fn φ) ∧ ∀ (W' : Wd) (π : W'.I → W.I), Far W W' π → ∀ n, W'.Fine n → n + c < NB → ∀ w g, VR W' d w.ev g → OutX (fun z => VR W' u.k z.ev fun ι => (ρ (π ι)).app (g ι)) (φ w n) [.tell a (Evs.set E' y w.ev)] [] n h c
  | true, none => u.k = false ∧ ∃ x, v = .nm x ∧ s = .nm x ∧ W.Γ x = some false ∧ ∀ ι, ∃ i, In i ∧ W.θ ι x = .val i ∧ ρ ι = .val i
  | true, some d => u.k = false ∧ d = false ∧ ∃ x, v = .nm x ∧ s = .nm x ∧ W.Γ x = some true ∧ ∀ ι, ∃ φ ψ, W.θ ι x = .fn φ ∧ ρ ι = .fn ψ ∧ ∀ i, In i → φ i = ψ i ∧ In (φ i)
def EnvX (W : Wd) (E : Env) (Ev : Evs) (Em : SDs) (ρ : W.I → PDs) (δ κ : Hts) : Prop := ∀ x u, E x = some u → EntX W u (Ev x) (Em x) (fun ι => ρ ι x) (δ x) (κ x)
theorem EntX.far {W W' : Wd} {π : W'.I → W.I} {u : Ent} {v : EV} {s : SD} {ρ : W.I → PD} {h c : Nat} (q : EntX W u v s ρ h c) (f : Far W W' π) : EntX W' u v s (ρ ∘ π) h c := by
  obtain ⟨lv, dom, k⟩ := u
  cases lv <;> cases dom
  · obtain ⟨g, w, e1, e2, h1, h2⟩ := q
    exact ⟨g ∘ π, w, e1, e2, fun ι => h1 _, h2.far f⟩
  · obtain ⟨f1, y, j, a, b, E', φ, h1, e1, h2, h3⟩ := q
    exact ⟨f1, y, j, a, b, E', φ, h1, e1, fun ι => h2 _, fun W2 π2 f2 n hn hc v g hv => h3 W2 (π ∘ π2) (f.trans f2) n hn hc v g hv⟩
  · obtain ⟨h0, x, h1, e1, h2, h3⟩ := q
    refine ⟨h0, x, h1, e1, f.sub _ _ h2, fun ι => ?_⟩
    obtain ⟨i, a1, a2, a3⟩ := h3 (π ι)
    obtain ⟨j, b1, b2, b3⟩ := (f.agr ι).v h2
    rw [a2] at b2
    cases b2
    exact ⟨i, a1, b3, a3⟩
  · obtain ⟨h0, h00, x, h1, e1, h2, h3⟩ := q
    refine ⟨h0, h00, x, h1, e1, f.sub _ _ h2, fun ι => ?_⟩
    obtain ⟨φ, ψ, a1, a2, a3⟩ := h3 (π ι)
    obtain ⟨φ', ψ', b1, b2, b3⟩ := (f.agr ι).f h2
    rw [a1] at b1
    cases b1
    exact ⟨ψ', ψ, b2, a2, fun i hi => ⟨(b3 i hi).1.symm.trans (a3 i hi).1, by rw [← (b3 i hi).1]; exact (b3 i hi).2⟩⟩
theorem EnvX.far {W W' : Wd} {π : W'.I → W.I} {E : Env} {Ev : Evs} {Em : SDs} {ρ : W.I → PDs} {δ κ : Hts} (q : EnvX W E Ev Em ρ δ κ) (f : Far W W' π) : EnvX W' E Ev Em (fun ι => ρ (π ι)) δ κ := fun x u e => (q x u e).far f
theorem EnvX.set {W : Wd} {E : Env} {Ev : Evs} {Em : SDs} {ρ : W.I → PDs} {δ κ : Hts} (q : EnvX W E Ev Em ρ δ κ) (x : Str) {u : Ent} {v : EV} {s : SD} {σ : W.I → PD} {h c : Nat} (z : EntX W u v s σ h c) :
    EnvX W (E.set x u) (Ev.set x v) (Em.set x s) (fun ι => (ρ ι).set x (σ ι)) (δ.set x h) (κ.set x c) := fun y w e => by
  unfold Env.set at e
  unfold Evs.set PDs.set Hts.set SDs.set
  by_cases e1 : y = x
  · rw [if_pos e1] at e
    cases e
    simp only [if_pos e1]
    exact z
  · rw [if_neg e1] at e
    simp only [if_neg e1]
    exact q y w e
theorem EnvX.one {W : Wd} {E : Env} {Ev : Evs} {Em : SDs} {ρ : W.I → PDs} {δ κ : Hts} (q : EnvX W E Ev Em ρ δ κ) : One E := fun x u e hl => by
  have z := q x u e
  obtain ⟨lv, dom, k⟩ := u
  cases hl
  cases dom
  · exact ⟨z.1, fun d y => by cases y⟩
  · exact ⟨z.1, fun d y => by cases y; exact z.2.1⟩
theorem EntX.value {W : Wd} {v : VV} {k : Bool} {g : W.I → Int} (h : VR W k v.ev g) : EntX W ⟨false, none, k⟩ v.ev (.val v) (fun ι => .val (g ι)) 0 0 := ⟨g, v, rfl, rfl, fun _ => rfl, h⟩
theorem turn_outX {W : Wd} {j : Bool} {m : Int} {x : Str} {a b : Tm} {Ev : Evs} {h h0 c0 : Nat} (gf : W.I → Int → Int) (φ : VV → Nat → Option (VV × Nat)) (hh : 1 + h0 ≤ h)
    (step : ∀ v n g, VR W j v.ev g → n + c0 < NB → W.Fine n → OutX (fun u => VR W j u.ev fun ι => gf ι (g ι)) (φ v n) [.tell b (Ev.set x v.ev)] [] n h0 c0) :
    ∀ (k : Nat) (v : VV) (n : Nat) (g : W.I → Int), VR W j v.ev g → W.Fine n → n + (1 + k) * c0 < NB → OutX (fun u => VR W j u.ev fun ι => iter (gf ι) k (g ι)) (itM φ k v n) [.turn m x a b (k : Int) Ev] [v.ev] n h (k * c0)
  | 0, v, n, g, hv, hf, hn => .step (L' := []) (G' := [v.ev]) (c1 := 0) (fun K F => .turnN (by omega)) (goods1 trivial) (by show 1 ≤ _; omega) (by show 1 ≤ _; omega) (Nat.le_refl _) (by omega) (by omega) (OutX.done (v := v) hv)
  | k + 1, v, n, g, hv, hf, hn => by
    have e1 : (1 + (k + 1)) * c0 = c0 + (1 + k) * c0 := by rw [Nat.add_mul, Nat.add_mul, Nat.add_mul]; omega
    have e2 : (k + 1) * c0 = c0 + k * c0 := by rw [Nat.add_mul]; omega
    refine .step (L' := [.tell b (Ev.set x v.ev), .turn m x a b ((k + 1 : Nat) - 1 : Int) Ev]) (G' := []) (n1 := n) (c1 := (k + 1) * c0) (fun K F => .turnS (by omega) hv.bad) (goods1 trivial) (by show 1 ≤ _; omega) (by show 1 ≤ _; omega) (Nat.le_refl _) (by omega) (Nat.le_refl _) ?_
    refine .bind (step v n g hv (by omega) hf) (goods1 trivial) (by show 1 + _ ≤ _; omega) (by show 0 + _ ≤ _; omega) (by omega) (c2 := k * c0) (by omega) fun u n1 l1 l2 hu => ?_
    rw [show ((k + 1 : Nat) : Int) - 1 = (k : Int) by omega]
    exact turn_outX gf φ hh step k u n1 _ hu (hf.mono l1) (by omega)
def Mir (t : Tm) : Prop := ∀ {W : Wd} {E : Env} {Ev : Evs} {Em : SDs} {ρ : W.I → PDs} {δ κ : Hts} {l fr k : Bool} {n : Nat}, kd t l E fr = .ok k → EnvX W E Ev Em ρ δ κ → W.Fine n → n + cnt t κ < NB → t.size ≤ 400000 → (l = false → fr = true → W.Γ = Sco.nil) →
  (l = false → OutX (fun v => VR W k v.ev fun ι => vl t (ρ ι)) (mg t false Em n) [.tell t Ev] [] n (hgt t δ) (cnt t κ)) ∧ (l = true → OutX (fun v => PcM W t.size (fun ι => vl t (ρ ι)) v.ev) (mg t true Em n) [.make t Ev] [] n (hgt t δ) (cnt t κ))

theorem mir_num (m : Int) : Mir (.num m) := by
  intro W E Ev Em ρ δ κ l fr k n hk hE hf hn hz hr
  cases hk
  refine ⟨fun hl => ?_, fun hl => ?_⟩
  · exact .step (L' := []) (G' := [_]) (n1 := n) (c1 := 0) (fun K F => .num) (goods1 (fun z => nomatch z)) (by show 1 ≤ 3 * 1; omega) (Nat.zero_le _) (Nat.le_refl _) (by omega) (by omega) (.done (.num (.mod _) fun _ => rfl))
  · refine .step (L' := []) (G' := [_]) (n1 := n) (c1 := 0) (fun K F => .mnum) (goods1 (by refine ⟨?_, ?_, ?_⟩ <;> (intro z; cases z))) (by show 1 ≤ 3 * 1; omega) (Nat.zero_le _) (Nat.le_refl _) (by omega) (by omega) (.done ⟨_, rfl, ⟨trivial, trivial, fun _ => rfl⟩, ?_⟩)
    show 1 ≤ 2000 * 1
    omega
theorem mir_name (x : Str) : Mir (.name x) := by
  intro W E Ev Em ρ δ κ l fr k n hk hE hf hn hz hr
  have ⟨u, hu, hl, hd0, ek⟩ : ∃ u, E x = some u ∧ u.lv = l ∧ u.dom = none ∧ u.k = k := by
    simp only [kd] at hk
    cases z : E x with
    | none => rw [z] at hk; cases hk
    | some u =>
      rw [z] at hk
      dsimp only at hk
      split at hk
      · rename_i y
        cases z2 : u.dom with
        | none => rw [z2] at hk; cases hk; exact ⟨u, rfl, y, z2, rfl⟩
        | some d => rw [z2] at hk; cases hk
      · cases hk
  obtain ⟨lv, dom, k0⟩ := u
  subst hl hd0 ek
  have q := hE x _ hu
  refine ⟨fun hl => ?_, fun hl => ?_⟩
  · cases lv with
    | true => cases hl
    | false =>
      obtain ⟨g, w0, e1, e2, h1, h2⟩ := q
      have e9 : mg (.name x) false Em n = some (w0, n) := by simp only [mg]; rw [show Em x = _ from e1]; rfl
      rw [e9]
      refine .step (L' := []) (G' := [w0.ev]) (n1 := n) (c1 := 0) (fun K F => ?_) (goods1 (fun z => nomatch z)) (by show 1 ≤ 3 * 1; omega) (Nat.zero_le _) (Nat.le_refl _) (by omega) (by omega) (.done (v := w0) ?_)
      · have z := Stp1.name (x := x) (E := Ev) (K := K) (F := F) (n := n) (by rw [show Ev x = _ from e2]; exact h2.bad)
        rw [show Ev x = _ from e2] at z
        exact z
      · have e : (fun ι => vl (.name x) (ρ ι)) = g := funext fun ι => by show (ρ ι x).int = g ι; rw [show ρ ι x = _ from h1 ι]; rfl
        rw [e]
        exact h2
  · cases lv with
    | false => cases hl
    | true =>
      obtain ⟨h0, s, h1, e1, h2, h3⟩ := q
      have e9 : mg (.name x) true Em n = some (.piece (.name s), n) := by simp only [mg]; rw [show Em x = _ from e1]; rfl
      rw [e9]
      refine .step (L' := []) (G' := [_]) (n1 := n) (c1 := 0) (fun K F => .mname h1) (goods1 (by refine ⟨?_, ?_, ?_⟩ <;> (intro z; cases z))) (by show 1 ≤ 3 * 1; omega) (Nat.zero_le _) (Nat.le_refl _) (by omega) (by omega) (.done ⟨_, rfl, ⟨trivial, h2, fun ι => ?_⟩, by show 1 ≤ 2000 * 1; omega⟩)
      obtain ⟨i, a, b, c⟩ := h3 ι
      show (W.θ ι s).int = (ρ ι x).int
      rw [b, show ρ ι x = _ from c]
theorem mir_bin {o : Bin} {a b : Tm} (iha : Mir a) (ihb : Mir b) : Mir (.bin o a b) := by
  intro W E Ev Em ρ δ κ l fr k n hk hE hf hn hz hr
  obtain ⟨_, k0, k1⟩ := kd_and (show Kd.and ((kd a l E fr).want false) (fun _ => (kd b l E fr).want false) = .ok k from hk)
  obtain ⟨k0, _⟩ := kd_want k0
  obtain ⟨k1b, ek⟩ := kd_want k1
  subst ek
  simp only [cnt] at hn
  simp only [Tm.size] at hz
  refine ⟨fun hl => ?_, fun hl => ?_⟩
  · subst hl
    refine .step (L' := [_, _, _]) (G' := []) (n1 := n) (c1 := cnt a κ + cnt b κ) (fun K F => .bin) (goods1 (good_tell hk)) (by show 1 ≤ 3 * (1 + _); omega) (Nat.zero_le _) (Nat.le_refl _) (by omega) (Nat.le_refl _) ?_
    refine .bind ((iha k0 hE hf (by omega) (by omega) hr).1 rfl) (goods2 (good_tell k1b) trivial) (by show 2 + _ ≤ 3 * (1 + max _ _); omega) (by show 0 + _ ≤ 3 * (1 + max _ _); omega) (by omega) (c2 := cnt b κ) (Nat.le_refl _) fun v n1 l1 l2 hv => ?_
    refine .bind ((ihb k1b hE (hf.mono l1) (by omega) (by omega) hr).1 rfl) (goods1 trivial) (by show 1 + _ ≤ 3 * (1 + max _ _); omega) (by show 1 + _ ≤ 3 * (1 + max _ _); omega) (by omega) (c2 := 0) (Nat.le_refl _) fun v2 n2 m1 m2 hv2 => ?_
    obtain ⟨i, rfl, hi, gi⟩ := hv.numX
    obtain ⟨j, rfl, hj, gj⟩ := hv2.numX
    · · refine .step (L' := []) (G' := [_]) (n1 := n2) (c1 := 0) (fun K F => .reckon hi.1 hi.2) (goods1 trivial) (by show 1 ≤ 3 * (1 + _); omega) (by show 2 ≤ 3 * (1 + _); omega) (Nat.le_refl _) (by omega) (by omega) (.done (.num (.op _ _ _) fun ι => ?_))
        show o.op (vl a (ρ ι)) (vl b (ρ ι)) = _
        rw [show vl a (ρ ι) = _ from gi ι, show vl b (ρ ι) = _ from gj ι]
        rfl
  · subst hl
    refine .step (L' := [_, _, _]) (G' := []) (n1 := n) (c1 := cnt a κ + cnt b κ) (fun K F => .mbin) (goods1 (good_make hk)) (by show 1 ≤ 3 * (1 + _); omega) (Nat.zero_le _) (Nat.le_refl _) (by omega) (Nat.le_refl _) ?_
    refine .bind ((iha k0 hE hf (by omega) (by omega) hr).2 rfl) (goods2 (good_make k1b) trivial) (by show 2 + _ ≤ 3 * (1 + max _ _); omega) (by show 0 + _ ≤ 3 * (1 + max _ _); omega) (by omega) (c2 := cnt b κ) (Nat.le_refl _) fun v n1 l1 l2 ⟨pa, ea, qa, za⟩ => ?_
    refine .bind ((ihb k1b hE (hf.mono l1) (by omega) (by omega) hr).2 rfl) (goods1 trivial) (by show 1 + _ ≤ 3 * (1 + max _ _); omega) (by show 1 + _ ≤ 3 * (1 + max _ _); omega) (by omega) (c2 := 0) (Nat.le_refl _) fun v2 n2 m1 m2 ⟨pb, eb, qb, zb⟩ => ?_
    obtain rfl := evP ea; obtain rfl := evP eb
    refine .step (L' := []) (G' := [_]) (n1 := n2) (c1 := 0) (fun K F => .put (t := .bin o a b) (ps := [pa, pb]) rfl (fun z => nomatch z)) (goods1 trivial) (by show 1 ≤ 3 * (1 + _); omega) (by show 2 ≤ 3 * (1 + _); omega) (Nat.le_refl _) (by omega) (by omega) (.done ⟨.bin o pa pb, rfl, ⟨⟨qa.plain, qb.plain⟩, ⟨qa.sc, qb.sc⟩, fun ι => ?_⟩, ?_⟩)
    · show o.op (vl pa _) (vl pb _) = o.op _ _
      rw [qa.val, qb.val]
    · simp only [Tm.size]
      omega

theorem mir_cond {c a b : Tm} (ihc : Mir c) (iha : Mir a) (ihb : Mir b) : Mir (.cond c a b) := by
  intro W E Ev Em ρ δ κ l fr k n hk hE hf hn hz hr
  obtain ⟨_, k0, k1⟩ := kd_and (show Kd.and ((kd c l E fr).want false) (fun _ => (kd a l E fr).and fun k => (kd b l E fr).want k) = .ok k from hk)
  obtain ⟨k0, _⟩ := kd_want k0
  obtain ⟨j, k1, k2⟩ := kd_and k1
  obtain ⟨k2b, ek⟩ := kd_want k2
  subst ek
  simp only [cnt] at hn
  simp only [Tm.size] at hz
  refine ⟨fun hl => ?_, fun hl => ?_⟩
  · subst hl
    refine .step (L' := [_, _]) (G' := []) (n1 := n) (c1 := cnt c κ + (cnt a κ + cnt b κ)) (fun K F => .cond) (goods1 (good_tell hk)) (by show 1 ≤ 3 * (1 + _); omega) (Nat.zero_le _) (Nat.le_refl _) (by omega) (Nat.le_refl _) ?_
    refine .bind ((ihc k0 hE hf (by omega) (by omega) hr).1 rfl) (goods1 trivial) (by show 1 + _ ≤ 3 * (1 + max _ _); omega) (by show 0 + _ ≤ 3 * (1 + max _ _); omega) (by omega) (c2 := cnt a κ + cnt b κ) (Nat.le_refl _) fun v n1 l1 l2 hv => ?_
    have ia := (iha (δ := δ) k1 hE (hf.mono l1) (by omega) (by omega) hr).1 rfl
    have ib := (ihb (δ := δ) k2b hE (hf.mono l1) (by omega) (by omega) hr).1 rfl
    obtain ⟨i, rfl, hi, gi⟩ := hv.numX
    · by_cases z : i = 0
      · subst z
        show OutX _ (if (VV.num 0).i = 0 then mg b false Em n1 else mg a false Em n1) _ _ _ _ _
        rw [if_pos (show (VV.num 0).i = 0 from rfl)]
        refine .step (L' := [_]) (G' := []) (n1 := n1) (c1 := cnt b κ) (fun K F => .chooseB) (goods1 trivial) (by show 1 ≤ 3 * (1 + _); omega) (by show 1 ≤ 3 * (1 + _); omega) (Nat.le_refl _) (by omega) (by omega) (.mono (h1 := hgt b δ) (.weak (fun v hv => ?_) ib) (by show _ ≤ 1 + max _ (max _ _); omega) (Nat.le_refl _))
        have e : (fun ι => vl (.cond c a b) (ρ ι)) = fun ι => vl b (ρ ι) := funext fun ι => by show (if vl c (ρ ι) = 0 then _ else _) = _; rw [if_pos (gi ι)]
        rw [e]
        exact hv
      · show OutX _ (if (VV.num i).i = 0 then mg b false Em n1 else mg a false Em n1) _ _ _ _ _
        rw [if_neg (show ¬ (VV.num i).i = 0 from z)]
        refine .step (L' := [_]) (G' := []) (n1 := n1) (c1 := cnt a κ) (fun K F => .chooseA z) (goods1 trivial) (by show 1 ≤ 3 * (1 + _); omega) (by show 1 ≤ 3 * (1 + _); omega) (Nat.le_refl _) (by omega) (by omega) (.mono (h1 := hgt a δ) (.weak (fun v hv => ?_) ia) (by show _ ≤ 1 + max _ (max _ _); omega) (Nat.le_refl _))
        have e : (fun ι => vl (.cond c a b) (ρ ι)) = fun ι => vl a (ρ ι) := funext fun ι => by show (if vl c (ρ ι) = 0 then _ else _) = _; rw [if_neg (by rw [show vl c (ρ ι) = _ from gi ι]; exact z)]
        rw [e]
        exact hv
  · subst hl
    have ea0 := kd_one a hE.one k1
    subst ea0
    refine .step (L' := [_, _, _, _]) (G' := []) (n1 := n) (c1 := cnt c κ + (cnt a κ + cnt b κ)) (fun K F => .mcond) (goods1 (good_make hk)) (by show 1 ≤ 3 * (1 + _); omega) (Nat.zero_le _) (Nat.le_refl _) (by omega) (Nat.le_refl _) ?_
    refine .bind ((ihc k0 hE hf (by omega) (by omega) hr).2 rfl) (goods3 (good_make k1) (good_make k2b) trivial) (by show 3 + _ ≤ 3 * (1 + max _ _); omega) (by show 0 + _ ≤ 3 * (1 + max _ _); omega) (by omega) (c2 := cnt a κ + cnt b κ) (Nat.le_refl _) fun v n1 l1 l2 ⟨pc, ec, qc, zc⟩ => ?_
    refine .bind ((iha k1 hE (hf.mono l1) (by omega) (by omega) hr).2 rfl) (goods2 (good_make k2b) trivial) (by show 2 + _ ≤ 3 * (1 + max _ (max _ _)); omega) (by show 1 + _ ≤ 3 * (1 + max _ (max _ _)); omega) (by omega) (c2 := cnt b κ) (Nat.le_refl _) fun v2 n2 m1 m2 ⟨pa, ea, qa, za⟩ => ?_
    refine .bind ((ihb k2b hE (hf.mono (by omega)) (by omega) (by omega) hr).2 rfl) (goods1 trivial) (by show 1 + _ ≤ 3 * (1 + max _ (max _ _)); omega) (by show 2 + _ ≤ 3 * (1 + max _ (max _ _)); omega) (by omega) (c2 := 0) (Nat.le_refl _) fun v3 n3 o1 o2 ⟨pb, eb, qb, zb⟩ => ?_
    obtain rfl := evP ec; obtain rfl := evP ea; obtain rfl := evP eb
    refine .step (L' := []) (G' := [_]) (n1 := n3) (c1 := 0) (fun K F => .put (t := .cond c a b) (ps := [pc, pa, pb]) rfl (fun z => nomatch z)) (goods1 trivial) (by show 1 ≤ 3 * (1 + _); omega) (by show 3 ≤ 3 * (1 + _); omega) (Nat.le_refl _) (by omega) (by omega) (.done ⟨.cond pc pa pb, rfl, ⟨⟨qc.plain, qa.plain, qb.plain⟩, ⟨qc.sc, qa.sc, qb.sc⟩, fun ι => ?_⟩, ?_⟩)
    · show (if vl pc _ = 0 then vl pb _ else vl pa _) = if _ = 0 then _ else _
      rw [qa.val, qb.val, qc.val]
    · simp only [Tm.size]
      omega
theorem mir_letx {x : Str} {a b : Tm} (iha : Mir a) (ihb : Mir b) : Mir (.letx x a b) := by
  intro W E Ev Em ρ δ κ l fr k n hk hE hf hn hz hr
  obtain ⟨j, k0, k1⟩ := kd_and (show Kd.and (kd a l E fr) (fun k => kd b l (E.set x ⟨l, none, k⟩) fr) = .ok k from hk)
  simp only [cnt] at hn
  simp only [Tm.size] at hz
  refine ⟨fun hl => ?_, fun hl => ?_⟩
  · subst hl
    refine .step (L' := [_, _]) (G' := []) (n1 := n) (c1 := cnt a κ + cnt b (κ.set x 0)) (fun K F => .letx) (goods1 (good_tell hk)) (by show 1 ≤ 3 * (1 + _); omega) (Nat.zero_le _) (Nat.le_refl _) (by omega) (by show _ ≤ n + (1 + _); omega) ?_
    refine .bind ((iha k0 hE hf (by omega) (by omega) hr).1 rfl) (goods1 trivial) (by show 1 + _ ≤ 3 * (1 + max _ _); omega) (by show 0 + _ ≤ 3 * (1 + max _ _); omega) (by omega) (c2 := cnt b (κ.set x 0)) (Nat.le_refl _) fun v n1 l1 l2 hv => ?_
    have ib := (ihb (δ := δ.set x 0) (κ := κ.set x 0) k1 (hE.set x (EntX.value hv)) (hf.mono l1) (by omega) (by omega) hr).1 rfl
    exact .step (L' := [_]) (G' := []) (n1 := n1) (c1 := cnt b (κ.set x 0)) (fun K F => .goB hv.bad) (goods1 trivial) (by show 1 ≤ 3 * (1 + _); omega) (by show 1 ≤ 3 * (1 + _); omega) (Nat.le_refl _) (by omega) (Nat.le_refl _) (.mono (h1 := hgt b (δ.set x 0)) ib (by show _ ≤ 1 + max _ _; omega) (Nat.le_refl _))
  · subst hl
    have ej := kd_one a hE.one k0
    subst ej
    refine .step (L' := [_, _, _]) (G' := []) (n1 := n + 1) (c1 := cnt a κ + cnt b (κ.set x 0)) (fun K F => .mletx) (goods1 (good_make hk)) (by show 1 ≤ 3 * (1 + _); omega) (Nat.zero_le _) (Nat.le_succ _) (by omega) (by show n + 1 + _ ≤ n + (1 + _); omega) ?_
    refine .bind ((iha k0 hE (hf.mono (Nat.le_succ _)) (by omega) (by omega) hr).2 rfl) (goods2 (good_make k1) trivial) (by show 2 + _ ≤ 3 * (1 + max _ _); omega) (by show 0 + _ ≤ 3 * (1 + max _ _); omega) (by omega) (c2 := cnt b (κ.set x 0)) (Nat.le_refl _) fun v n1 l1 l2 ⟨pa, ea, qa, za⟩ => ?_
    have hi : ∀ ι, In (vl a (ρ ι)) := fun ι => qa.in hf ι
    obtain ⟨hf1, far⟩ := hf.val (m := n + 1) (J := W.I) (π := id) (g := fun ι => vl a (ρ ι)) (by omega) hi
    have hE1 := (hE.far far).set x (u := ⟨true, none, false⟩) (v := .nm (vN (n + 1))) (s := .nm (vN (n + 1))) (σ := fun ι => .val (vl a (ρ ι))) (h := 0) (c := 0) ⟨rfl, vN (n + 1), rfl, rfl, if_pos rfl, fun ι => ⟨_, hi ι, if_pos rfl, rfl⟩⟩
    refine .bind ((ihb (δ := δ.set x 0) (κ := κ.set x 0) k1 hE1 (hf1.mono (by omega)) (by omega) (by omega) (fun z => nomatch z)).2 rfl) (goods1 trivial) (by show 1 + _ ≤ 3 * (1 + max _ _); omega) (by show 1 + _ ≤ 3 * (1 + max _ _); omega) (by omega) (c2 := 0) (Nat.le_refl _) fun v2 n2 m1 m2 ⟨pb, eb, qb, zb⟩ => ?_
    obtain rfl := evP ea; obtain rfl := evP eb
    refine .step (L' := []) (G' := [_]) (n1 := n2) (c1 := 0) (fun K F => .put (t := .letx (vN (n + 1)) a b) (ps := [pa, pb]) rfl (fun z => nomatch z)) (goods1 trivial) (by show 1 ≤ 3 * (1 + _); omega) (by show 2 ≤ 3 * (1 + _); omega) (Nat.le_refl _) (by omega) (by omega) (.done ⟨.letx (vN (n + 1)) pa pb, rfl, ⟨⟨qa.plain, qb.plain⟩, ⟨qa.sc, qb.sc⟩, fun ι => ?_⟩, ?_⟩)
    · show vl pb ((W.θ ι).set (vN (n + 1)) (.val (vl pa (W.θ ι)))) = vl b ((ρ ι).set x (.val (vl a (ρ ι))))
      rw [qa.val]
      exact qb.val ι
    · simp only [Tm.size]
      omega

theorem mir_turns {m : Int} {x : Str} {a b : Tm} (iha : Mir a) (ihb : Mir b) : Mir (.turns m x a b) := by
  intro W E Ev Em ρ δ κ l fr k n hk hE hf hn hz hr
  obtain ⟨j, k0, k1⟩ := kd_and (show Kd.and (kd a l E fr) (fun k => (kd b l (E.set x ⟨l, none, k⟩) fr).want k) = .ok k from hk)
  obtain ⟨k1b, ek⟩ := kd_want k1
  subst ek
  simp only [cnt] at hn
  simp only [Tm.size] at hz
  obtain ⟨cb, ecb⟩ : ∃ cb, cb = cnt b (κ.set x 0) := ⟨_, rfl⟩
  have em : (1 + m.toNat) * cb = cb + m.toNat * cb := by rw [Nat.add_mul]; omega
  rw [← ecb] at hn
  refine ⟨fun hl => ?_, fun hl => ?_⟩
  · subst hl
    refine .step (L' := [_, _]) (G' := []) (n1 := n) (c1 := cnt a κ + m.toNat * cb) (fun K F => .turns) (goods1 (good_tell hk)) (by show 1 ≤ 3 * (1 + _); omega) (Nat.zero_le _) (Nat.le_refl _) (by omega) (by show _ ≤ n + (1 + (_ + (1 + _) * cnt b (κ.set x 0))); rw [← ecb]; omega) ?_
    refine .bind ((iha k0 hE hf (by omega) (by omega) hr).1 rfl) (goods1 trivial) (by show 1 + _ ≤ 3 * (1 + max _ _); omega) (by show 0 + _ ≤ 3 * (1 + max _ _); omega) (by omega) (c2 := m.toNat * cb) (Nat.le_refl _) fun v n1 l1 l2 hv => ?_
    by_cases z : m ≤ 0
    · have e0 : m.toNat = 0 := by omega
      show OutX _ (itM _ m.toNat v n1) _ _ _ _ _
      rw [e0]
      refine .step (L' := []) (G' := [v.ev]) (n1 := n1) (c1 := 0) (fun K F => .turnN z) (goods1 trivial) (by show 1 ≤ 3 * (1 + _); omega) (by show 1 ≤ 3 * (1 + _); omega) (Nat.le_refl _) (by omega) (by omega) (.done (v := v) ?_)
      have e : (fun ι => vl (.turns m x a b) (ρ ι)) = fun ι => vl a (ρ ι) := funext fun ι => by show iter _ m.toNat _ = _; rw [e0]; rfl
      rw [e]
      exact hv
    · have t := turn_outX (W := W) (j := k) (m := m) (x := x) (a := a) (b := b) (Ev := Ev) (h := hgt (.turns m x a b) δ) (h0 := hgt b (δ.set x 0)) (c0 := cb) (fun ι i => vl b ((ρ ι).set x (.val i))) (fun v n => mg b false (Em.set x (.val v)) n) (by show 1 + _ ≤ 1 + max _ _; omega)
        (fun v n g hv hn hf => by rw [ecb] at hn ⊢; exact (ihb (δ := δ.set x 0) (κ := κ.set x 0) k1b (hE.set x (EntX.value hv)) hf hn (by omega) hr).1 rfl) m.toNat v n1 _ hv (hf.mono l1) (by omega)
      rw [show ((m.toNat : Nat) : Int) = m by omega] at t
      exact t
  · subst hl
    have ej := kd_one a hE.one k0
    subst ej
    refine .step (L' := [_, _, _]) (G' := []) (n1 := n + 1) (c1 := cnt a κ + cb) (fun K F => .mturns) (goods1 (good_make hk)) (by show 1 ≤ 3 * (1 + _); omega) (Nat.zero_le _) (Nat.le_succ _) (by omega) (by show n + 1 + _ ≤ n + (1 + (_ + (1 + _) * cnt b (κ.set x 0))); rw [← ecb]; omega) ?_
    refine .bind ((iha k0 hE (hf.mono (Nat.le_succ _)) (by omega) (by omega) hr).2 rfl) (goods2 (good_make k1b) trivial) (by show 2 + _ ≤ 3 * (1 + max _ _); omega) (by show 0 + _ ≤ 3 * (1 + max _ _); omega) (by omega) (c2 := cb) (Nat.le_refl _) fun v n1 l1 l2 ⟨pa, ea, qa, za⟩ => ?_
    obtain ⟨hf1, far⟩ := hf.val (m := n + 1) (J := W.I × {i : Int // In i}) (π := Prod.fst) (g := fun p => p.2.1) (by omega) (fun p => p.2.2)
    have hE1 := (hE.far far).set x (u := ⟨true, none, false⟩) (v := .nm (vN (n + 1))) (s := .nm (vN (n + 1))) (σ := fun p => .val p.2.1) (h := 0) (c := 0) ⟨rfl, vN (n + 1), rfl, rfl, if_pos rfl, fun p => ⟨_, p.2.2, if_pos rfl, rfl⟩⟩
    rw [ecb]
    refine .bind ((ihb (δ := δ.set x 0) (κ := κ.set x 0) k1b hE1 (hf1.mono (by omega)) (by omega) (by omega) (fun z => nomatch z)).2 rfl) (goods1 trivial) (by show 1 + _ ≤ 3 * (1 + max _ _); omega) (by show 1 + _ ≤ 3 * (1 + max _ _); omega) (by omega) (c2 := 0) (Nat.le_refl _) fun v2 n2 m1 m2 ⟨pb, eb, qb, zb⟩ => ?_
    obtain rfl := evP ea; obtain rfl := evP eb
    refine .step (L' := []) (G' := [_]) (n1 := n2) (c1 := 0) (fun K F => .put (t := .turns m (vN (n + 1)) a b) (ps := [pa, pb]) rfl (fun z => nomatch z)) (goods1 trivial) (by show 1 ≤ 3 * (1 + _); omega) (by show 2 ≤ 3 * (1 + _); omega) (Nat.le_refl _) (by omega) (by omega) (.done ⟨.turns m (vN (n + 1)) pa pb, rfl, ⟨⟨qa.plain, qb.plain⟩, ⟨qa.sc, qb.sc⟩, fun ι => ?_⟩, ?_⟩)
    · show iter (fun i => vl pb ((W.θ ι).set (vN (n + 1)) (.val i))) m.toNat (vl pa (W.θ ι)) = iter (fun i => vl b ((ρ ι).set x (.val i))) m.toNat (vl a (ρ ι))
      rw [qa.val]
      refine (iter_agr (fun i hi => ?_) _ (qa.in hf ι)).1
      have z := qb.val (ι, ⟨i, hi⟩)
      have z2 := (vl_agr pb qb.sc (hf1.1 (ι, ⟨i, hi⟩))).2
      exact ⟨z, z2⟩
    · simp only [Tm.size]
      omega
theorem mir_deff {f x : Str} {d : Bool} {a b : Tm} (iha : Mir a) (ihb : Mir b) : Mir (.deff f x d a b) := by
  intro W E Ev Em ρ δ κ l fr k n hk hE hf hn hz hr
  have ⟨hld, j, k0, k1⟩ : ¬ (l = true ∧ d = true) ∧ ∃ j, kd a l (E.set x ⟨l, none, d⟩) false = .ok j ∧ kd b l (E.set f ⟨l, some d, j⟩) fr = .ok k := by
    simp only [kd] at hk
    split at hk
    · cases hk
    · rename_i z
      exact ⟨z, kd_and hk⟩
  simp only [cnt] at hn
  simp only [Tm.size] at hz
  refine ⟨fun hl => ?_, fun hl => ?_⟩
  · subst hl
    have q : EntX W ⟨false, some d, j⟩ (.fn f x d a b Ev) (.fn fun v n => mg a false (Em.set x (.val v)) n) (fun ι => .fn fun i => vl a ((ρ ι).set x (.val i))) (hgt a (δ.set x 0)) (cnt a (κ.set x 0)) :=
      ⟨f, x, d, a, b, Ev, _, rfl, rfl, fun ι => ⟨_, rfl⟩, fun W' π far n hn hc v g hv => (iha (δ := δ.set x 0) (κ := κ.set x 0) k0 ((hE.far far).set x (EntX.value hv)) hn hc (by omega) (fun _ z => nomatch z)).1 rfl⟩
    have ib := (ihb (δ := δ.set f (hgt a (δ.set x 0))) (κ := κ.set f (cnt a (κ.set x 0))) k1 (hE.set f q) hf (by omega) (by omega) hr).1 rfl
    exact .step (L' := [_]) (G' := []) (n1 := n) (c1 := cnt b (κ.set f (cnt a (κ.set x 0)))) (fun K F => .deff) (goods1 (good_tell hk)) (by show 1 ≤ 3 * (1 + _); omega) (Nat.zero_le _) (Nat.le_refl _) (by omega) (by show _ ≤ n + (2 + (_ + _)); omega) (.mono (h1 := hgt b (δ.set f (hgt a (δ.set x 0)))) ib (by show _ ≤ 1 + max _ _; omega) (Nat.le_refl _))
  · subst hl
    have ed : d = false := by
      cases d with
      | false => rfl
      | true => exact absurd ⟨rfl, rfl⟩ hld
    subst ed
    have ej := kd_one a (hE.one.set x (u := ⟨true, none, false⟩) fun _ => ⟨rfl, fun _ z => by cases z⟩) k0
    subst ej
    refine .step (L' := [_, _, _]) (G' := []) (n1 := n + 2) (c1 := cnt a (κ.set x 0) + cnt b (κ.set f (cnt a (κ.set x 0)))) (fun K F => .mdeff) (goods1 (good_make hk)) (by show 1 ≤ 3 * (1 + _); omega) (Nat.zero_le _) (by omega) (by omega) (by show n + 2 + _ ≤ n + (2 + (_ + _)); omega) ?_
    obtain ⟨hfa, fara⟩ := hf.val (m := n + 2) (J := W.I × {i : Int // In i}) (π := Prod.fst) (g := fun p => p.2.1) (by omega) (fun p => p.2.2)
    have hEa := (hE.far fara).set x (u := ⟨true, none, false⟩) (v := .nm (vN (n + 2))) (s := .nm (vN (n + 2))) (σ := fun p => .val p.2.1) (h := 0) (c := 0) ⟨rfl, vN (n + 2), rfl, rfl, if_pos rfl, fun p => ⟨_, p.2.2, if_pos rfl, rfl⟩⟩
    refine .bind ((iha (δ := δ.set x 0) (κ := κ.set x 0) k0 hEa hfa (by omega) (by omega) (fun z => nomatch z)).2 rfl) (goods2 (good_make k1) trivial) (by show 2 + _ ≤ 3 * (1 + max _ _); omega) (by show 0 + _ ≤ 3 * (1 + max _ _); omega) (by omega) (c2 := cnt b (κ.set f (cnt a (κ.set x 0)))) (Nat.le_refl _) fun v n1 l1 l2 ⟨pa, ea, qa, za⟩ => ?_
    have va : ∀ ι i, (hi : In i) → vl pa ((W.θ ι).set (vN (n + 2)) (.val i)) = vl a ((ρ ι).set x (.val i)) ∧ In (vl pa ((W.θ ι).set (vN (n + 2)) (.val i))) := fun ι i hi => ⟨qa.val (ι, ⟨i, hi⟩), (vl_agr pa qa.sc (hfa.1 (ι, ⟨i, hi⟩))).2⟩
    obtain ⟨hfb, farb⟩ := hf.fnc (m := n + 1) (φ := fun ι i => vl pa ((W.θ ι).set (vN (n + 2)) (.val i))) (by omega) fun ι i hi => (va ι i hi).2
    have hEb := (hE.far farb).set f (u := ⟨true, some false, false⟩) (v := .nm (vN (n + 1))) (s := .nm (vN (n + 1))) (σ := fun ι => .fn fun i => vl a ((ρ ι).set x (.val i))) (h := hgt a (δ.set x 0)) (c := cnt a (κ.set x 0)) ⟨rfl, rfl, vN (n + 1), rfl, rfl, if_pos rfl, fun ι => ⟨_, _, if_pos rfl, rfl, va ι⟩⟩
    refine .bind ((ihb (δ := δ.set f (hgt a (δ.set x 0))) (κ := κ.set f (cnt a (κ.set x 0))) k1 hEb (hfb.mono (by omega)) (by omega) (by omega) (fun z => nomatch z)).2 rfl) (goods1 trivial) (by show 1 + _ ≤ 3 * (1 + max _ _); omega) (by show 1 + _ ≤ 3 * (1 + max _ _); omega) (by omega) (c2 := 0) (Nat.le_refl _) fun v2 n2 m1 m2 ⟨pb, eb, qb, zb⟩ => ?_
    obtain rfl := evP ea; obtain rfl := evP eb
    refine .step (L' := []) (G' := [_]) (n1 := n2) (c1 := 0) (fun K F => .put (t := .deff (vN (n + 1)) (vN (n + 2)) false a b) (ps := [pa, pb]) rfl (fun z => nomatch z)) (goods1 trivial) (by show 1 ≤ 3 * (1 + _); omega) (by show 2 ≤ 3 * (1 + _); omega) (Nat.le_refl _) (by omega) (by omega) (.done ⟨.deff (vN (n + 1)) (vN (n + 2)) false pa pb, rfl, ⟨⟨qa.plain, qb.plain⟩, ⟨qa.sc, qb.sc⟩, fun ι => ?_⟩, ?_⟩)
    · exact qb.val ι
    · simp only [Tm.size]
      omega

theorem mir_use {f : Str} {a : Tm} (iha : Mir a) : Mir (.use f a) := by
  intro W E Ev Em ρ δ κ l fr k n hk hE hf hn hz hr
  have ⟨u, d, hu, hl, hd0, k0, ek⟩ : ∃ u d, E f = some u ∧ u.lv = l ∧ u.dom = some d ∧ kd a l E fr = .ok d ∧ u.k = k := by
    simp only [kd] at hk
    cases z : E f with
    | none => rw [z] at hk; cases hk
    | some u =>
      rw [z] at hk
      dsimp only at hk
      split at hk
      · rename_i y
        cases z2 : u.dom with
        | none => rw [z2] at hk; cases hk
        | some d =>
          rw [z2] at hk
          obtain ⟨_, z3, z4⟩ := kd_and hk
          cases z4
          exact ⟨u, d, rfl, y, z2, (kd_want z3).1, rfl⟩
      · cases hk
  obtain ⟨lv, dom, k1⟩ := u
  subst hl hd0 ek
  have q := hE f _ hu
  simp only [cnt] at hn
  simp only [Tm.size] at hz
  refine ⟨fun hl => ?_, fun hl => ?_⟩
  · cases lv with
    | true => cases hl
    | false =>
      obtain ⟨f', y, j, a', b', E', φ, e1, e4, e2, e3⟩ := q
      have e9 : mg (.use f a) false Em n = bnd (mg a false Em n) fun v n1 => φ v n1 := by simp only [mg]; rw [show Em f = _ from e4]; rfl
      rw [e9]
      refine .step (L' := [_, _]) (G' := []) (n1 := n) (c1 := cnt a κ + κ f) (fun K F => .use e1) (goods1 (good_tell hk)) (by show 1 ≤ 3 * (1 + _); omega) (Nat.zero_le _) (Nat.le_refl _) (by omega) (Nat.le_refl _) ?_
      refine .bind ((iha k0 hE hf (by omega) (by omega) hr).1 rfl) (goods1 trivial) (by show 1 + _ ≤ 3 * (1 + max _ _); omega) (by show 0 + _ ≤ 3 * (1 + max _ _); omega) (by omega) (c2 := κ f) (Nat.le_refl _) fun v n1 l1 l2 hv => ?_
      have o := e3 W id (Far.refl hf) n1 (hf.mono l1) (by omega) v _ hv
      exact .step (L' := [_]) (G' := []) (n1 := n1) (c1 := κ f) (fun K F => .goF hv.bad) (goods1 trivial) (by show 1 ≤ 3 * (1 + _); omega) (by show 1 ≤ 3 * (1 + _); omega) (Nat.le_refl _) (by omega) (Nat.le_refl _) (.mono (h1 := δ f) o (by show _ ≤ 1 + max _ _; omega) (Nat.le_refl _))
  · cases lv with
    | false => cases hl
    | true =>
      obtain ⟨h0, h00, s, h1, e4, h2, h3⟩ := q
      subst h00
      have e9 : mg (.use f a) true Em n = bnd (mg a true Em n) fun v n1 => some (.piece (.use s v.pc), n1) := by simp only [mg]; rw [show Em f = _ from e4]; rfl
      rw [e9]
      refine .step (L' := [_, _]) (G' := []) (n1 := n) (c1 := cnt a κ) (fun K F => .muse h1) (goods1 (by refine ⟨?_, ?_, ?_⟩ <;> (intro z; cases z))) (by show 1 ≤ 3 * (1 + _); omega) (Nat.zero_le _) (Nat.le_refl _) (by omega) (by show n + _ ≤ n + (_ + _); omega) ?_
      refine .bind ((iha k0 hE hf (by omega) (by omega) hr).2 rfl) (goods1 trivial) (by show 1 + _ ≤ 3 * (1 + max _ _); omega) (by show 0 + _ ≤ 3 * (1 + max _ _); omega) (by omega) (c2 := 0) (Nat.le_refl _) fun v n1 l1 l2 ⟨pa, ea, qa, za⟩ => ?_
      obtain rfl := evP ea
      refine .step (L' := []) (G' := [_]) (n1 := n1) (c1 := 0) (fun K F => .put (t := .use s a) (ps := [pa]) rfl (fun z => nomatch z)) (goods1 trivial) (by show 1 ≤ 3 * (1 + _); omega) (by show 1 ≤ 3 * (1 + _); omega) (Nat.le_refl _) (by omega) (by omega) (.done ⟨.use s pa, rfl, ⟨qa.plain, ⟨h2, qa.sc⟩, fun ι => ?_⟩, ?_⟩)
      · obtain ⟨φ, ψ, b1, b2, b3⟩ := h3 ι
        show (W.θ ι s).app (vl pa (W.θ ι)) = (ρ ι f).app (vl a (ρ ι))
        rw [b1, show ρ ι f = _ from b2, qa.val]
        exact (b3 _ (qa.in hf ι)).1
      · simp only [Tm.size]
        omega
theorem mir_quote {a : Tm} (iha : Mir a) : Mir (.un .quote a) := by
  intro W E Ev Em ρ δ κ l fr k n hk hE hf hn hz hr
  have hk0 := hk
  simp only [kd] at hk
  split at hk
  · cases hk
  rename_i hl0
  obtain ⟨_, z1, z2⟩ := kd_and hk
  cases z2
  have h1 := (kd_want z1).1
  have hn' : n + cnt a κ < NB := hn
  have hz' : 1 + a.size ≤ 400000 := hz
  refine ⟨fun hl => ?_, fun hl => absurd hl hl0⟩
  subst hl
  refine .step (L' := [_, _]) (G' := []) (n1 := n) (c1 := cnt a κ) (fun K F => .quote) (goods1 (good_tell hk0)) (by show 1 ≤ 3 * (1 + _); omega) (Nat.zero_le _) (Nat.le_refl _) (by omega) (Nat.le_refl _) ?_
  refine .bind ((iha (δ := δ) h1 hE hf hn' (by omega) (fun z => nomatch z)).2 rfl) (goods1 trivial) (by show 1 + _ ≤ 3 * (1 + _); omega) (by show 0 + _ ≤ 3 * (1 + _); omega) hn' (c2 := 0) (Nat.le_refl _) fun v n1 l1 l2 ⟨pa, ea, qa, za⟩ => ?_
  obtain rfl := evP ea
  by_cases z : pa.size ≤ 2000 ∧ pa.deep ≤ 30
  · show OutX _ (fitP (.piece pa) n1) _ _ _ _ _
    unfold fitP
    rw [if_pos (show (VV.piece pa).pc.size ≤ 2000 ∧ (VV.piece pa).pc.deep ≤ 30 from z)]
    exact .step (L' := []) (G' := [_]) (n1 := n1) (c1 := 0) (fun K F => .fits z.1 z.2) (goods1 trivial) (by show 1 ≤ 3 * (1 + _); omega) (by show 1 ≤ 3 * (1 + _); omega) (Nat.le_refl _) (by omega) (by omega) (OutX.done (v := .piece pa) (VR.piece ⟨qa.plain, qa.sc, qa.val⟩ z.1 z.2))
  · show OutX _ (fitP (.piece pa) n1) _ _ _ _ _
    unfold fitP
    rw [if_neg (show ¬ ((VV.piece pa).pc.size ≤ 2000 ∧ (VV.piece pa).pc.deep ≤ 30) from z)]
    exact fun K F q => ⟨1, .boom (q.fit (L := [_]) (G := [_]) (goods1 trivial) (by show 1 ≤ 3 * (1 + _); omega) (by show 1 ≤ 3 * (1 + _); omega)) (.mk (by omega) (by omega))⟩
theorem mir_hole {a : Tm} (iha : Mir a) : Mir (.un .hole a) := by
  intro W E Ev Em ρ δ κ l fr k n hk hE hf hn hz hr
  have hk0 := hk
  simp only [kd] at hk
  split at hk
  · cases hk
  rename_i hl0
  obtain ⟨_, z1, z2⟩ := kd_and hk
  cases z2
  have h1 := (kd_want z1).1
  have hn' : n + cnt a κ < NB := hn
  have hz' : 1 + a.size ≤ 400000 := hz
  refine ⟨fun hl => absurd hl hl0, fun hl => ?_⟩
  subst hl
  have o := (iha (δ := δ) h1 hE hf hn' (by omega) (fun _ z => nomatch z)).1 rfl
  refine .step (L' := [_]) (G' := []) (n1 := n) (c1 := cnt a κ) (fun K F => .mhole) (goods1 (good_make hk0)) (by show 1 ≤ 3 * (1 + _); omega) (Nat.zero_le _) (Nat.le_refl _) (by omega) (Nat.le_refl _) (.mono (h1 := hgt a δ) (.weak (fun v hv => ?_) o) (by show _ ≤ 1 + _; omega) (Nat.le_refl _))
  obtain ⟨p, rfl, qa, s1, s2⟩ := hv.pieceX
  exact ⟨_, rfl, ⟨qa.plain, qa.sc, qa.val⟩, by show _ ≤ 2000 * (1 + _); omega⟩
theorem mir_lift {a : Tm} (iha : Mir a) : Mir (.un .lift a) := by
  intro W E Ev Em ρ δ κ l fr k n hk hE hf hn hz hr
  have hk0 := hk
  simp only [kd] at hk
  split at hk
  · cases hk
  rename_i hl0
  obtain ⟨_, z1, z2⟩ := kd_and hk
  cases z2
  have h1 := (kd_want z1).1
  have hn' : n + cnt a κ < NB := hn
  have hz' : 1 + a.size ≤ 400000 := hz
  refine ⟨fun hl => ?_, fun hl => absurd hl hl0⟩
  subst hl
  refine .step (L' := [_, _]) (G' := []) (n1 := n) (c1 := cnt a κ) (fun K F => .lift) (goods1 (good_tell hk0)) (by show 1 ≤ 3 * (1 + _); omega) (Nat.zero_le _) (Nat.le_refl _) (by omega) (Nat.le_refl _) ?_
  refine .bind ((iha (δ := δ) h1 hE hf hn' (by omega) hr).1 rfl) (goods1 trivial) (by show 1 + _ ≤ 3 * (1 + _); omega) (by show 0 + _ ≤ 3 * (1 + _); omega) hn' (c2 := 0) (Nat.le_refl _) fun v n1 l1 l2 hv => ?_
  obtain ⟨i, rfl, hi, gi⟩ := hv.numX
  · refine .step (L' := []) (G' := [_]) (n1 := n1) (c1 := 0) (fun K F => .mkNum) (goods1 trivial) (by show 1 ≤ 3 * (1 + _); omega) (by show 1 ≤ 3 * (1 + _); omega) (Nat.le_refl _) (by omega) (by omega) (.done (.piece ⟨trivial, trivial, fun ι => ?_⟩ (by show 1 ≤ 2000; omega) (by show 1 ≤ 30; omega)))
    show _ % 1000003 = vl a (ρ ι)
    rw [show vl a (ρ ι) = _ from gi ι]
    exact Int.emod_eq_of_lt hi.1 hi.2
theorem mir_run {a : Tm} (iha : Mir a) : Mir (.un .run a) := by
  intro W E Ev Em ρ δ κ l fr k n hk hE hf hn hz hr
  have hk0 := hk
  simp only [kd] at hk
  split at hk
  · cases hk
  rename_i hl0
  obtain ⟨_, z1, z2⟩ := kd_and hk
  cases z2
  have h1 := (kd_want z1).1
  have hn' : n + cnt a κ < NB := hn
  have hz' : 1 + a.size ≤ 400000 := hz
  refine ⟨fun hl => ?_, fun hl => absurd (.inl hl) hl0⟩
  have hfr : fr = true := by
    cases fr with
    | true => rfl
    | false => exact absurd (.inr rfl) hl0
  subst hl hfr
  have hΓ := hr rfl rfl
  refine .step (L' := [_, _]) (G' := []) (n1 := n) (c1 := cnt a κ) (fun K F => .run) (goods1 (good_tell hk0)) (by show 1 ≤ 3 * (1 + _); omega) (Nat.zero_le _) (Nat.le_refl _) (by omega) (Nat.le_refl _) ?_
  refine .bind ((iha (δ := δ) h1 hE hf hn' (by omega) hr).1 rfl) (goods1 trivial) (by show 1 + _ ≤ 3 * (1 + max _ _); omega) (by show 0 + _ ≤ 3 * (1 + max _ _); omega) hn' (c2 := 0) (Nat.le_refl _) fun v n1 l1 l2 hv => ?_
  obtain ⟨p, rfl, qa, s1, s2⟩ := hv.pieceX
  · have sc : Scp .nil p := by rw [← hΓ]; exact qa.sc
    have ad := adq0 p (E := Evs.nil) (ρ := noD) (δ := fun _ => 0) qa.plain sc .nil
    have hh := hgt_size p (δ := fun _ => 0) (D := 0) qa.plain (fun _ => Nat.le_refl _)
    refine .step (L' := [_]) (G' := []) (n1 := n1) (c1 := 0) (fun K F => .goPiece (by omega)) (goods1 trivial) (by show 1 ≤ 3 * (1 + _); omega) (by show 1 ≤ 3 * (1 + _); omega) (Nat.le_refl _) (by omega) (Nat.le_refl _) (⟨Nat.le_refl _, Nat.le_refl _, VR.num ad.1 fun ι => ?_, fun K F r q w => ad.2 K F n1 r (q.le (by show _ ≤ 1 + max _ 2000; omega)) w⟩)
    show vl a (ρ ι) = _
    rw [show vl a (ρ ι) = _ from (qa.val ι).symm]
    exact (vl_agr p sc (fun x => trivial)).1
theorem mir : ∀ t : Tm, Mir t := by
  intro t
  induction t with
  | num m => exact mir_num m
  | name x => exact mir_name x
  | bin o a b iha ihb => exact mir_bin iha ihb
  | cond c a b ihc iha ihb => exact mir_cond ihc iha ihb
  | letx x a b iha ihb => exact mir_letx iha ihb
  | turns m x a b iha ihb => exact mir_turns iha ihb
  | deff f x k a b iha ihb => exact mir_deff iha ihb
  | use f a iha => exact mir_use iha
  | un o a iha =>
    cases o
    · exact mir_quote iha
    · exact mir_hole iha
    · exact mir_lift iha
    · exact mir_run iha

/-! ### few names are made -/
theorem Tm.hh_size : ∀ t : Tm, t.hh ≤ t.size := by
  intro t
  induction t with
  | num m => exact Nat.le_refl _
  | name x => exact Nat.le_refl _
  | bin o a b iha ihb => simp only [Tm.hh, Tm.size]; omega
  | cond c a b ihc iha ihb => simp only [Tm.hh, Tm.size]; omega
  | letx x a b iha ihb => simp only [Tm.hh, Tm.size]; omega
  | turns m x a b iha ihb => simp only [Tm.hh, Tm.size]; omega
  | deff f x k a b iha ihb => simp only [Tm.hh, Tm.size]; omega
  | use f a iha => simp only [Tm.hh, Tm.size]; omega
  | un o a iha => simp only [Tm.hh, Tm.size]; omega
theorem Tm.vh_size : ∀ t : Tm, t.vh ≤ 2 * t.size := by
  intro t
  induction t with
  | num m => simp only [Tm.vh, Tm.size]; omega
  | name x => simp only [Tm.vh, Tm.size]; omega
  | bin o a b iha ihb => simp only [Tm.vh, Tm.size]; omega
  | cond c a b ihc iha ihb => simp only [Tm.vh, Tm.size]; omega
  | letx x a b iha ihb => simp only [Tm.vh, Tm.size]; omega
  | turns m x a b iha ihb => simp only [Tm.vh, Tm.size]; omega
  | deff f x k a b iha ihb => simp only [Tm.vh, Tm.size]; omega
  | use f a iha => simp only [Tm.vh, Tm.size]; omega
  | un o a iha => simp only [Tm.vh, Tm.size]; omega
/-- turns go round nine times at most -/
def Nine : Tm → Prop
  | .num _ => True
  | .name _ => True
  | .bin _ a b => Nine a ∧ Nine b
  | .cond c a b => Nine c ∧ Nine a ∧ Nine b
  | .letx _ a b => Nine a ∧ Nine b
  | .turns m _ a b => m ≤ 9 ∧ Nine a ∧ Nine b
  | .deff _ _ _ a b => Nine a ∧ Nine b
  | .use _ a => Nine a
  | .un _ a => Nine a
theorem set_le {κ : Hts} {D D' v : Nat} {x : Str} (h : ∀ y, κ y ≤ D) (l : D ≤ D') (m : v ≤ D') : ∀ y, (κ.set x v) y ≤ D' := fun y => by
  unfold Hts.set
  split
  · exact m
  · exact Nat.le_trans (h y) l
theorem cnt_le : ∀ (t : Tm) {κ : Hts} {D : Nat}, Nine t → (∀ y, κ y ≤ D) → cnt t κ + 1 ≤ 16 ^ t.size * (D + 1) := by
  have pos : ∀ (n D : Nat), 1 ≤ 16 ^ n * (D + 1) := fun n D => Nat.mul_pos (Nat.pow_pos (by decide)) (Nat.succ_pos _)
  have up1 : ∀ (n m D : Nat), 16 ^ n * (D + 1) ≤ 16 ^ (n + m) * (D + 1) := fun n m D => Nat.mul_le_mul_right _ (Nat.pow_le_pow_right (by decide) (Nat.le_add_right _ _))
  have up2 : ∀ (n m D : Nat), 16 ^ m * (D + 1) ≤ 16 ^ (n + m) * (D + 1) := fun n m D => Nat.mul_le_mul_right _ (Nat.pow_le_pow_right (by decide) (Nat.le_add_left _ _))
  have suc : ∀ (n D : Nat), 16 ^ (1 + n) * (D + 1) = 16 * (16 ^ n * (D + 1)) := fun n D => by rw [Nat.add_comm, Nat.pow_succ, Nat.mul_comm (16 ^ n), Nat.mul_assoc]
  intro t
  induction t with
  | num m => intro κ D _ _; have := pos 1 D; simp only [cnt, Tm.size]; omega
  | name x => intro κ D _ _; have := pos 1 D; simp only [cnt, Tm.size]; omega
  | bin o a b iha ihb =>
    intro κ D n h
    have h1 := iha n.1 h; have h2 := ihb n.2 h; have h3 := up1 a.size b.size D; have h4 := up2 a.size b.size D
    simp only [cnt, Tm.size]; rw [suc]; omega
  | cond c a b ihc iha ihb =>
    intro κ D n h
    have h0 := ihc n.1 h; have h1 := iha n.2.1 h; have h2 := ihb n.2.2 h; have h3 := up1 a.size b.size D; have h4 := up2 a.size b.size D; have h5 := up1 c.size (a.size + b.size) D; have h6 := up2 c.size (a.size + b.size) D
    simp only [cnt, Tm.size]; rw [suc]; omega
  | letx x a b iha ihb =>
    intro κ D n h
    have h1 := iha n.1 h; have h2 := ihb n.2 (set_le (x := x) h (Nat.le_refl _) (Nat.zero_le D)); have h3 := up1 a.size b.size D; have h4 := up2 a.size b.size D; have := pos (a.size + b.size) D
    simp only [cnt, Tm.size]; rw [suc]; omega
  | turns m x a b iha ihb =>
    intro κ D n h
    have h1 := iha n.2.1 h; have h2 := ihb n.2.2 (set_le (x := x) h (Nat.le_refl _) (Nat.zero_le D)); have h3 := up1 a.size b.size D; have h4 := up2 a.size b.size D; have := pos (a.size + b.size) D
    have hm : 1 + m.toNat ≤ 10 := by have := n.1; omega
    have h5 : (1 + m.toNat) * cnt b (κ.set x 0) ≤ 10 * cnt b (κ.set x 0) := Nat.mul_le_mul_right _ hm
    simp only [cnt, Tm.size]; rw [suc]; omega
  | deff f x k a b iha ihb =>
    intro κ D n h
    have h1 := iha n.1 (set_le (x := x) h (Nat.le_refl _) (Nat.zero_le D))
    have h2 := ihb n.2 (D := 16 ^ a.size * (D + 1) - 1) (set_le (x := f) (v := cnt a (κ.set x 0)) h (by
      have z : 1 * (D + 1) ≤ 16 ^ a.size * (D + 1) := Nat.mul_le_mul_right _ (Nat.pow_pos (by decide))
      omega) (by omega))
    have p1 := pos a.size D
    rw [Nat.sub_add_cancel p1, ← Nat.mul_assoc, ← Nat.pow_add, Nat.add_comm b.size] at h2
    have h3 := up1 a.size b.size D; have := pos (a.size + b.size) D
    simp only [cnt, Tm.size]; rw [suc]; omega
  | use f a iha =>
    intro κ D n h
    have h1 := iha n h; have h2 := h f; have h3 := pos a.size D
    have h4 : 1 * (D + 1) ≤ 16 ^ a.size * (D + 1) := Nat.mul_le_mul_right _ (Nat.pow_pos (by decide))
    simp only [cnt, Tm.size]; rw [suc]; omega
  | un o a iha =>
    intro κ D n h
    have h1 := iha n h; have := pos a.size D
    simp only [cnt, Tm.size]; rw [suc]; omega
theorem cnt_NB {t : Tm} (h : Nine t) (z : t.size ≤ 470) : cnt t (fun _ => 0) < NB := by
  have h1 := cnt_le t (κ := fun _ => 0) (D := 0) h (fun _ => Nat.le_refl _)
  have h2 : 16 ^ t.size ≤ 16 ^ 470 := Nat.pow_le_pow_right (by decide) z
  have h3 : (16 : Nat) ^ 470 = 2 ^ 1880 := by rw [show (16 : Nat) = 2 ^ 4 from rfl, ← Nat.pow_mul]
  have h4 : 2 ^ 1880 < 2 ^ 1900 := Nat.pow_lt_pow_right (by decide) (by decide)
  unfold NB
  rw [h3] at h2
  generalize 2 ^ 1880 = A at h2 h4
  generalize 2 ^ 1900 = B at h4 ⊢
  omega
theorem hgt_hh : ∀ (t : Tm) {δ : Hts} {D : Nat}, (∀ x, δ x ≤ D) → 2000 ≤ D → hgt t δ ≤ t.hh + D := by
  intro t
  induction t with
  | num m => intro δ D h _; simp only [hgt, Tm.hh]; omega
  | name x => intro δ D h _; simp only [hgt, Tm.hh]; omega
  | bin o a b iha ihb => intro δ D h d; have := iha h d; have := ihb h d; simp only [hgt, Tm.hh]; omega
  | cond c a b ihc iha ihb => intro δ D h d; have := ihc h d; have := iha h d; have := ihb h d; simp only [hgt, Tm.hh]; omega
  | letx x a b iha ihb => intro δ D h d; have := iha h d; have := ihb (set_le (x := x) h (Nat.le_refl _) (Nat.zero_le _)) d; simp only [hgt, Tm.hh]; omega
  | turns m x a b iha ihb => intro δ D h d; have := iha h d; have := ihb (set_le (x := x) h (Nat.le_refl _) (Nat.zero_le _)) d; simp only [hgt, Tm.hh]; omega
  | deff f x k a b iha ihb =>
    intro δ D h d
    have h1 := iha (set_le (x := x) h (Nat.le_refl _) (Nat.zero_le _)) d
    have h2 := ihb (D := a.hh + D) (δ := δ.set f (hgt a (δ.set x 0))) (set_le (x := f) h (Nat.le_add_left _ _) h1) (by omega)
    simp only [hgt, Tm.hh]
    omega
  | use f a iha => intro δ D h d; have := iha h d; have := h f; simp only [hgt, Tm.hh]; omega
  | un o a iha => intro δ D h d; have := iha h d; cases o <;> simp only [hgt, Tm.hh] <;> omega
/-- the telling of a program of its own, from the start -/
def W0 : Wd := ⟨Unit, Sco.nil, fun _ => noD⟩
theorem fine0 : W0.Fine 0 := ⟨fun _ x => True.intro, fun x b z => by cases z⟩
theorem told_mg {t : Tm} {k fr : Bool} (hk : kd t false Env.nil fr = .ok k) (hn : Nine t) (hz : t.size ≤ 470) :
    OutX (fun v => VR W0 k v.ev fun _ => vl t noD) (mg t false (fun _ => .bad) 0) [.tell t .nil] [] 0 (hgt t fun _ => 0) (cnt t fun _ => 0) :=
  (mir t (W := W0) (ρ := fun _ => noD) (δ := fun _ => 0) (κ := fun _ => 0) (n := 0) hk (fun x u e => by cases e) fine0 (by rw [Nat.zero_add]; exact cnt_NB hn hz) (by omega) (fun _ _ => rfl)).1 rfl
theorem hi0 {t : Tm} (hz : t.size ≤ 470) : Hi [] [] 0 (hgt t fun _ => 0) := by
  have h1 := hgt_hh t (δ := fun _ => 0) (D := 2000) (fun _ => Nat.zero_le _) (Nat.le_refl _)
  have h2 := t.hh_size
  exact ⟨(fun _ z => nomatch z), by show 0 + _ ≤ _; omega, by show 0 + _ ≤ _; omega, Nat.pow_pos (by decide)⟩
theorem told_run {t : Tm} {k fr : Bool} (hk : kd t false Env.nil fr = .ok k) (hn : Nine t) (hz : t.size ≤ 470) {v : VV} {n : Nat} (h : mg t false (fun _ => .bad) 0 = some (v, n)) :
    EndsE ⟨[.tell t .nil], [], 0⟩ (some ([v.ev], n)) ∧ VR W0 k v.ev fun _ => vl t noD := by
  have z := told_mg hk hn hz
  rw [h] at z
  exact ⟨z.2.2.2 [] [] _ (hi0 hz) ⟨0, .done⟩, z.2.2.1⟩
theorem told_boom {t : Tm} {k fr : Bool} (hk : kd t false Env.nil fr = .ok k) (hn : Nine t) (hz : t.size ≤ 470) (h : mg t false (fun _ => .bad) 0 = none) : EndsE ⟨[.tell t .nil], [], 0⟩ none := by
  have z := told_mg hk hn hz
  rw [h] at z
  exact z [] [] (hi0 hz)

/-! ### made pieces: names of signs, turns from 0 to 9 -/
theorem ofString_ok (s : String) : PyData.strOk (Str.ofString s) = true := by
  unfold PyData.strOk
  rw [Str.ofString_eq_toList]
  rw [Array.all_eq_true']
  intro x hx
  have hx2 : x ∈ s.toList.map Char.toNat := by simpa using hx
  obtain ⟨c, _, rfl⟩ := List.mem_map.mp hx2
  have hv := c.valid
  have : c.toNat < 0x110000 := by
    rcases hv with h | h
    · exact Nat.lt_trans h (by decide)
    · exact h.2
  exact decide_eq_true this
theorem vN_ok (n : Nat) : PyData.strOk (vN n) = true := ok_app (by decide +kernel) (ofString_ok _)
def VV.Ok : VV → Prop
  | .num _ => True
  | .piece t => t.Ok
def SD.Ok : SD → Prop
  | .bad => True
  | .val v => v.Ok
  | .nm s => PyData.strOk s = true
  | .fn φ => ∀ v n u m, v.Ok → φ v n = some (u, m) → u.Ok
def SDs.Ok (E : SDs) : Prop := ∀ x, (E x).Ok
theorem SDs.Ok.set {E : SDs} (h : E.Ok) (x : Str) {u : SD} (hu : u.Ok) : (E.set x u).Ok := fun y => by
  unfold SDs.set
  by_cases e : y = x
  · rw [if_pos e]; exact hu
  · rw [if_neg e]; exact h y
theorem VV.Ok.pc {v : VV} (h : v.Ok) : v.pc.Ok := by
  cases v with
  | num i => exact True.intro
  | piece t => exact h
theorem SD.Ok.vv {s : SD} (h : s.Ok) : s.vv.Ok := by
  cases s with
  | val v => exact h
  | _ => exact True.intro
theorem SD.Ok.txt {s : SD} (h : s.Ok) : PyData.strOk s.txt = true := by
  cases s with
  | nm s => exact h
  | _ => show PyData.strOk Str.empty = true; decide +kernel
theorem SD.Ok.ap {s : SD} (h : s.Ok) {v u : VV} {n m : Nat} (hv : v.Ok) (e : s.ap v n = some (u, m)) : u.Ok := by
  cases s with
  | fn φ => exact h v n u m hv e
  | _ => cases e
theorem bnd_some {o : Option (VV × Nat)} {k : VV → Nat → Option (VV × Nat)} {r : VV × Nat} (h : bnd o k = some r) : ∃ v n, o = some (v, n) ∧ k v n = some r := by
  rcases o with _ | ⟨v, n⟩
  · cases h
  · exact ⟨v, n, rfl, h⟩
theorem fit_some {v u : VV} {n m : Nat} (h : fitP v n = some (u, m)) : u = v ∧ m = n ∧ v.pc.size ≤ 2000 ∧ v.pc.deep ≤ 30 := by
  unfold fitP at h
  split at h
  · cases h
    rename_i z
    exact ⟨rfl, rfl, z⟩
  · cases h
theorem itM_ok {φ : VV → Nat → Option (VV × Nat)} (h : ∀ v n u m, v.Ok → φ v n = some (u, m) → u.Ok) : ∀ (k : Nat) {v u : VV} {n m : Nat}, v.Ok → itM φ k v n = some (u, m) → u.Ok
  | 0, v, u, n, m, hv, e => by cases e; exact hv
  | k + 1, v, u, n, m, hv, e => by
    obtain ⟨v1, n1, e1, e2⟩ := bnd_some e
    exact itM_ok h k (h _ _ _ _ hv e1) e2
theorem mg_ok : ∀ (t : Tm) {l : Bool} {E : SDs} {n : Nat} {u : VV} {m : Nat}, t.Ok → E.Ok → mg t l E n = some (u, m) → u.Ok := by
  intro t
  induction t with
  | num i => intro l E n u m ht hE h; cases l <;> (simp only [mg] at h; cases h; exact True.intro)
  | name x =>
    intro l E n u m ht hE h
    cases l <;> (simp only [mg] at h; cases h)
    · exact (hE x).vv
    · exact (hE x).txt
  | bin o a b iha ihb =>
    intro l E n u m ht hE h
    cases l <;> simp only [mg] at h <;> obtain ⟨v, n1, e1, h⟩ := bnd_some h <;> obtain ⟨w, n2, e2, h⟩ := bnd_some h <;> cases h
    · exact True.intro
    · exact ⟨(iha ht.1 hE e1).pc, (ihb ht.2 hE e2).pc⟩
  | cond c a b ihc iha ihb =>
    intro l E n u m ht hE h
    cases l <;> simp only [mg] at h <;> obtain ⟨v, n1, e1, h⟩ := bnd_some h
    · split at h
      · exact ihb ht.2.2 hE h
      · exact iha ht.2.1 hE h
    · obtain ⟨w, n2, e2, h⟩ := bnd_some h
      obtain ⟨y, n3, e3, h⟩ := bnd_some h
      cases h
      exact ⟨(ihc ht.1 hE e1).pc, (iha ht.2.1 hE e2).pc, (ihb ht.2.2 hE e3).pc⟩
  | letx x a b iha ihb =>
    intro l E n u m ht hE h
    cases l <;> simp only [mg] at h <;> obtain ⟨v, n1, e1, h⟩ := bnd_some h
    · exact ihb ht.2.2 (hE.set x (u := .val v) (iha ht.2.1 hE e1)) h
    · obtain ⟨w, n2, e2, h⟩ := bnd_some h
      cases h
      exact ⟨vN_ok _, (iha ht.2.1 hE e1).pc, (ihb ht.2.2 (hE.set x (u := .nm _) (vN_ok _)) e2).pc⟩
  | turns k x a b iha ihb =>
    intro l E n u m ht hE h
    cases l <;> simp only [mg] at h <;> obtain ⟨v, n1, e1, h⟩ := bnd_some h
    · exact itM_ok (fun v n u m hv e => ihb ht.2.2 (hE.set x (u := .val v) hv) e) _ (iha ht.2.1 hE e1) h
    · obtain ⟨w, n2, e2, h⟩ := bnd_some h
      cases h
      exact ⟨⟨ht.1.1, vN_ok _⟩, (iha ht.2.1 hE e1).pc, (ihb ht.2.2 (hE.set x (u := .nm _) (vN_ok _)) e2).pc⟩
  | deff f x k a b iha ihb =>
    intro l E n u m ht hE h
    cases l <;> simp only [mg] at h
    · exact ihb ht.2.2 (hE.set f (u := .fn _) fun v n u m hv e => iha ht.2.1 (hE.set x (u := .val v) hv) e) h
    · obtain ⟨v, n1, e1, h⟩ := bnd_some h
      obtain ⟨w, n2, e2, h⟩ := bnd_some h
      cases h
      exact ⟨⟨vN_ok _, vN_ok _⟩, (iha ht.2.1 (hE.set x (u := .nm _) (vN_ok _)) e1).pc, (ihb ht.2.2 (hE.set f (u := .nm _) (vN_ok _)) e2).pc⟩
  | use f a iha =>
    intro l E n u m ht hE h
    cases l <;> simp only [mg] at h <;> obtain ⟨v, n1, e1, h⟩ := bnd_some h
    · exact (hE f).ap (iha ht.2 hE e1) h
    · cases h
      exact ⟨(hE f).txt, (iha ht.2 hE e1).pc⟩
  | un o a iha =>
    intro l E n u m ht hE h
    cases o <;> simp only [mg] at h
    · obtain ⟨v, n1, e1, h⟩ := bnd_some h
      obtain ⟨rfl, _⟩ := fit_some h
      exact iha ht hE e1
    · exact iha ht hE h
    · obtain ⟨v, n1, e1, h⟩ := bnd_some h
      cases h
      exact True.intro
    · obtain ⟨v, n1, e1, h⟩ := bnd_some h
      cases h
      exact True.intro

/-! ### plain_of -/
theorem passX0 {X : Cx} {P : Program} {w : World} : Passes (L2.CX P w) X E0 := fun _ _ _ _ _ _ _ h => by
  obtain ⟨_, _, _, _, _, _, _, _, _, _, _, _, h⟩ := h
  exact h.elim
theorem NB_pos : 0 < NB := Nat.pow_pos (by decide)
structure CalMX (P : Program) (w : World) (K : PySem.W.Frag) (mg : Str → Option Value) (base : Heap) (C : Addr) (x : Str) (ps : List Str) (k : Nat) (sp : Sp) (f : Addr) (fd : FuncData) : Prop where
  ok : FnOk P w K mg base (L2.CX P w) k f fd ps sp
  m : Meth K C x f
  b : Binds K fd ps []
structure CalX (P : Program) (w : World) (K : PySem.W.Frag) (mg : Str → Option Value) (base : Heap) (x : Str) (ps : List Str) (k : Nat) (sp : Sp) (f : Addr) (fd : FuncData) : Prop where
  ok : FnOk P w K mg base (L2.CX P w) k f fd ps sp
  m : mg x = some (.ref f)
  kp : PySem.W.keepIn K (.ref f) = true
  b : Binds K fd ps []
theorem no_value (S F : Addr) (n : Nat) : (tlF S F n).lookup ("value_of" : Str) = none := tlF_no _ _ _ (by decide +kernel) (by decide +kernel) (by decide +kernel)
def noP : PDs := fun _ => .val 0
def spPlain : Sp := fun vs H Q _ => ∃ (t : Tm) (tv : V), vs = [tv] ∧ TmAt H t tv ∧ Plain t ∧ Scp .nil t ∧ t.deep ≤ 900 ∧ hgt t (fun _ => 0) ≤ 30000 ∧ ∀ H', Same H H' → Q (.int (vl t noP)) H'

/-! ### where the steps' functions stand -/
def mkFA (tell_num tell_name tell_two tell_when tell_let tell_turns tell_def tell_use tell_quote tell_lift tell_run make_same make_name make_plain make_let make_turns make_def make_use fill_hole reckon choose go_on_with_b turn go_on_with_function refuse_too_great make_num go_on_with_piece put_together : Addr) : Sf → Addr
  | .t .num => tell_num
  | .t .name => tell_name
  | .t .sum => tell_two
  | .t .product => tell_two
  | .t .less => tell_two
  | .t .when => tell_when
  | .t .let => tell_let
  | .t .turns => tell_turns
  | .t .def => tell_def
  | .t .use => tell_use
  | .t .quote => tell_quote
  | .t .lift => tell_lift
  | .t .run => tell_run
  | .t .hole => tell_num
  | .m .num => make_same
  | .m .name => make_name
  | .m .sum => make_plain
  | .m .product => make_plain
  | .m .less => make_plain
  | .m .when => make_plain
  | .m .let => make_let
  | .m .turns => make_turns
  | .m .def => make_def
  | .m .use => make_use
  | .m .hole => fill_hole
  | .m .quote => make_same
  | .m .lift => make_same
  | .m .run => make_same
  | .reckon => reckon
  | .choose => choose
  | .goB => go_on_with_b
  | .turn => turn
  | .goF => go_on_with_function
  | .tooGreat => refuse_too_great
  | .mkNum => make_num
  | .goPiece => go_on_with_piece
  | .put => put_together
theorem heldOf {P : Program} {w : World} {K : PySem.W.Frag} {mg : Str → Option Value} {base : Heap} {x : Str} {ps : List Str} {k : Nat} {sp : Sp} {f : Addr} {fd : FuncData} (C : Cal P w K mg base x ps k sp f fd) (h : k ≤ 4) {sp' : Sp} (hs : ∀ vs H Q E, sp' vs H Q E → sp vs H Q E) : HeldX P w K mg base 4 f sp' :=
  ⟨fd, ps, CX0, FnOk.weak (C.ok.mono h) hs, C.kp, C.b, .inl rfl⟩
theorem heldOfX {P : Program} {w : World} {K : PySem.W.Frag} {mg : Str → Option Value} {base : Heap} {x : Str} {ps : List Str} {k : Nat} {sp : Sp} {f : Addr} {fd : FuncData} (C : CalX P w K mg base x ps k sp f fd) (h : k ≤ 4) : HeldX P w K mg base 4 f sp :=
  ⟨fd, ps, L2.CX P w, C.ok.mono h, C.kp, C.b, .inr rfl⟩

/-! ### told, made: every outcome, of programs that have a kind -/
def spRefuseX (N : Nat) (CW : Addr) : Sp := fun vs H Q E => ∃ (t : Tm) (v : V) (j k : Bool), vs = [.str (kindS j), v] ∧ TmAt H t v ∧ t.Ok ∧ t.deep ≤ N ∧ t.size ≤ 900000 ∧ kd t false Env.nil true = .ok k ∧ (k = j → ∀ H', Same H H' → Q .non H') ∧ (k ≠ j → ∀ H', Same H H' → E (.ref CW) none H')
def spToldX (N : Nat) (CW CG : Addr) : Sp := fun vs H Q E => ∃ (t : Tm) (v : V) (k : Bool), vs = [v] ∧ TmAt H t v ∧ t.Ok ∧ t.deep ≤ N ∧ t.size ≤ 900000 ∧ kd t false Env.nil true = .ok k ∧ (k = true → ∀ H', Same H H' → E (.ref CW) none H') ∧
  (k = false → (∃ i n, EndsE ⟨[.tell t .nil], [], 0⟩ (some ([.num i], n)) ∧ ∀ H', Same H H' → Q (.int i) H') ∨ (EndsE ⟨[.tell t .nil], [], 0⟩ none ∧ ∀ H', Same H H' → E (.ref CG) none H'))
def spMadeX (N : Nat) (CW CG : Addr) : Sp := fun vs H Q E => ∃ (t : Tm) (v : V) (k : Bool), vs = [v] ∧ TmAt H t v ∧ t.Ok ∧ t.deep ≤ N ∧ t.size ≤ 900000 ∧ kd t false Env.nil true = .ok k ∧ (k = false → ∀ H', Same H H' → E (.ref CW) none H') ∧
  (k = true → (∃ p n, EndsE ⟨[.tell t .nil], [], 0⟩ (some ([.piece p], n)) ∧ ∀ u H', Same H H' → TmAt H' p u → Q u H') ∨ (EndsE ⟨[.tell t .nil], [], 0⟩ none ∧ ∀ H', Same H H' → E (.ref CG) none H'))
abbrev s_refuse_unless : Stmt := topS 43
theorem sc_refuse_unless : FnScope ["kind", "term"] ["kind", "term"] (defScope s_refuse_unless) := ⟨rfl, rfl, rfl, by decide +kernel, rfl, by decide +kernel, by decide +kernel⟩
abbrev s_told : Stmt := topS 41
theorem sc_told : FnScope ["term"] ["term"] (defScope s_told) := ⟨rfl, rfl, rfl, by decide +kernel, rfl, by decide +kernel, by decide +kernel⟩
abbrev s_made : Stmt := topS 42
theorem sc_made : FnScope ["term"] ["term"] (defScope s_made) := ⟨rfl, rfl, rfl, by decide +kernel, rfl, by decide +kernel, by decide +kernel⟩
section
variable {P : Program} {w : World} {K : PySem.W.Frag} {mg : Str → Option Value} {base : Heap} {CT CP CG CW DT DM : Addr} {FA : Sf → Addr} {f f1 f2 f3 f4 f5 f6 f7 f8 : Addr} {fd fd1 fd2 fd3 fd4 fd5 fd6 fd7 fd8 : FuncData} {N : Nat}
theorem ok_refuseX (F : Fun K "refuse_unless" "refuse_unless" s_refuse_unless f fd) (X_WrongKind : XcT K mg "WrongKind" CW) (C_kind_of : Cal P w K mg base "kind_of" ["term"] (4 * N + 3) (spKindOfN N) f1 fd1) : FnOk P w K mg base (L2.CX P w) (4 * N + 4) f fd ["kind", "term"] (spRefuseX N CW) := by
  refine F.okX (k := 4 * N + 3) sc_refuse_unless (fun vs H Q E h => ?_) (fun cdv A outer s H vs Q E hr h => ?_)
  · obtain ⟨t, v, j, k, rfl, _⟩ := h
    rfl
  obtain ⟨t, v, j, k, rfl, ht, hok, hd, hz, hk, q1, q2⟩ := h
  refine ⟨_, (pss_one (ps_if (pt_cmpR op_ne (pe_call C_kind_of.ok (hr.mono (by first | decide | omega)) rfl C_kind_of.m C_kind_of.kp C_kind_of.b .nil pass0 (pa_cons (pv 1) pa_nil)) (pv 0) (nomark _)) (pss_one (ps_raise rfl (takes_of rfl rfl rfl rfl) (SkE.pmk_own1 PySem.F.excBase_ValueError X_WrongKind.ex X_WrongKind.g X_WrongKind.k (raises_own X_WrongKind.b X_WrongKind.t) rfl (pe_joined (.cons pe_str (.cons (pe_fmt (pv 0)) .nil)))))) pss_nil)), ?_⟩
  refine ⟨_, rfl, t, v, k, rfl, ht, hok, hd, hz, hk, fun H1 e1 => ⟨_, rfl, rfl, ?_⟩⟩
  refine ⟨_, rfl, ite2 (fun c => ?_) fun c => ?_⟩
  · have ne : k ≠ j := fun e => by rw [e] at c; simp at c
    have l1 : (kindS j).length ≤ sizeLine := by cases j <;> decide +kernel
    have l2 : (Str.empty ++ ("the program is no " : Str) ++ kindS j).length ≤ sizeLine := by cases j <;> decide +kernel
    exact ⟨_, rfl, (by decide +kernel), _, rfl, .inl ⟨_, rfl, l1, _, rfl, l2, q2 ne H1 e1⟩⟩
  · have e : k = j := by
      by_cases z : k = j
      · exact z
      · exact absurd (by simp; intro y; exact z (kindS_inj y)) c
    exact q1 e H1 e1
/-- a new telling tells a term -/
theorem tel_new {H H1 : Hp} {x dx S Fl : Addr} (nx : H x = none) (ndx : H dx = none) (k1 : ∀ b o, b ≠ x → upd (upd H dx (.own x)) x (.ins CT dx []) b = some o → H1 b = some o) : Same H H1 := fun b o z => k1 b o (ne_of_none z nx) (by rw [upd_ne (ne_of_none z nx), upd_ne (ne_of_none z ndx)]; exact z)
theorem new_free {H : Hp} {x dx : Addr} {o : HO} {a : Addr} (z : upd (upd H dx (.own x)) x o a = none) (nx : H x = none) (ndx : H dx = none) : H a = none := by
  cases y : H a with
  | none => rfl
  | some o' =>
    rw [upd_ne (ne_of_none y nx), upd_ne (ne_of_none y ndx), y] at z
    cases z
theorem ok_toldX (hN : N ≤ 60) (F : Fun K "told" "told" s_told f fd) (TC_Telling : TcT K CT) (ne : CT ≠ CP) (MK_Telling : CalC P w K mg base "Telling" CT ["self"] 1 (spTelInit CT CP FA) f1 fd1)
    (C_value_of : CalMX P w K mg base CT "value_of" ["self", "term"] 5 (spValueOf CT CP CG FA) f2 fd2) (C_refuse_unless : CalX P w K mg base "refuse_unless" ["kind", "term"] (4 * N + 4) (spRefuseX N CW) f3 fd3) : FnOk P w K mg base (L2.CX P w) (4 * N + 6) f fd ["term"] (spToldX N CW CG) := by
  refine F.okX (k := 4 * N + 5) sc_told (fun vs H Q E h => ?_) (fun cdv A outer s H vs Q E hr h => ?_)
  · obtain ⟨t, v, k, rfl, _⟩ := h
    rfl
  obtain ⟨t, v, k, rfl, ht, hok, hd, hz, hk, qw, qt⟩ := h
  refine ⟨_, (pss_cons (ps_expr (pe_call C_refuse_unless.ok (hr.mono (by first | decide | omega)) rfl C_refuse_unless.m C_refuse_unless.kp C_refuse_unless.b .nil (passes_call (takes_of rfl rfl rfl rfl) (fun _ _ _ _ h => h)) (pa_cons pe_str (pa_cons (pv 0) pa_nil))))
      (pss_one (ps_ret (pe_meth (pe_make0 MK_Telling.mkr MK_Telling.ok (hr.mono (by first | decide | omega)) rfl MK_Telling.m MK_Telling.b .nil pass0) TC_Telling.cl C_value_of.m C_value_of.ok (hr.mono (by first | decide | omega)) C_value_of.b .nil (passes_call (takes_of rfl rfl rfl rfl) (fun _ _ _ _ h => h)) (pa_cons (pv 0) pa_nil))))), ?_⟩
  refine ⟨_, rfl, t, v, false, k, rfl, ht, hok, hd, hz, hk, fun ek H0 e0 => ?_, fun ek H0 e0 => qw (by cases k <;> first | rfl | exact absurd rfl ek) H0 e0⟩
  intro x dx nx ndx nex
  refine ⟨x, dx, rfl, upd_same, ne, fun S Fl H1 k1 nS nF T1 => ⟨rfl, ?_⟩⟩
  have e1 : Same H0 H1 := tel_new (S := S) (Fl := Fl) nx ndx k1
  have fS := new_free nS nx ndx
  have fF := new_free nF nx ndx
  obtain ⟨dx1, hi1⟩ := T1.ins
  have fin : ∀ H', Frm x S Fl H1 H' → Same H H' := fun H' g => e0.trans fun b o z => g b o (ne_of_none z nx) (ne_of_none z fS) (ne_of_none z fF) (e1 _ _ z)
  rcases qt ek with ⟨i, n, hen, q⟩ | ⟨hen, q⟩
  · refine ⟨x, dx1, _, rfl, hi1, no_value _ _ _, _, rfl, x, S, Fl, t, v, _, rfl, T1, ht.mono (.of_same (e0.trans e1)), by omega, hen, fun u F m e z H' g ev => ?_, (fun n e => by cases e), (fun e => by cases e)⟩
    cases e
    cases ev
    exact q H' (fin H' g)
  · exact ⟨x, dx1, _, rfl, hi1, no_value _ _ _, _, rfl, x, S, Fl, t, v, _, rfl, T1, ht.mono (.of_same (e0.trans e1)), by omega, hen, fun u F m e z H' g ev => (by cases e), (fun n e => by cases e), fun _ H' g => q H' (fin H' g)⟩
theorem ok_madeX (hN : N ≤ 60) (F : Fun K "made" "made" s_made f fd) (TC_Telling : TcT K CT) (TC_Piece : TcP K CP) (ne : CT ≠ CP) (MK_Telling : CalC P w K mg base "Telling" CT ["self"] 1 (spTelInit CT CP FA) f1 fd1)
    (C_value_of : CalMX P w K mg base CT "value_of" ["self", "term"] 5 (spValueOf CT CP CG FA) f2 fd2) (C_refuse_unless : CalX P w K mg base "refuse_unless" ["kind", "term"] (4 * N + 4) (spRefuseX N CW) f3 fd3) : FnOk P w K mg base (L2.CX P w) (4 * N + 6) f fd ["term"] (spMadeX N CW CG) := by
  refine F.okX (k := 4 * N + 5) sc_made (fun vs H Q E h => ?_) (fun cdv A outer s H vs Q E hr h => ?_)
  · obtain ⟨t, v, k, rfl, _⟩ := h
    rfl
  obtain ⟨t, v, k, rfl, ht, hok, hd, hz, hk, qw, qt⟩ := h
  refine ⟨_, (pss_cons (ps_expr (pe_call C_refuse_unless.ok (hr.mono (by first | decide | omega)) rfl C_refuse_unless.m C_refuse_unless.kp C_refuse_unless.b .nil (passes_call (takes_of rfl rfl rfl rfl) (fun _ _ _ _ h => h)) (pa_cons pe_str (pa_cons (pv 0) pa_nil))))
      (pss_one (ps_ret (pe_fld (pe_meth (pe_make0 MK_Telling.mkr MK_Telling.ok (hr.mono (by first | decide | omega)) rfl MK_Telling.m MK_Telling.b .nil pass0) TC_Telling.cl C_value_of.m C_value_of.ok (hr.mono (by first | decide | omega)) C_value_of.b .nil (passes_call (takes_of rfl rfl rfl rfl) (fun _ _ _ _ h => h)) (pa_cons (pv 0) pa_nil)) rfl)))), ?_⟩
  refine ⟨_, rfl, t, v, true, k, rfl, ht, hok, hd, hz, hk, fun ek H0 e0 => ?_, fun ek H0 e0 => qw (by cases k <;> first | rfl | exact absurd rfl ek) H0 e0⟩
  intro x dx nx ndx nex
  refine ⟨x, dx, rfl, upd_same, ne, fun S Fl H1 k1 nS nF T1 => ⟨rfl, ?_⟩⟩
  have e1 : Same H0 H1 := tel_new (S := S) (Fl := Fl) nx ndx k1
  have fS := new_free nS nx ndx
  have fF := new_free nF nx ndx
  obtain ⟨dx1, hi1⟩ := T1.ins
  have fin : ∀ H', Frm x S Fl H1 H' → Same H H' := fun H' g => e0.trans fun b o z => g b o (ne_of_none z nx) (ne_of_none z fS) (ne_of_none z fF) (e1 _ _ z)
  rcases qt ek with ⟨p, n, hen, q⟩ | ⟨hen, q⟩
  · refine ⟨x, dx1, _, rfl, hi1, no_value _ _ _, _, rfl, x, S, Fl, t, v, _, rfl, T1, ht.mono (.of_same (e0.trans e1)), by omega, hen, fun u F m e z H' g ev => ?_, (fun n e => by cases e), (fun e => by cases e)⟩
    cases e
    cases ev with
    | piece hp hT => exact ⟨_, CP, _, _, _, rfl, hp, TC_Piece.cl, TC_Piece.nT, pcF_term _ _, q _ H' (fin H' g) hT⟩
  · exact ⟨x, dx1, _, rfl, hi1, no_value _ _ _, _, rfl, x, S, Fl, t, v, _, rfl, T1, ht.mono (.of_same (e0.trans e1)), by omega, hen, fun u F m e z H' g ev => (by cases e), (fun n e => by cases e), fun _ H' g => q H' (fin H' g)⟩
end

/-! ### names that are told apart -/
def IntsN (K : PySem.W.Frag) (H : Hp) (a : Addr) (ns : List Int) : Prop := ns.length ≤ 63 ∧ ((∃ o, H a = some (.frz o (.lst (ns.map V.int)))) ∨
  ∃ (o : Obj) (its : Array Value) (n : Nat), K.lookup a = some o ∧ o.cls = .type "list" ∧ o.dict = none ∧ o.data = .seq its n ∧ its.size ≤ sizeLine ∧ Vals (ns.map V.int) its.toList)
theorem Ints.n {K : PySem.W.Frag} {H : Hp} {a : Addr} (h : Ints K H a) : ∃ ns, IntsN K H a ns := h
theorem IntsN.ints {K : PySem.W.Frag} {H : Hp} {a : Addr} {ns : List Int} (h : IntsN K H a ns) : Ints K H a := ⟨ns, h⟩
theorem IntsN.sq {K : PySem.W.Frag} {H : Hp} {a : Addr} {ns : List Int} (h : IntsN K H a ns) : SqL K H a (ns.map V.int) := by
  obtain ⟨_, ⟨o, h⟩ | h⟩ := h
  · exact .inl (.inr ⟨o, h⟩)
  · exact .inr h
theorem IntsN.same {K : PySem.W.Frag} {H H' : Hp} {a : Addr} {ns : List Int} (h : IntsN K H a ns) (e : Same H H') : IntsN K H' a ns := by
  obtain ⟨h63, ⟨o, h⟩ | h⟩ := h
  · exact ⟨h63, .inl ⟨o, e _ _ h⟩⟩
  · exact ⟨h63, .inr h⟩
def cellF (ns : List Int) (k : Int) : Int := (ns[k.toNat]?).getD 0
def mixG (c k : Int) : Int := (c + 7919 * k) * 48271 % 2147483647
def mixF (ns : List Int) (k : Int) : Int := (mixG (cellF ns k) k * mixG (cellF ns k) k + 7 * mixG (cellF ns k) k + k) % 2147483629
theorem mixF_in (ns : List Int) (k : Int) : 0 ≤ mixF ns k ∧ mixF ns k < 2147483629 := ⟨Int.emod_nonneg _ (by decide), Int.emod_lt_of_pos _ (by decide)⟩
def spCellN (K : PySem.W.Frag) : Sp := fun vs H Q _ => ∃ (a : Addr) (k : Int) (ns : List Int), vs = [.ref a, .int k] ∧ IntsN K H a ns ∧ 0 ≤ k ∧ Q (.int (cellF ns k)) H
def spMixN (K : PySem.W.Frag) : Sp := fun vs H Q _ => ∃ (a : Addr) (k : Int) (ns : List Int), vs = [.ref a, .int k] ∧ IntsN K H a ns ∧ 0 ≤ k ∧ Q (.int (mixF ns k)) H
def wordsL : List Str := ["num", "name", "let", "quote", "hole", "run", "use", "lift"]
def sing (c : Nat) : Str := ⟨#[c]⟩
def letC (i : Int) : Nat := (("abcdefghijklmnopqrstuvwxyz" : Str).cps.toList[(i % 26).toNat]?).getD 0
def lettersC (n : Int) : List Nat := (List.range (1 + n % 8).toNat).map fun (i : Nat) => letC (n / 64 + 5 * (i : Int))
def nameF (n k : Int) : Str := if n % 8 = 7 ∧ n / 8 % 2 = 0 then (wordsL[((n / 16 + k) % 8).toNat]?).getD "num" else
  Str.join ("" : Str) (((lettersC n).set (n / 8 % (1 + n % 8)).toNat (letC (n / 64 + 5 * (n / 8 % (1 + n % 8)) + k))).map sing)
theorem app_cps (x y : Str) : (x ++ y).cps.toList = x.cps.toList ++ y.cps.toList := by
  show (x.cps ++ y.cps).toList = _
  simp
theorem join_sing : ∀ cs : List Nat, (Str.join ("" : Str) (cs.map sing)).cps.toList = cs
  | [] => by decide +kernel
  | [a] => rfl
  | a :: b :: r => by
    show ((sing a ++ ("" : Str)) ++ Str.join ("" : Str) ((b :: r).map sing)).cps.toList = _
    rw [app_cps, app_cps, join_sing (b :: r)]
    have e : ("" : Str).cps.toList = [] := by decide +kernel
    rw [e]
    rfl
theorem letC_at (i : Int) : atI ("abcdefghijklmnopqrstuvwxyz" : Str).cps.toList (i % 26) = some (letC i) := by
  have h := mod_in i (n := 26) (by decide)
  obtain ⟨c, hc, e⟩ := at_cod (ys := ("abcdefghijklmnopqrstuvwxyz" : Str).cps.toList) h.1 (by rw [abc_len]; exact h.2)
  have e2 : ("abcdefghijklmnopqrstuvwxyz" : Str).cps.toList[(i % 26).toNat]? = some c := by
    unfold atI ixN at e
    rw [if_pos h.1, if_pos (by rw [abc_len]; exact h.2)] at e
    exact e
  unfold letC
  rw [e, e2]
  rfl
theorem letC_ok (i : Int) : PyData.strOk (sing (letC i)) = true := by
  have h := mod_in i (n := 26) (by decide)
  have z : ∀ j, j < 26 → PyData.strOk (sing ((("abcdefghijklmnopqrstuvwxyz" : Str).cps.toList[j]?).getD 0)) = true := by decide +kernel
  exact z _ (by omega)
theorem letC_ne (i : Int) : letC i ≠ letC (i + 1) := by
  have h := mod_in i (n := 26) (by decide)
  have z : ∀ j, j < 26 → (("abcdefghijklmnopqrstuvwxyz" : Str).cps.toList[j]?).getD 0 ≠ (("abcdefghijklmnopqrstuvwxyz" : Str).cps.toList[(j + 1) % 26]?).getD 0 := by decide +kernel
  have e : ((i + 1) % 26).toNat = ((i % 26).toNat + 1) % 26 := by omega
  unfold letC
  rw [e]
  exact z _ (by omega)
theorem nameF_ok (n k : Int) : PyData.strOk (nameF n k) = true := by
  unfold nameF
  split
  · have z : ∀ j, j < 8 → PyData.strOk ((wordsL[j]?).getD "num") = true := by decide +kernel
    exact z _ (by omega)
  · have z := ok_join (y := ("" : Str)) (by decide +kernel) (((lettersC n).set (n / 8 % (1 + n % 8)).toNat (letC (n / 64 + 5 * (n / 8 % (1 + n % 8)) + k))).map sing) fun x hx => by
      obtain ⟨c, hc, rfl⟩ := List.mem_map.mp hx
      rcases List.mem_or_eq_of_mem_set hc with m | m
      · obtain ⟨i, _, rfl⟩ := List.mem_map.mp m
        exact letC_ok _
      · rw [m]
        exact letC_ok _
    rw [TL.join_eq] at z
    exact z
theorem nameF_ne (n : Int) : nameF n 0 ≠ nameF n 1 := by
  unfold nameF
  split
  · have z : ∀ j, j < 8 → (wordsL[j]?).getD ("num" : Str) ≠ (wordsL[(j + 1) % 8]?).getD ("num" : Str) := by decide +kernel
    have e : ((n / 16 + 1) % 8).toNat = (((n / 16 + 0) % 8).toNat + 1) % 8 := by omega
    rw [e]
    exact z _ (by omega)
  · intro e
    have e2 := congrArg (fun s : Str => s.cps.toList) e
    rw [join_sing, join_sing] at e2
    have hl : (n / 8 % (1 + n % 8)).toNat < (lettersC n).length := by
      unfold lettersC
      rw [List.length_map, List.length_range]
      have := mod_in (n / 8) (n := 1 + n % 8) (by omega)
      omega
    have e3 := congrArg (fun l : List Nat => l[(n / 8 % (1 + n % 8)).toNat]?) e2
    rw [List.getElem?_set_self hl, List.getElem?_set_self hl] at e3
    have e4 := Option.some.inj e3
    rw [Int.add_zero] at e4
    exact letC_ne _ e4
def spNameN (K : PySem.W.Frag) : Sp := fun vs H Q _ => ∃ (a : Addr) (k : Int) (ns : List Int), vs = [.ref a, .int k] ∧ IntsN K H a ns ∧ ∀ H' : Hp, Same H H' → Q (.str (nameF (mixF ns 0) k)) H'
section
variable {P : Program} {w : World} {K : PySem.W.Frag} {mg : Str → Option Value} {base : Heap} {f f1 f2 f3 f4 f5 f6 f7 f8 : Addr} {fd fd1 fd2 fd3 fd4 fd5 fd6 fd7 fd8 : FuncData}
theorem ok_cellN (F : Fun K "_law_cell_at" "_law_cell_at" s_cell_at f fd) (T : Txt mg) : FnOk P w K mg base CX0 1 f fd ["_law_script", "_law_k"] (spCellN K) := by
  refine F.ok sc_cell_at (fun vs H Q E h => ?_) (fun cdv A outer s H vs Q E hr h => ?_)
  · obtain ⟨a, k, ns, rfl, _⟩ := h
    rfl
  obtain ⟨a, k, ns, rfl, hI, h0, q⟩ := h
  have hS := hI.sq
  refine ⟨_, (pss_cons (ps_if (pt_cmpR op_lt (pv 1) (pe_callB call_len_seq (by rfl) T.len PySem.boot_len (pa_cons (pv 0) pa_nil)) (nomark _)) (pss_one (ps_ret (pe_ix ix_list (pv 0) (pv 1) (fun _ _ => rfl)))) pss_nil)
      (pss_one (ps_ret pe_int))), ?_⟩
  refine ⟨_, rfl, _, rfl, a, _, rfl, .inl hS, _, _, rfl, rfl, _, rfl, ?_⟩
  unfold cellF at q
  refine ite2 (fun c => ?_) (fun c => ?_)
  · have c' : k < (((ns.map V.int).length : Nat) : Int) := of_decide_eq_true c
    rw [List.length_map] at c'
    have hk : k.toNat < ns.length := by omega
    rw [List.getElem?_eq_getElem hk] at q
    exact ⟨_, rfl, _, rfl, a, _, _, .int (ns[k.toNat]), rfl, rfl, hS, atI_n (n := k.toNat) (by omega) (by rw [List.getElem?_map, List.getElem?_eq_getElem hk]; rfl), q⟩
  · have c' : ¬ k < (((ns.map V.int).length : Nat) : Int) := fun z => c (decide_eq_true z)
    rw [List.length_map] at c'
    rw [List.getElem?_eq_none (by omega)] at q
    exact q
theorem ok_mixN (F : Fun K "_law_mixed" "_law_mixed" s_mixed f fd) (T : Txt mg) (C_law_cell_at : Cal P w K mg base "_law_cell_at" ["_law_script", "_law_k"] 1 (spCellN K) f1 fd1) : FnOk P w K mg base CX0 2 f fd ["_law_script", "_law_k"] (spMixN K) := by
  refine F.ok sc_mixed (fun vs H Q E h => ?_) (fun cdv A outer s H vs Q E hr h => ?_)
  · obtain ⟨a, k, ns, rfl, _⟩ := h
    rfl
  obtain ⟨a, k, ns, rfl, hS, h0, q⟩ := h
  refine ⟨_, (pss_cons (ps_set (i := 2) sc_mixed.nd rfl (Or.inl rfl) (pe_op op_mod (pe_op op_mul (pe_op op_add (pe_call C_law_cell_at.ok (hr.mono (by first | decide | omega)) rfl C_law_cell_at.m C_law_cell_at.kp C_law_cell_at.b .nil pass0 (pa_cons (pv 0) (pa_cons (pv 1) pa_nil))) (pe_op op_mul pe_int (pv 1))) pe_int) pe_int))
      (pss_one (ps_ret (pe_op op_mod (pe_op op_add (pe_op op_add (pe_op op_mul (pv 2) (pv 2)) (pe_op op_mul pe_int (pv 2))) (pv 1)) pe_int)))), ?_⟩
  refine ⟨_, rfl, _, rfl, a, k, ns, rfl, hS, h0, ?_⟩
  unfold mixF mixG at q
  generalize cellF ns k = c at q ⊢
  refine ⟨_, rfl, _, _, rfl, rfl, .inl ⟨by decide, by decide⟩, _, _, rfl, rfl, _, _, rfl, rfl, .inr ⟨by decide, by decide⟩, _, _, rfl, rfl, (by show (0 : Int) < _; decide), ?_⟩
  have b := mixed_lt2 ((c + 7919 * k) * 48271)
  exact ⟨_, rfl, _, rfl, _, _, rfl, rfl, .inl ⟨by omega, by omega⟩, _, rfl, _, _, rfl, rfl, .inl ⟨by decide, by decide⟩, _, _, rfl, rfl, _, rfl, _, _, rfl, rfl, _, _, rfl, rfl, (by show (0 : Int) < _; decide), q⟩
theorem ok_nameN (F : Fun K "_law_name" "_law_name" s_name f fd) (T : Txt mg) (C_law_mixed : Cal P w K mg base "_law_mixed" ["_law_script", "_law_k"] 2 (spMixN K) f1 fd1) : FnOk P w K mg base CX0 3 f fd ["_law_script", "_law_which"] (spNameN K) := by
  refine F.ok sc_name (fun vs H Q E h => ?_) (fun cdv A outer s H vs Q E hr h => ?_)
  · obtain ⟨a, k, ns, rfl, _⟩ := h
    rfl
  obtain ⟨a, k, ns, rfl, hI, q⟩ := h
  refine ⟨_, (pss_cons (ps_set (i := 2) sc_name.nd rfl (Or.inr rfl) pe_str)
      (pss_cons (ps_set (i := 3) sc_name.nd rfl (Or.inr rfl) (pe_call C_law_mixed.ok (hr.mono (by first | decide | omega)) rfl C_law_mixed.m C_law_mixed.kp C_law_mixed.b .nil pass0 (pa_cons (pv 0) (pa_cons pe_int pa_nil))))
      (pss_cons (ps_if (pt_k (PW.pt (pw_and (pt_cmpR op_eq (pe_op op_mod (pv 3) pe_int) pe_int (nomark _)) (pw_and1 (pt_cmpR op_eq (pe_op op_mod (pe_op op_fdiv (pv 3) pe_int) pe_int) pe_int (nomark _)))))) (pss_cons (ps_set (i := 4) sc_name.nd rfl (Or.inl rfl) (pe_lst (pa_cons pe_str (pa_cons pe_str (pa_cons pe_str (pa_cons pe_str (pa_cons pe_str (pa_cons pe_str (pa_cons pe_str (pa_cons pe_str pa_nil))))))))))
      (pss_one (ps_ret (pe_ix ix_list (pv 4) (pe_op op_mod (pe_op op_add (pe_op op_fdiv (pv 3) pe_int) (pv 1)) pe_int) (fun _ _ => rfl))))) pss_nil)
      (pss_cons (ps_set (i := 5) sc_name.nd rfl (Or.inl rfl) (pe_op op_add pe_int (pe_op op_mod (pv 3) pe_int)))
      (pss_cons (ps_setLc (i := 4) (own := [("_law_k", 7)]) (g := (gName 7)) (tt := tYes) (by rfl) sc_name.nd rfl rfl (sw_true rfl rfl rfl (by decide +kernel)) (pi_range1 (by rfl) T.range (pa_cons (pv 5) pa_nil)) (blkOk_by (own := [("_law_k", 7)]) (N := ["_law_script", "_law_which", "_law_letters", "_law_number_here", "_law_some", "_law_size", "_law_at", "_law_k"]) (sc := defScope s_name) (by decide +kernel)) (fun _ _ _ _ _ => (pg_name (i := 7) sc_name.nd rfl (Or.inl rfl))) (fun _ _ _ _ _ => pts_nil) (fun _ _ _ _ _ => (pe_ix ix_str (pv 2) (pe_op op_mod (pe_op op_add (pe_op op_fdiv (pv 3) pe_int) (pe_op op_mul pe_int (pv 7))) pe_int) (fun _ _ => rfl))))
      (pss_cons (ps_set (i := 6) sc_name.nd rfl (Or.inl rfl) (pe_op op_mod (pe_op op_fdiv (pv 3) pe_int) (pv 5)))
      (pss_cons (ps_asg (pe_ix ix_str (pv 2) (pe_op op_mod (pe_op op_add (pe_op op_add (pe_op op_fdiv (pv 3) pe_int) (pe_op op_mul pe_int (pv 6))) (pv 1)) pe_int) (fun _ _ => rfl)) (pg_sub (pv 4) (pv 6) set_list))
      (pss_one (ps_ret (pe_join pe_str (pv 4))))))))))), ?_⟩
  refine ⟨_, rfl, a, 0, ns, rfl, hI, Int.le_refl 0, ?_⟩
  have h01 := mixF_in ns 0
  generalize mixF ns 0 = n at q h01 ⊢
  obtain ⟨h0, h1⟩ := h01
  unfold nameF at q
  refine ⟨fun b H' => H = H' ∧ b = decide (n % 8 = 7 ∧ n / 8 % 2 = 0), ?_, ?_⟩
  · refine ⟨_, rfl, _, _, rfl, rfl, (by show (0 : Int) < _; decide), rfl, _, rfl, ?_⟩
    refine ite2 (fun c => ?_) fun c => ?_
    · have c1 : n % 8 = 7 := V.int.inj (of_decide_eq_true c)
      refine ⟨_, rfl, _, _, rfl, rfl, ⟨by decide, by decide⟩, _, _, rfl, rfl, (by show (0 : Int) < _; decide), rfl, _, rfl, rfl, ?_⟩
      show decide (V.int (n / 8 % 2) = V.int 0) = _
      rw [decide_eq_decide]
      exact ⟨fun z => ⟨c1, V.int.inj z⟩, fun z => congrArg V.int z.2⟩
    · refine ⟨rfl, ?_⟩
      symm
      rw [decide_eq_false_iff_not]
      exact fun z => c (decide_eq_true (congrArg V.int z.1))
  rintro b _ ⟨rfl, eb⟩
  cases b with
  | true =>
    rw [if_pos (of_decide_eq_true eb.symm)] at q
    refine iteT ⟨by show 8 ≤ sizeLine; decide, fun p hp => ?_⟩
    have hb := mod_in (n / 16 + k) (n := 8) (by decide)
    have hat : (wordsL.map V.str)[((n / 16 + k) % 8).toNat]? = some (.str ((wordsL[((n / 16 + k) % 8).toNat]?).getD "num")) := by
      have hl : ((n / 16 + k) % 8).toNat < wordsL.length := by show _ < 8; omega
      rw [List.getElem?_map, List.getElem?_eq_getElem hl]
      rfl
    exact ⟨_, rfl, _, rfl, _, _, rfl, rfl, ⟨by decide, by decide⟩, _, rfl, _, _, rfl, rfl, _, _, rfl, rfl, (by show (0 : Int) < _; decide), p, _, _, _, rfl, rfl, SqL.of upd_same, atI_n (n := ((n / 16 + k) % 8).toNat) (by omega) hat, q _ (same_new hp _)⟩
  | false =>
    rw [if_neg (of_decide_eq_false eb.symm)] at q
    refine iteF ?_
    refine ⟨_, rfl, _, _, rfl, rfl, (by show (0 : Int) < _; decide), _, _, rfl, rfl, ?_⟩
    have h8 := mod_in n (n := 8) (by decide)
    refine ⟨_, rfl, 1 + n % 8, rfl, by omega, by omega, fun D hD => ?_⟩
    refine lc_range (lo := 0) (n := (1 + n % 8).toNat) (fun i H' => Same H H' ∧ H' D = some (.lst ((((List.range i).map fun (i : Nat) => letC (n / 64 + 5 * (i : Int))).map sing).map V.str))) ⟨same_new hD _, upd_same⟩ ?_ ?_
    · rintro i H' hi ⟨g, hy⟩
      have e := letC_at (n / 64 + 5 * (0 + (i : Int)))
      rw [Int.zero_add] at e
      refine ⟨rfl, ?_⟩
      refine ⟨_, rfl, _, rfl, _, _, rfl, rfl, ⟨by decide, by decide⟩, _, rfl, _, _, rfl, rfl, .inl ⟨by decide, by decide⟩, _, _, rfl, rfl, _, _, rfl, rfl, (by show (0 : Int) < _; decide), _, _, _, rfl, rfl, abc_line, (by rw [Int.zero_add]; exact e), ?_⟩
      refine ⟨_, hy, small1000 (by rw [List.length_map, List.length_map, List.length_map, List.length_range]; omega), fun b o q => ?_, ?_⟩
      · rw [upd_ne (ne_of_none q hD)]
        exact g b o q
      · rw [upd_same, List.range_succ, List.map_append, List.map_append, List.map_append]
        rfl
    · rintro H' ⟨g, hy⟩
      refine ⟨_, rfl, _, _, rfl, rfl, ⟨by decide, by decide⟩, _, rfl, _, _, rfl, rfl, (by show (0 : Int) < _; omega), ?_⟩
      have hm := mod_in (n / 8) (n := 1 + n % 8) (by omega)
      have e := letC_at (n / 64 + 5 * (n / 8 % (1 + n % 8)) + k)
      refine ⟨_, rfl, _, rfl, _, _, rfl, rfl, ⟨by decide, by decide⟩, _, rfl, _, _, rfl, rfl, .inl ⟨by decide, by decide⟩, _, _, rfl, rfl, _, rfl, _, _, rfl, rfl, _, _, rfl, rfl, (by show (0 : Int) < _; decide), _, _, _, rfl, rfl, abc_line, e, ?_⟩
      refine ⟨_, rfl, _, rfl, D, _, _, (n / 8 % (1 + n % 8)).toNat, rfl, rfl, hy, ixN_lt hm.1 (by rw [List.length_map, List.length_map, List.length_map, List.length_range]; omega), ?_⟩
      have h2 : ∀ y ∈ (((lettersC n).set (n / 8 % (1 + n % 8)).toNat (letC (n / 64 + 5 * (n / 8 % (1 + n % 8)) + k))).map sing), y.length = 1 := fun y hy => by
        obtain ⟨c, _, rfl⟩ := List.mem_map.mp hy
        rfl
      have eset : ((((List.range (1 + n % 8).toNat).map fun (i : Nat) => letC (n / 64 + 5 * (i : Int))).map sing).map V.str).set (n / 8 % (1 + n % 8)).toNat (.str ⟨#[letC (n / 64 + 5 * (n / 8 % (1 + n % 8)) + k)]⟩) = (((lettersC n).set (n / 8 % (1 + n % 8)).toNat (letC (n / 64 + 5 * (n / 8 % (1 + n % 8)) + k))).map sing).map V.str := by
        rw [List.map_set, List.map_set]
        rfl
      rw [eset]
      refine ⟨⟨_, rfl⟩, _, rfl, _, D, _, rfl, rfl, .inl (SqL.of upd_same), ?_, ?_⟩
      · rw [sum_ones _ h2, List.length_map, List.length_set, show ("" : Str).length = 0 by decide +kernel]
        unfold lettersC
        rw [List.length_map, List.length_range]
        omega
      · rw [TL.join_eq]
        exact q _ fun b o z => by rw [upd_ne (ne_of_none z hD)]; exact g b o z
end

/-! ### k09's programs: binders round holes that keep pieces of their names -/
def rnd (w : Nat) (x : Str) (m : Int) (t : Tm) (f : Str) : Tm := match w with
  | 0 => .letx x (.num m) t
  | 1 => .turns 1 x (.num m) t
  | _ => .deff f x false t (.use f (.num m))
structure Lv where
  w : Nat
  x : Str
  m : Int
  q : Str
def tower (f : Str) (b : Tm) : List Lv → Tm
  | [] => b
  | l :: r => rnd l.w l.x l.m (.un .hole (.letx l.q (.un .quote (.name l.x)) (.un .quote (tower f b r)))) f
abbrev eN : Ent := ⟨true, none, false⟩
abbrev eP : Ent := ⟨false, none, true⟩
theorem kd_rnd {w : Nat} {x f : Str} {m : Int} {t : Tm} {E : Env} (h : ∀ fr, kd t true (E.set x eN) fr = .ok false) (fr : Bool) : kd (rnd w x m t f) true E fr = .ok false := by
  unfold rnd
  split
  · show Kd.and (.ok false) (fun k => kd t true (E.set x ⟨true, none, k⟩) fr) = _
    exact h fr
  · show Kd.and (.ok false) (fun k => (kd t true (E.set x ⟨true, none, k⟩) fr).want k) = _
    show (kd t true (E.set x eN) fr).want false = _
    rw [h fr]
    rfl
  · simp only [kd, h false, Kd.and, Env.set, Kd.want]
    simp
/-- each kept name means a piece of level 0 -/
def Kept (Q : List Str) (E : Env) : Prop := ∀ q ∈ Q, E q = some eP
theorem Kept.set {Q : List Str} {E : Env} (h : Kept Q E) {x : Str} (n : x ∉ Q) (u : Ent) : Kept Q (E.set x u) := fun q m => by
  unfold Env.set
  rw [if_neg fun e => n (by rw [← e]; exact m)]
  exact h q m
theorem Kept.add {Q : List Str} {E : Env} (h : Kept Q E) (q : Str) : Kept (q :: Q) (E.set q eP) := fun r m => by
  unfold Env.set
  by_cases e : r = q
  · rw [if_pos e]
  · rw [if_neg e]
    exact h r ((List.mem_cons.mp m).elim (fun z => absurd z e) id)
def qs (Q : List Str) : List Lv → List Str
  | [] => Q
  | l :: r => qs (l.q :: Q) r
theorem qs_sub : ∀ {L : List Lv} {Q : List Str} {q : Str}, q ∈ Q → q ∈ qs Q L
  | [], _, _, h => h
  | l :: r, _, _, h => qs_sub (L := r) (List.mem_cons_of_mem _ h)
theorem kd_tower {f : Str} {b : Tm} : ∀ {L : List Lv} {Q : List Str} {E : Env}, Kept Q E → (∀ l ∈ L, l.x ∉ qs Q L) → (∀ E', Kept (qs Q L) E' → ∀ fr, kd b true E' fr = .ok false) → ∀ fr, kd (tower f b L) true E fr = .ok false
  | [], Q, E, h, _, hb, fr => hb E h fr
  | l :: r, Q, E, h, hx, hb, fr => by
    have nq : l.x ∉ Q := fun m => hx l List.mem_cons_self (show l.x ∈ qs (l.q :: Q) r from qs_sub (List.mem_cons_of_mem _ m))
    have nlq : l.q ≠ l.x := fun e => hx l List.mem_cons_self (by rw [← e]; exact qs_sub (L := r) (Q := l.q :: Q) List.mem_cons_self)
    refine kd_rnd (fun fr => ?_) fr
    have ih := kd_tower (f := f) (b := b) (L := r) (Q := l.q :: Q) (E := (E.set l.x eN).set l.q eP) ((h.set nq eN).add l.q) (fun l' m => hx l' (List.mem_cons_of_mem _ m)) hb false
    have e1 : (E.set l.x eN) l.x = some eN := if_pos rfl
    simp only [kd, e1, Kd.want, Kd.and, ih]
    simp [ih, Kd.want, Kd.and]
def vlL : List Lv → PDs → PDs
  | [], ρ => ρ
  | l :: r, ρ => vlL r ((ρ.set l.x (.val (l.m % 1000003))).set l.q (.val (l.m % 1000003)))
theorem vl_rnd {w : Nat} {x f : Str} {m : Int} {t : Tm} {ρ : PDs} : vl (rnd w x m t f) ρ = vl t (ρ.set x (.val (m % 1000003))) := by
  unfold rnd
  split
  · rfl
  · rfl
  · simp only [vl, PDs.set, if_true, PD.app]
theorem vl_tower {f : Str} {b : Tm} : ∀ {L : List Lv} {ρ : PDs}, vl (tower f b L) ρ = vl b (vlL L ρ)
  | [], ρ => rfl
  | l :: r, ρ => by
    show vl (rnd _ _ _ _ _) ρ = _
    rw [vl_rnd]
    show vl (tower f b r) ((ρ.set l.x _).set l.q (.val ((ρ.set l.x (.val (l.m % 1000003))) l.x).int)) = _
    have e : ((ρ.set l.x (.val (l.m % 1000003))) l.x).int = l.m % 1000003 := by unfold PDs.set; rw [if_pos rfl]; rfl
    rw [e, vl_tower (L := r)]
    rfl
/-- each kept name holds a piece of one term -/
def KeptM (Q : List Str) (E : SDs) : Prop := ∀ q ∈ Q, ∃ s, E q = .val (.piece (.name s))
theorem KeptM.set {Q : List Str} {E : SDs} (h : KeptM Q E) {x : Str} (n : x ∉ Q) (u : SD) : KeptM Q (E.set x u) := fun q m => by
  unfold SDs.set
  rw [if_neg fun e => n (by rw [← e]; exact m)]
  exact h q m
theorem KeptM.add {Q : List Str} {E : SDs} (h : KeptM Q E) (q s : Str) : KeptM (q :: Q) (E.set q (.val (.piece (.name s)))) := fun r m => by
  unfold SDs.set
  by_cases e : r = q
  · rw [if_pos e]
    exact ⟨s, rfl⟩
  · rw [if_neg e]
    exact h r ((List.mem_cons.mp m).elim (fun z => absurd z e) id)
/-- a piece is made, of no more terms and no deeper -/
def Mk9 (t : Tm) (E : SDs) (n z d : Nat) : Prop := ∃ p n', mg t true E n = some (.piece p, n') ∧ p.size ≤ z ∧ p.deep ≤ d
theorem mk_rnd {w : Nat} {x f : Str} {m : Int} {t : Tm} {E : SDs} {n z d : Nat} (hd : 1 ≤ d) (h : ∀ s n, Mk9 t (E.set x (.nm s)) n z d) : Mk9 (rnd w x m t f) E n (z + 3) (d + 2) := by
  unfold rnd
  split
  · obtain ⟨p, n', e, a, b⟩ := h (vN (n + 1)) (n + 1)
    exact ⟨.letx (vN (n + 1)) (.num m) p, n', by simp only [mg, bnd, e]; rfl, by simp only [Tm.size]; omega, by simp only [Tm.deep]; omega⟩
  · obtain ⟨p, n', e, a, b⟩ := h (vN (n + 1)) (n + 1)
    exact ⟨.turns 1 (vN (n + 1)) (.num m) p, n', by simp only [mg, bnd, e]; rfl, by simp only [Tm.size]; omega, by simp only [Tm.deep]; omega⟩
  · obtain ⟨p, n', e, a, b⟩ := h (vN (n + 2)) (n + 2)
    exact ⟨.deff (vN (n + 1)) (vN (n + 2)) false p (.use (vN (n + 1)) (.num m)), n', by simp only [mg, bnd, e, SDs.set, if_true, SD.txt, VV.pc], by simp only [Tm.size]; omega, by simp only [Tm.deep]; omega⟩
theorem mk_tower {f : Str} {b : Tm} {z d : Nat} (hd : 1 ≤ d) : ∀ {L : List Lv} {Q : List Str} {E : SDs} {n : Nat}, z + 3 * L.length ≤ 2000 → d + 2 * L.length ≤ 30 → KeptM Q E → (∀ l ∈ L, l.x ∉ qs Q L) → (∀ E' n, KeptM (qs Q L) E' → Mk9 b E' n z d) → Mk9 (tower f b L) E n (z + 3 * L.length) (d + 2 * L.length)
  | [], Q, E, n, _, _, h, _, hb => hb E n h
  | l :: r, Q, E, n, h1, h2, h, hx, hb => by
    have nq : l.x ∉ Q := fun m => hx l List.mem_cons_self (show l.x ∈ qs (l.q :: Q) r from qs_sub (List.mem_cons_of_mem _ m))
    rw [List.length_cons] at h1 h2 ⊢
    refine mk_rnd (z := z + 3 * r.length) (d := d + 2 * r.length) (by omega) fun s n => ?_
    have e1 : (E.set l.x (.nm s)) l.x = .nm s := if_pos rfl
    obtain ⟨p, n', e, a, c⟩ := mk_tower (f := f) (b := b) (z := z) (d := d) hd (L := r) (Q := l.q :: Q) (E := (E.set l.x (.nm s)).set l.q (.val (.piece (.name s)))) (n := n) (by omega) (by omega) ((h.set nq _).add l.q s) (fun l' m => hx l' (List.mem_cons_of_mem _ m)) hb
    refine ⟨p, n', ?_, a, c⟩
    have f1 : fitP (.piece (.name s)) n = some (.piece (.name s), n) := if_pos ⟨by show 1 ≤ 2000; omega, by show 1 ≤ 30; omega⟩
    have f2 : fitP (.piece p) n' = some (.piece p, n') := if_pos ⟨by show p.size ≤ 2000; omega, by show p.deep ≤ 30; omega⟩
    simp only [mg, e1, SD.txt, bnd, f1, e, f2]

/-! ### k11's programs -/
abbrev holeT (x : Str) : Tm := .un .hole (.name x)
def stepT (w : Nat) (x y : Str) : Tm := match w with
  | 0 => .bin .sum (.num 2) (holeT x)
  | 1 => .letx y (holeT x) (.name y)
  | 2 => .cond (.num 0) (.num 7) (holeT x)
  | 3 => .bin .product (.num 1) (holeT x)
  | 4 => .turns 1 y (.num 3) (holeT x)
  | _ => .deff y y false (holeT x) (.use y (.num 4))
structure WideT (m : Nat) (t : Tm) : Prop where
  kd : ∀ E fr, kd t true E fr = .ok false
  ok : t.Ok
  size : t.size + 1 = 2 * m
  mg : ∀ E n, mg t true E n = some (.piece t, n)
  vl : ∀ ρ, vl t ρ = (m : Int)
  cnt : ∀ κ, cnt t κ = 0
theorem WideT.one : WideT 1 (.num 1) := ⟨fun _ _ => rfl, True.intro, rfl, fun _ _ => rfl, fun _ => rfl, fun _ => rfl⟩
theorem WideT.two {m k : Nat} {a b : Tm} (ha : WideT m a) (hb : WideT k b) (h : m + k ≤ 1000) : WideT (m + k) (.bin .sum a b) :=
  ⟨fun E fr => by simp only [Q.kd, ha.kd, hb.kd, Kd.want, Kd.and]; rfl, ⟨ha.ok, hb.ok⟩, by have := ha.size; have := hb.size; simp only [Tm.size]; omega,
    fun E n => by simp only [Q.mg, ha.mg, hb.mg, bnd, VV.pc], fun ρ => by
      show (Q.vl a ρ + Q.vl b ρ) % 1000003 = _
      rw [ha.vl, hb.vl]
      omega, fun κ => by simp only [Q.cnt, ha.cnt, hb.cnt]⟩
/-- a piece's program: of its kind, closed; what it makes, what it comes to -/
structure PrT (t : Tm) (big : Bool) (g : Tm → Prop) (due : Int) : Prop where
  kd : ∀ E fr, kd t false E fr = .ok true
  ok : t.Ok
  none : big = true → ∀ E n, mg t false E n = none
  some : big = false → ∀ E n, ∃ p n', mg t false E n = some (.piece p, n') ∧ g p
  vl : ∀ ρ, vl t ρ = due
/-- how great a program is -/
structure SzT (t : Tm) (d z c : Nat) : Prop where
  deep : t.deep ≤ d
  size : t.size ≤ z
  cnt : ∀ κ, cnt t κ ≤ c
/-- doubled k times -/
def dbl : Nat → Tm
  | 0 => .num 1
  | k + 1 => .bin .sum (dbl k) (dbl k)
theorem dbl_size : ∀ k, (dbl k).size + 1 = 2 ^ (k + 1)
  | 0 => rfl
  | k + 1 => by have := dbl_size k; simp only [dbl, Tm.size]; rw [Nat.pow_succ]; omega
theorem dbl_deep : ∀ k, (dbl k).deep = k + 1
  | 0 => rfl
  | k + 1 => by have := dbl_deep k; simp only [dbl, Tm.deep]; omega
abbrev twiceT (x : Str) : Tm := .un .quote (.bin .sum (holeT x) (holeT x))
abbrev startT (x : Str) : Tm := .turns 9 x (.un .lift (.num 1)) (twiceT x)
theorem it_dbl {x : Str} {E : SDs} : ∀ (k j n : Nat), j + k ≤ 9 → itM (fun v n => mg (twiceT x) false (E.set x (.val v)) n) k (.piece (dbl j)) n = some (.piece (dbl (j + k)), n)
  | 0, j, n, _ => rfl
  | k + 1, j, n, h => by
    have e : mg (twiceT x) false (E.set x (.val (.piece (dbl j)))) n = some (.piece (dbl (j + 1)), n) := by
      have e0 : (E.set x (.val (.piece (dbl j)))) x = .val (.piece (dbl j)) := if_pos rfl
      simp only [mg, e0, SD.vv, bnd, VV.pc]
      refine if_pos ⟨?_, ?_⟩
      · show (dbl (j + 1)).size ≤ 2000
        have := dbl_size (j + 1)
        have : 2 ^ (j + 1 + 1) ≤ 2 ^ 10 := Nat.pow_le_pow_right (by decide) (by omega)
        omega
      · show (dbl (j + 1)).deep ≤ 30
        rw [dbl_deep]
        omega
    show bnd (mg (twiceT x) false (E.set x (.val (.piece (dbl j)))) n) _ = _
    rw [e]
    show itM _ k (.piece (dbl (j + 1))) n = _
    rw [it_dbl k (j + 1) n (by omega), show j + 1 + k = j + (k + 1) by omega]
theorem start_pr {x : Str} (hx : PyData.strOk x = true) : PrT (startT x) false (fun p => p.size = 1023 ∧ p.deep = 10) 512 := by
  refine ⟨fun E fr => ?_, ⟨⟨⟨by decide, by decide⟩, hx⟩, True.intro, hx, hx⟩, (fun z => by cases z), fun _ E n => ⟨dbl 9, n, ?_, ?_, ?_⟩, fun ρ => ?_⟩
  · have e1 : (E.set x eP) x = some eP := if_pos rfl
    simp only [kd, Kd.want, Kd.and]
    simp [e1, Kd.want, Kd.and]
  · have z := it_dbl (x := x) (E := E) 9 0 n (by omega)
    show bnd (bnd _ _) _ = _
    exact z
  · have := dbl_size 9; omega
  · exact dbl_deep 9
  · have e : ∀ (k : Nat) (i : Int), 0 ≤ i → i * 2 ^ k ≤ 512 → iter (fun i => vl (twiceT x) (ρ.set x (.val i))) k i = i * 2 ^ k := by
      intro k
      induction k with
      | zero => intro i _ _; show i = i * 2 ^ 0; omega
      | succ k ih =>
        intro i h0 h1
        have e0 : (ρ.set x (.val i)) x = .val i := if_pos rfl
        have e1 : vl (twiceT x) (ρ.set x (.val i)) = (i + i) % 1000003 := by
          show ((((ρ.set x (.val i)) x).int + ((ρ.set x (.val i)) x).int) % 1000003) = _
          rw [e0]
          rfl
        have p1 : (1 : Int) ≤ 2 ^ k := by
          have := Nat.pow_pos (n := k) (show 0 < 2 by decide)
          have e : (2 : Int) ^ k = ((2 ^ k : Nat) : Int) := by norm_cast
          rw [e]
          omega
        have h2 : i * 2 ^ (k + 1) = (i + i) * 2 ^ k := by
          rw [Int.pow_succ, ← Int.mul_assoc, Int.add_mul]
          omega
        have h3 : i + i ≤ (i + i) * 2 ^ k := by
          have := Int.mul_le_mul_of_nonneg_left p1 (show 0 ≤ i + i by omega)
          rw [Int.mul_one] at this
          exact this
        have e2 : (i + i) % 1000003 = i + i := Int.emod_eq_of_lt (by omega) (by omega)
        show iter _ k (vl (twiceT x) (ρ.set x (.val i))) = _
        rw [e1, e2, h2]
        exact ih (i + i) (by omega) (by rw [← h2]; exact h1)
    show iter _ (9 : Int).toNat (1 % 1000003) = _
    exact e 9 1 (by decide) (by decide)

theorem great_pr {x : Str} {m : Nat} {wt s : Tm} {sz : Nat} (hx : PyData.strOk x = true) (hs : PrT s false (fun p => p.size = sz ∧ p.deep ≤ 12) 512) (hw : WideT m wt) (hd : wt.deep ≤ 10) (hm : m ≤ 1000) (h1 : 1 ≤ m) :
    PrT (.letx x s (.un .quote (.bin .sum (holeT x) wt))) (decide (2000 < sz + 2 * m)) (fun p => p.size = sz + 2 * m ∧ p.deep ≤ 30) (512 + m) := by
  have e : ∀ (E : SDs) (n : Nat) (p : Tm), mg (.un .quote (.bin .sum (holeT x) wt)) false (E.set x (.val (.piece p))) n = fitP (.piece (.bin .sum p wt)) n := fun E n p => by
    have e0 : (E.set x (.val (.piece p))) x = .val (.piece p) := if_pos rfl
    simp only [mg, e0, SD.vv, bnd, VV.pc, hw.mg]
  refine ⟨fun E fr => ?_, ⟨hx, hs.ok, hx, hw.ok⟩, fun hb E n => ?_, fun hb E n => ?_, fun ρ => ?_⟩
  · have e1 : (E.set x eP) x = some eP := if_pos rfl
    simp [kd, hs.kd, Kd.want, Kd.and, hw.kd, e1]
  · obtain ⟨p, n1, e1, g1, g2⟩ := hs.some rfl E n
    have hb := of_decide_eq_true hb
    simp only [mg] at e1 ⊢
    rw [e1]
    show mg (.un .quote (.bin .sum (holeT x) wt)) false (E.set x (.val (.piece p))) n1 = none
    rw [e]
    refine if_neg fun z => ?_
    have z1 : (Tm.bin .sum p wt).size ≤ 2000 := z.1
    simp only [Tm.size] at z1
    have := hw.size
    omega
  · obtain ⟨p, n1, e1, g1, g2⟩ := hs.some rfl E n
    have hb := of_decide_eq_false hb
    have := hw.size
    refine ⟨.bin .sum p wt, n1, ?_, by simp only [Tm.size]; omega, by simp only [Tm.deep]; omega⟩
    simp only [mg] at e1 ⊢
    rw [e1]
    show mg (.un .quote (.bin .sum (holeT x) wt)) false (E.set x (.val (.piece p))) n1 = _
    rw [e]
    refine if_pos ⟨?_, ?_⟩
    · show (Tm.bin .sum p wt).size ≤ 2000
      simp only [Tm.size]
      omega
    · show (Tm.bin .sum p wt).deep ≤ 30
      simp only [Tm.deep]
      omega
  · show (((ρ.set x (.val (vl s ρ))) x).int + vl wt _) % 1000003 = _
    have e0 : (ρ.set x (.val (vl s ρ))) x = .val (vl s ρ) := if_pos rfl
    rw [e0, hw.vl, hs.vl]
    show (512 + (m : Int)) % 1000003 = _
    omega
theorem when_pr {x : Str} (hx : PyData.strOk x = true) : PrT (.letx x (startT x) (.un .quote (.cond (.num 1) (holeT x) (.num 2)))) false (fun p => p.size = 1026 ∧ p.deep ≤ 12) 512 := by
  have hs := start_pr hx
  refine ⟨fun E fr => ?_, ⟨hx, hs.ok, True.intro, hx, True.intro⟩, (fun z => by cases z), fun _ E n => ?_, fun ρ => ?_⟩
  · have e1 : (E.set x eP) x = some eP := if_pos rfl
    have e2 := hs.kd E fr
    generalize startT x = st at e2
    simp [kd, e2, Kd.want, Kd.and, e1]
  · obtain ⟨p, n1, e1, g1, g2⟩ := hs.some rfl E n
    refine ⟨.cond (.num 1) p (.num 2), n1, ?_, by simp only [Tm.size]; omega, by simp only [Tm.deep]; omega⟩
    generalize startT x = st at e1
    have e0 : (E.set x (.val (.piece p))) x = .val (.piece p) := if_pos rfl
    simp only [mg, e1, bnd, e0, SD.vv, VV.pc]
    refine if_pos ⟨?_, ?_⟩
    · show (Tm.cond (.num 1) p (.num 2)).size ≤ 2000
      simp only [Tm.size]
      omega
    · show (Tm.cond (.num 1) p (.num 2)).deep ≤ 30
      simp only [Tm.deep]
      omega
  · have e2 := hs.vl ρ
    generalize startT x = st at e2
    show (if (1 : Int) % 1000003 = 0 then (2 : Int) % 1000003 else ((ρ.set x (.val (vl st ρ))) x).int) = _
    have e0 : (ρ.set x (.val (vl st ρ))) x = .val (vl st ρ) := if_pos rfl
    rw [if_neg (by decide), e0, e2]
    rfl
/-- one step's piece -/
theorem step_mg {w : Nat} {x y : Str} (ne : x ≠ y) (E : SDs) (n : Nat) (p : Tm) (hp : 2 ≤ p.deep) : ∃ p' n', mg (stepT w x y) true (E.set x (.val (.piece p))) n = some (.piece p', n') ∧ p'.deep = p.deep + 1 ∧ p'.size ≤ p.size + 4 := by
  have e0 : (E.set x (.val (.piece p))) x = .val (.piece p) := if_pos rfl
  have e1 : ∀ u, ((E.set x (.val (.piece p))).set y u) x = .val (.piece p) := fun u => (if_neg ne).trans e0
  have e2 : ∀ u, ((E.set x (.val (.piece p))).set y u) y = u := fun u => if_pos rfl
  unfold stepT
  split
  · exact ⟨.bin .sum (.num 2) p, n, by simp only [mg, e0, SD.vv, bnd, VV.pc], by simp only [Tm.deep]; omega, by simp only [Tm.size]; omega⟩
  · exact ⟨.letx (vN (n + 1)) p (.name (vN (n + 1))), n + 1, by simp only [mg, e0, e2, SD.vv, SD.txt, bnd, VV.pc], by simp only [Tm.deep]; omega, by simp only [Tm.size]; omega⟩
  · exact ⟨.cond (.num 0) (.num 7) p, n, by simp only [mg, e0, SD.vv, bnd, VV.pc], by simp only [Tm.deep]; omega, by simp only [Tm.size]; omega⟩
  · exact ⟨.bin .product (.num 1) p, n, by simp only [mg, e0, SD.vv, bnd, VV.pc], by simp only [Tm.deep]; omega, by simp only [Tm.size]; omega⟩
  · exact ⟨.turns 1 (vN (n + 1)) (.num 3) p, n + 1, by simp only [mg, e1, SD.vv, bnd, VV.pc], by simp only [Tm.deep]; omega, by simp only [Tm.size]; omega⟩
  · exact ⟨.deff (vN (n + 1)) (vN (n + 2)) false p (.use (vN (n + 1)) (.num 4)), n + 2, by simp only [mg, e1, e2, SD.vv, SD.txt, bnd, VV.pc], by simp only [Tm.deep]; omega, by simp only [Tm.size]; omega⟩
theorem it_step {w : Nat} {x y : Str} (ne : x ≠ y) (E : SDs) : ∀ (k n : Nat) (p : Tm), 2 ≤ p.deep → p.deep ≤ 30 → p.size + 4 * k ≤ 2000 →
    (30 < p.deep + k → itM (fun v n => mg (.un .quote (stepT w x y)) false (E.set x (.val v)) n) k (.piece p) n = none) ∧
    (p.deep + k ≤ 30 → ∃ p' n', itM (fun v n => mg (.un .quote (stepT w x y)) false (E.set x (.val v)) n) k (.piece p) n = some (.piece p', n') ∧ p'.deep = p.deep + k ∧ p'.size ≤ p.size + 4 * k)
  | 0, n, p, _, h30, _ => ⟨fun z => by omega, fun _ => ⟨p, n, rfl, rfl, Nat.le_refl _⟩⟩
  | k + 1, n, p, h2, h30, hz => by
    obtain ⟨p', n', e, d, s⟩ := step_mg (w := w) ne E n p h2
    have e1 : mg (.un .quote (stepT w x y)) false (E.set x (.val (.piece p))) n = fitP (.piece p') n' := by
      rw [mg, e]
      rfl
    by_cases c : p'.deep ≤ 30
    · have e2 : fitP (.piece p') n' = some (.piece p', n') := if_pos ⟨by show p'.size ≤ 2000; omega, c⟩
      have ih := it_step (w := w) ne E k n' p' (by omega) c (by omega)
      have e3 : itM (fun v n => mg (.un .quote (stepT w x y)) false (E.set x (.val v)) n) (k + 1) (.piece p) n = itM (fun v n => mg (.un .quote (stepT w x y)) false (E.set x (.val v)) n) k (.piece p') n' := by
        show bnd (mg (.un .quote (stepT w x y)) false (E.set x (.val (.piece p))) n) _ = _
        rw [e1, e2]
        rfl
      rw [e3]
      refine ⟨fun z => ih.1 (by omega), fun z => ?_⟩
      obtain ⟨p2, n2, a, b, c2⟩ := ih.2 (by omega)
      exact ⟨p2, n2, a, by omega, by omega⟩
    · have e2 : fitP (.piece p') n' = none := if_neg fun z => c z.2
      refine ⟨fun _ => ?_, fun z => by omega⟩
      show bnd (mg (.un .quote (stepT w x y)) false (E.set x (.val (.piece p))) n) _ = _
      rw [e1, e2]
      rfl
theorem step_vl {w : Nat} {x y : Str} (ne : x ≠ y) (ρ : PDs) (i : Int) (h : In i) : vl (stepT w x y) (ρ.set x (.val i)) = if w = 0 then (2 + i) % 1000003 else i := by
  have e0 : (ρ.set x (.val i)) x = .val i := if_pos rfl
  have e1 : ∀ u, ((ρ.set x (.val i)).set y u) x = .val i := fun u => (if_neg ne).trans e0
  have e2 : ∀ u, ((ρ.set x (.val i)).set y u) y = u := fun u => if_pos rfl
  have e3 : i % 1000003 = i := Int.emod_eq_of_lt h.1 h.2
  match w with
  | 0 =>
    show (2 % 1000003 + ((ρ.set x (.val i)) x).int) % 1000003 = _
    rw [e0]
    rfl
  | 1 =>
    show (((ρ.set x (.val i)).set y (.val ((ρ.set x (.val i)) x).int)) y).int = _
    rw [e2, e0]
    rfl
  | 2 =>
    show (if (0 : Int) % 1000003 = 0 then ((ρ.set x (.val i)) x).int else _) = _
    rw [if_pos (by decide), e0]
    rfl
  | 3 =>
    show 1 % 1000003 * ((ρ.set x (.val i)) x).int % 1000003 = _
    rw [e0]
    show 1 * i % 1000003 = i
    rw [Int.one_mul, e3]
  | 4 =>
    show iter _ 1 _ = _
    show (((ρ.set x (.val i)).set y (.val _)) x).int = _
    rw [e1]
    rfl
  | w + 5 =>
    show ((((ρ.set x (.val i)).set y _) y).app _) = _
    rw [e2]
    show (((ρ.set x (.val i)).set y (.val _)) x).int = _
    rw [e1]
    rfl
theorem step_kd {w : Nat} {x y : Str} (ne : x ≠ y) (E : Env) (fr : Bool) : kd (stepT w x y) true (E.set x eP) fr = .ok false := by
  have e0 : (E.set x eP) x = some eP := if_pos rfl
  have e1 : ∀ u, ((E.set x eP).set y u) x = some eP := fun u => (if_neg ne).trans e0
  have e2 : ∀ u, ((E.set x eP).set y u) y = some u := fun u => if_pos rfl
  unfold stepT
  split <;> simp [kd, e0, e1, e2, Kd.want, Kd.and]

/-! ### k11: the deep program, step by step -/
theorem iter_step {w : Nat} {x y : Str} (ne : x ≠ y) (ρ : PDs) : ∀ (k : Nat) (i : Int), 0 ≤ i → i + 2 * (k : Int) < 1000003 → iter (fun i => vl (.un .quote (stepT w x y)) (ρ.set x (.val i))) k i = if w = 0 then i + 2 * (k : Int) else i
  | 0, i, _, _ => by
    show i = _
    split <;> omega
  | k + 1, i, h0, h1 => by
    show iter _ k (vl (stepT w x y) (ρ.set x (.val i))) = _
    rw [step_vl ne ρ i ⟨h0, by omega⟩]
    split
    · rename_i c
      have e : (2 + i) % 1000003 = i + 2 := by omega
      rw [e, iter_step ne ρ k (i + 2) (by omega) (by omega), if_pos c]
      omega
    · rename_i c
      rw [iter_step ne ρ k i h0 (by omega), if_neg c]
def dueW (w s : Nat) : Int := if w = 0 then 1 + 2 * (s : Int) else 1
abbrev DeepT (w : Nat) (s : Nat) (t : Tm) : Prop := PrT t (decide (30 < 2 + s)) (fun p => p.deep = 2 + s ∧ p.size ≤ 3 + 4 * s) (dueW w s)
theorem deep_start (w : Nat) : DeepT w 0 (.un .quote (.bin .sum (.num 1) (.num 0))) := by
  refine ⟨fun E fr => rfl, ⟨True.intro, True.intro⟩, (fun z => absurd z (by decide)), fun _ E n => ⟨.bin .sum (.num 1) (.num 0), n, ?_, rfl, by show 1 + (1 + 1) ≤ 3; omega⟩, fun ρ => ?_⟩
  · simp only [mg, bnd, VV.pc]
    exact if_pos ⟨by show 1 + (1 + 1) ≤ 2000; omega, by show 1 + max 1 1 ≤ 30; omega⟩
  · unfold dueW
    split <;> rfl
theorem deep_more {w s k : Nat} {x y : Str} {t : Tm} (hx : PyData.strOk x = true) (hy : PyData.strOk y = true) (ne : x ≠ y) (h : DeepT w s t) (hk : k ≤ 9) (hs : s + k ≤ 40) : DeepT w (s + k) (.turns (k : Int) x t (.un .quote (stepT w x y))) := by
  have hok : (stepT w x y).Ok := by
    unfold stepT
    split
    · exact ⟨True.intro, hx⟩
    · exact ⟨hy, hx, hy⟩
    · exact ⟨True.intro, True.intro, hx⟩
    · exact ⟨True.intro, hx⟩
    · exact ⟨⟨⟨by decide, by decide⟩, hy⟩, True.intro, hx⟩
    · exact ⟨⟨hy, hy⟩, hx, hy, True.intro⟩
  have e : ∀ (E : SDs) (n : Nat), mg (.turns (k : Int) x t (.un .quote (stepT w x y))) false E n = bnd (mg t false E n) fun v n1 => itM (fun v n => mg (.un .quote (stepT w x y)) false (E.set x (.val v)) n) k v n1 := fun E n => rfl
  refine ⟨fun E fr => ?_, ⟨⟨⟨by omega, by omega⟩, hx⟩, h.ok, hok⟩, fun hb E n => ?_, fun hb E n => ?_, fun ρ => ?_⟩
  · have e1 : kd (.un .quote (stepT w x y)) false (E.set x ⟨false, none, true⟩) fr = .ok true := by
      show Kd.and (Kd.want (kd (stepT w x y) true (E.set x eP) false) false) _ = _
      rw [step_kd ne]
      rfl
    show Kd.and (kd t false E fr) (fun k => (kd (.un .quote (stepT w x y)) false (E.set x ⟨false, none, k⟩) fr).want k) = _
    rw [h.kd]
    show (kd (.un .quote (stepT w x y)) false (E.set x ⟨false, none, true⟩) fr).want true = _
    rw [e1]
    rfl
  · have hb := of_decide_eq_true hb
    rw [e]
    by_cases c : 30 < 2 + s
    · rw [h.none (decide_eq_true c)]
      rfl
    · obtain ⟨p, n1, e1, g1, g2⟩ := h.some (decide_eq_false c) E n
      rw [e1]
      exact (it_step (w := w) ne E k n1 p (by omega) (by omega) (by omega)).1 (by omega)
  · have hb := of_decide_eq_false hb
    obtain ⟨p, n1, e1, g1, g2⟩ := h.some (decide_eq_false (by omega)) E n
    rw [e, e1]
    obtain ⟨p', n', e2, d, z⟩ := (it_step (w := w) ne E k n1 p (by omega) (by omega) (by omega)).2 (by omega)
    exact ⟨p', n', e2, by omega, by omega⟩
  · show iter _ (k : Int).toNat (vl t ρ) = _
    rw [h.vl, Int.toNat_natCast]
    have hd : 0 ≤ dueW w s ∧ dueW w s ≤ 81 := by unfold dueW; split <;> omega
    rw [iter_step ne ρ k _ hd.1 (by omega)]
    unfold dueW
    split <;> omega
theorem step_cnt (w : Nat) (x y : Str) (κ : Hts) : cnt (stepT w x y) κ ≤ 4 := by
  unfold stepT
  split <;> simp [cnt, Hts.set]
theorem step_great (w : Nat) (x y : Str) : (stepT w x y).size ≤ 5 ∧ (stepT w x y).deep ≤ 3 := by
  unfold stepT
  split <;> simp [Tm.size, Tm.deep]
theorem deep_great {w s k : Nat} {x y : Str} {t : Tm} (h : SzT t (6 + s) (4 + 10 * s) (50 * s)) (h1 : 1 ≤ k) (h9 : k ≤ 9) : SzT (.turns (k : Int) x t (.un .quote (stepT w x y))) (6 + (s + k)) (4 + 10 * (s + k)) (50 * (s + k)) := by
  have g := step_great w x y
  refine ⟨?_, ?_, fun κ => ?_⟩
  · have := h.deep
    simp only [Tm.deep]
    omega
  · have := h.size
    simp only [Tm.size]
    omega
  · have z1 := h.cnt κ
    have z2 := step_cnt w x y (κ.set x 0)
    have z3 : (1 + (k : Int).toNat) * cnt (stepT w x y) (κ.set x 0) ≤ (1 + k) * 4 := by
      rw [Int.toNat_natCast]
      exact Nat.mul_le_mul_left _ z2
    simp only [cnt]
    omega

/-! ### k11's functions -/
def spStep : Sp := fun vs H Q _ => ∃ (w : Nat) (x y : Str), vs = [.int (w : Int), .str x, .str y] ∧ ∀ (u : V) (H' : Hp), Same H H' → TmAt H' (stepT w x y) u → Q u H'
def spWide (L : Nat) : Sp := fun vs H Q _ => ∃ (m : Nat), vs = [.int (m : Int)] ∧ 1 ≤ m ∧ 2 * m ≤ 2 ^ L ∧ m ≤ 1000 ∧ ∀ (t : Tm) (u : V) (H' : Hp), Same H H' → TmAt H' t u → WideT m t → t.deep ≤ L → Q u H'
abbrev s_step : Stmt := topS 85
theorem sc_step : FnScope ["_law_way", "_law_x", "_law_y", "_law_hole"] ["_law_way", "_law_x", "_law_y"] (defScope s_step) := ⟨rfl, rfl, rfl, by decide +kernel, rfl, by decide +kernel, by decide +kernel⟩
abbrev s_wide : Stmt := topS 83
theorem sc_wide : FnScope ["_law_many", "_law_half"] ["_law_many"] (defScope s_wide) := ⟨rfl, rfl, rfl, by decide +kernel, rfl, by decide +kernel, by decide +kernel⟩
section
variable {P : Program} {w : World} {K : PySem.W.Frag} {mg : Str → Option Value} {base : Heap} {f f1 f2 f3 f4 f5 f6 f7 f8 : Addr} {fd fd1 fd2 fd3 fd4 fd5 fd6 fd7 fd8 : FuncData}
theorem ok_step (F : Fun K "_law_step" "_law_step" s_step f fd) : FnOk P w K mg base CX0 1 f fd ["_law_way", "_law_x", "_law_y"] spStep := by
  refine F.ok sc_step (fun vs H Q E h => ?_) (fun cdv A outer s H vs Q E hr h => ?_)
  · obtain ⟨w, x, y, rfl, _⟩ := h
    rfl
  obtain ⟨w, x, y, rfl, q⟩ := h
  refine ⟨_, (pss_cons (ps_set (i := 3) sc_step.nd rfl (Or.inl rfl) (pe_tup (pa_cons pe_str (pa_cons (pe_tup (pa_cons pe_str (pa_cons (pv 1) pa_nil))) pa_nil))))
      (pss_cons (ps_if (pt_cmpR op_eq (pv 0) pe_int (nomark _)) (pss_one (ps_ret (pe_tup (pa_cons pe_str (pa_cons (pe_tup (pa_cons pe_str (pa_cons pe_int pa_nil))) (pa_cons (pv 3) pa_nil)))))) pss_nil)
      (pss_cons (ps_if (pt_cmpR op_eq (pv 0) pe_int (nomark _)) (pss_one (ps_ret (pe_tup (pa_cons pe_str (pa_cons (pv 2) (pa_cons (pv 3) (pa_cons (pe_tup (pa_cons pe_str (pa_cons (pv 2) pa_nil))) pa_nil))))))) pss_nil)
      (pss_cons (ps_if (pt_cmpR op_eq (pv 0) pe_int (nomark _)) (pss_one (ps_ret (pe_tup (pa_cons pe_str (pa_cons (pe_tup (pa_cons pe_str (pa_cons pe_int pa_nil))) (pa_cons (pe_tup (pa_cons pe_str (pa_cons pe_int pa_nil))) (pa_cons (pv 3) pa_nil))))))) pss_nil)
      (pss_cons (ps_if (pt_cmpR op_eq (pv 0) pe_int (nomark _)) (pss_one (ps_ret (pe_tup (pa_cons pe_str (pa_cons (pe_tup (pa_cons pe_str (pa_cons pe_int pa_nil))) (pa_cons (pv 3) pa_nil)))))) pss_nil)
      (pss_cons (ps_if (pt_cmpR op_eq (pv 0) pe_int (nomark _)) (pss_one (ps_ret (pe_tup (pa_cons pe_str (pa_cons pe_int (pa_cons (pv 2) (pa_cons (pe_tup (pa_cons pe_str (pa_cons pe_int pa_nil))) (pa_cons (pv 3) pa_nil)))))))) pss_nil)
      (pss_one (ps_ret (pe_tup (pa_cons pe_str (pa_cons (pv 2) (pa_cons (pv 2) (pa_cons pe_str (pa_cons (pv 3) (pa_cons (pe_tup (pa_cons pe_str (pa_cons (pv 2) (pa_cons (pe_tup (pa_cons pe_str (pa_cons pe_int pa_nil))) pa_nil)))) pa_nil))))))))))))))), ?_⟩
  refine ⟨_, rfl, sz 2, fun p1 n1 => ⟨sz 2, fun p2 n2 => ?_⟩⟩
  have k1 := same_new n1 (.tup [V.str "name", .str x])
  have k2 := same_new n2 (.tup [V.str "hole", .ref p1])
  have hH : TmAt (upd (upd H p1 (.tup [V.str "name", .str x])) p2 (.tup [V.str "hole", .ref p1])) (holeT x) (.ref p2) := ⟨p2, _, rfl, upd_same, p1, rfl, k2 _ _ upd_same⟩
  have k12 := k1.trans k2
  generalize upd (upd H p1 (.tup [V.str "name", .str x])) p2 (.tup [V.str "hole", .ref p1]) = H1 at hH k12 ⊢
  refine ⟨_, rfl, rfl, _, rfl, ite2 (fun c => ?_) fun c0 => ?_⟩
  · have e : w = 0 := by have z := V.int.inj (of_decide_eq_true c); omega
    subst e
    refine ⟨sz 2, fun p3 n3 => ⟨_, rfl, sz 3, fun p4 n4 => ?_⟩⟩
    exact q _ _ (by repeat (first | assumption | exact same_new (by assumption) _ | refine Same.trans ?_ (same_new (by assumption) _))) ⟨p4, _, _, rfl, (by repeat (first | exact upd_same | assumption | refine same_new (by assumption) _ _ _ ?_)), ⟨_, rfl, (by repeat (first | exact upd_same | assumption | refine same_new (by assumption) _ _ _ ?_))⟩, (by repeat (first | assumption | refine TmAt.mono (.of_same (same_new (by assumption) _)) ?_))⟩
  refine ⟨_, rfl, rfl, _, rfl, ite2 (fun c => ?_) fun c1 => ?_⟩
  · have e : w = 1 := by have z := V.int.inj (of_decide_eq_true c); omega
    subst e
    refine ⟨_, rfl, _, rfl, _, rfl, sz 2, fun p3 n3 => ⟨sz 4, fun p4 n4 => ?_⟩⟩
    exact q _ _ (by repeat (first | assumption | exact same_new (by assumption) _ | refine Same.trans ?_ (same_new (by assumption) _))) ⟨p4, _, _, rfl, (by repeat (first | exact upd_same | assumption | refine same_new (by assumption) _ _ _ ?_)), (by repeat (first | assumption | refine TmAt.mono (.of_same (same_new (by assumption) _)) ?_)), ⟨_, rfl, (by repeat (first | exact upd_same | assumption | refine same_new (by assumption) _ _ _ ?_))⟩⟩
  refine ⟨_, rfl, rfl, _, rfl, ite2 (fun c => ?_) fun c2 => ?_⟩
  · have e : w = 2 := by have z := V.int.inj (of_decide_eq_true c); omega
    subst e
    refine ⟨sz 2, fun p3 n3 => ⟨sz 2, fun p4 n4 => ⟨_, rfl, sz 4, fun p5 n5 => ?_⟩⟩⟩
    exact q _ _ (by repeat (first | assumption | exact same_new (by assumption) _ | refine Same.trans ?_ (same_new (by assumption) _))) ⟨p5, _, _, _, rfl, (by repeat (first | exact upd_same | assumption | refine same_new (by assumption) _ _ _ ?_)), ⟨_, rfl, (by repeat (first | exact upd_same | assumption | refine same_new (by assumption) _ _ _ ?_))⟩, ⟨_, rfl, (by repeat (first | exact upd_same | assumption | refine same_new (by assumption) _ _ _ ?_))⟩, (by repeat (first | assumption | refine TmAt.mono (.of_same (same_new (by assumption) _)) ?_))⟩
  refine ⟨_, rfl, rfl, _, rfl, ite2 (fun c => ?_) fun c3 => ?_⟩
  · have e : w = 3 := by have z := V.int.inj (of_decide_eq_true c); omega
    subst e
    refine ⟨sz 2, fun p3 n3 => ⟨_, rfl, sz 3, fun p4 n4 => ?_⟩⟩
    exact q _ _ (by repeat (first | assumption | exact same_new (by assumption) _ | refine Same.trans ?_ (same_new (by assumption) _))) ⟨p4, _, _, rfl, (by repeat (first | exact upd_same | assumption | refine same_new (by assumption) _ _ _ ?_)), ⟨_, rfl, (by repeat (first | exact upd_same | assumption | refine same_new (by assumption) _ _ _ ?_))⟩, (by repeat (first | assumption | refine TmAt.mono (.of_same (same_new (by assumption) _)) ?_))⟩
  refine ⟨_, rfl, rfl, _, rfl, ite2 (fun c => ?_) fun c4 => ?_⟩
  · have e : w = 4 := by have z := V.int.inj (of_decide_eq_true c); omega
    subst e
    refine ⟨_, rfl, sz 2, fun p3 n3 => ⟨_, rfl, sz 5, fun p4 n4 => ?_⟩⟩
    exact q _ _ (by repeat (first | assumption | exact same_new (by assumption) _ | refine Same.trans ?_ (same_new (by assumption) _))) ⟨p4, _, _, rfl, (by repeat (first | exact upd_same | assumption | refine same_new (by assumption) _ _ _ ?_)), ⟨_, rfl, (by repeat (first | exact upd_same | assumption | refine same_new (by assumption) _ _ _ ?_))⟩, (by repeat (first | assumption | refine TmAt.mono (.of_same (same_new (by assumption) _)) ?_))⟩
  have e : stepT w x y = .deff y y false (holeT x) (.use y (.num 4)) := by
    match w, c0, c1, c2, c3, c4 with
    | 0, c, _, _, _, _ => exact absurd (decide_eq_true rfl) c
    | 1, _, c, _, _, _ => exact absurd (decide_eq_true rfl) c
    | 2, _, _, c, _, _ => exact absurd (decide_eq_true rfl) c
    | 3, _, _, _, c, _ => exact absurd (decide_eq_true rfl) c
    | 4, _, _, _, _, c => exact absurd (decide_eq_true rfl) c
    | w + 5, _, _, _, _, _ => rfl
  rw [e] at q
  refine ⟨_, rfl, _, rfl, _, rfl, _, rfl, sz 2, fun p3 n3 => ⟨sz 3, fun p4 n4 => ⟨sz 6, fun p5 n5 => ?_⟩⟩⟩
  exact q _ _ (by repeat (first | assumption | exact same_new (by assumption) _ | refine Same.trans ?_ (same_new (by assumption) _))) ⟨p5, _, _, rfl, (by repeat (first | exact upd_same | assumption | refine same_new (by assumption) _ _ _ ?_)), (by repeat (first | assumption | refine TmAt.mono (.of_same (same_new (by assumption) _)) ?_)), ⟨_, _, rfl, (by repeat (first | exact upd_same | assumption | refine same_new (by assumption) _ _ _ ?_)), _, rfl, (by repeat (first | exact upd_same | assumption | refine same_new (by assumption) _ _ _ ?_))⟩⟩
theorem ok_wide {L : Nat} (F : Fun K "_law_wide" "_law_wide" s_wide f fd) (C_law_wide : Cal P w K mg base "_law_wide" ["_law_many"] (1 + L) (spWide L) f fd) : FnOk P w K mg base CX0 (1 + (L + 1)) f fd ["_law_many"] (spWide (L + 1)) := by
  refine F.ok (k := 1 + L) sc_wide (fun vs H Q E h => ?_) (fun cdv A outer s H vs Q E hr h => ?_)
  · obtain ⟨m, rfl, _⟩ := h
    rfl
  obtain ⟨m, rfl, h1, h2, h3, q⟩ := h
  refine ⟨_, (pss_cons (ps_if (pt_cmpR op_eq (pv 0) pe_int (nomark _)) (pss_one (ps_ret (pe_tup (pa_cons pe_str (pa_cons pe_int pa_nil))))) pss_nil)
      (pss_cons (ps_set (i := 1) sc_wide.nd rfl (Or.inl rfl) (pe_op op_fdiv (pv 0) pe_int))
      (pss_one (ps_ret (pe_tup (pa_cons pe_str (pa_cons (pe_call C_law_wide.ok (hr.mono (by first | decide | omega)) rfl C_law_wide.m C_law_wide.kp C_law_wide.b .nil pass0 (pa_cons (pv 1) pa_nil)) (pa_cons (pe_call C_law_wide.ok (hr.mono (by first | decide | omega)) rfl C_law_wide.m C_law_wide.kp C_law_wide.b .nil pass0 (pa_cons (pe_op op_sub (pv 0) (pv 1)) pa_nil)) pa_nil)))))))), ?_⟩
  refine ⟨_, rfl, rfl, _, rfl, ite2 (fun c => ?_) fun c => ?_⟩
  · have e : m = 1 := by have z := V.int.inj (of_decide_eq_true c); omega
    subst e
    exact ⟨sz 2, fun p1 n1 => q (.num 1) _ _ (same_new n1 _) ⟨p1, rfl, upd_same⟩ .one (by show 1 ≤ _; omega)⟩
  · have n1 : m ≠ 1 := fun e => c (by rw [e]; exact decide_eq_true rfl)
    obtain ⟨L', rfl⟩ : ∃ L', L = L' + 1 := by
      cases L with
      | zero => rw [Nat.zero_add, Nat.pow_one] at h2; omega
      | succ L' => exact ⟨L', rfl⟩
    have p2 : 2 ^ (L' + 1 + 1) = 2 * (2 * 2 ^ L') := by rw [Nat.pow_succ, Nat.pow_succ]; omega
    have p1 : 2 ^ (L' + 1) = 2 * 2 ^ L' := by rw [Nat.pow_succ]; omega
    rw [p2] at h2
    refine ⟨_, rfl, _, _, rfl, rfl, ⟨by decide, by decide⟩, ?_⟩
    have ea : (m : Int) / 2 = ((m / 2 : Nat) : Int) := by omega
    have eb : (m : Int) - ((m / 2 : Nat) : Int) = ((m - m / 2 : Nat) : Int) := by omega
    dsimp only
    rw [ea]
    refine ⟨_, rfl, m / 2, rfl, by omega, by rw [p1]; omega, by omega, fun ta ua Ha ga hta wa da => ?_⟩
    refine ⟨_, rfl, _, rfl, _, _, rfl, rfl, ?_⟩
    dsimp only
    rw [eb]
    refine ⟨m - m / 2, rfl, by omega, by rw [p1]; omega, by omega, fun tb ub Hb gb htb wb db => ⟨sz 3, fun p3 n3 => ?_⟩⟩
    have g3 := same_new n3 (.tup [V.str "sum", ua, ub])
    refine q (.bin .sum ta tb) _ _ (ga.trans (gb.trans g3)) ⟨p3, _, _, rfl, upd_same, hta.mono (.of_same (gb.trans g3)), htb.mono (.of_same g3)⟩ ?_ (by simp only [Tm.deep]; omega)
    have z := wa.two wb (by omega)
    rw [show m / 2 + (m - m / 2) = m by omega] at z
    exact z
theorem all_wide (F : Fun K "_law_wide" "_law_wide" s_wide f fd) (m : mg "_law_wide" = some (.ref f)) (kp : PySem.W.keepIn K (.ref f) = true) (b : Binds K fd ["_law_many"] []) : ∀ n, FnOk P w K mg base CX0 (1 + n) f fd ["_law_many"] (spWide n)
  | 0 => fn_none fun vs H Q E h => by
    obtain ⟨m, _, h1, h2, _⟩ := h
    rw [Nat.pow_zero] at h2
    omega
  | n + 1 => ok_wide F ⟨all_wide F m kp b n, m, kp, b⟩
end

/-! ### k11: the great program, the deep one -/
theorem gen_heap {H : Hp} {P G : Hp → Prop} (h : P H) (k : ∀ H, P H → G H) : G H := k H h
def spGreat : Sp := fun vs H Q _ => ∃ (x : Str) (z : Nat), vs = [.str x, .int (z : Int)] ∧ PyData.strOk x = true ∧ 1997 ≤ z ∧ z ≤ 2003 ∧ ∀ (t : Tm) (u : V) (due : Int) (r : Addr) (H' : Hp), Same H H' → H' r = some (.lst [u, .int due]) → TmAt H' t u →
  PrT t (decide (2000 < z)) (fun p => p.size = z ∧ p.deep ≤ 30) due → SzT t 20 1200 100 → In due → Q (.ref r) H'
def spDeep : Sp := fun vs H Q _ => ∃ (x y : Str) (d w : Nat), vs = [.str x, .str y, .int (d : Int), .int (w : Int)] ∧ PyData.strOk x = true ∧ PyData.strOk y = true ∧ x ≠ y ∧ 24 ≤ d ∧ d ≤ 33 ∧ ∀ (t : Tm) (u : V) (r : Addr) (H' : Hp), Same H H' → H' r = some (.lst [u, .int (dueW w (d - 2))]) → TmAt H' t u →
  DeepT w (d - 2) t → SzT t (6 + (d - 2)) (4 + 10 * (d - 2)) (50 * (d - 2)) → Q (.ref r) H'
abbrev s_great : Stmt := topS 84
theorem sc_great : FnScope ["_law_x", "_law_size", "_law_twice", "_law_start", "_law_due", "_law_held", "_law_more"] ["_law_x", "_law_size"] (defScope s_great) := ⟨rfl, rfl, rfl, by decide +kernel, rfl, by decide +kernel, by decide +kernel⟩
abbrev s_deep : Stmt := topS 86
theorem sc_deep : FnScope ["_law_x", "_law_y", "_law_deep_here", "_law_way", "_law_found", "_law_left"] ["_law_x", "_law_y", "_law_deep_here", "_law_way"] (defScope s_deep) := ⟨rfl, rfl, rfl, by decide +kernel, rfl, by decide +kernel, by decide +kernel⟩
section
variable {P : Program} {w : World} {K : PySem.W.Frag} {mg : Str → Option Value} {base : Heap} {f f1 f2 f3 f4 f5 f6 f7 f8 : Addr} {fd fd1 fd2 fd3 fd4 fd5 fd6 fd7 fd8 : FuncData}
theorem ok_great (F : Fun K "_law_great" "_law_great" s_great f fd) (C_law_wide : Cal P w K mg base "_law_wide" ["_law_many"] 11 (spWide 10) f1 fd1) : FnOk P w K mg base CX0 12 f fd ["_law_x", "_law_size"] spGreat := by
  refine F.ok (k := 11) sc_great (fun vs H Q E h => ?_) (fun cdv A outer s H vs Q E hr h => ?_)
  · obtain ⟨x, z, rfl, _⟩ := h
    rfl
  obtain ⟨x, z, rfl, hx, z1, z2, q⟩ := h
  refine ⟨_, (pss_cons (ps_set (i := 2) sc_great.nd rfl (Or.inl rfl) (pe_tup (pa_cons pe_str (pa_cons (pe_tup (pa_cons pe_str (pa_cons (pe_tup (pa_cons pe_str (pa_cons (pe_tup (pa_cons pe_str (pa_cons (pv 0) pa_nil))) pa_nil))) (pa_cons (pe_tup (pa_cons pe_str (pa_cons (pe_tup (pa_cons pe_str (pa_cons (pv 0) pa_nil))) pa_nil))) pa_nil)))) pa_nil))))
      (pss_cons (ps_set (i := 3) sc_great.nd rfl (Or.inl rfl) (pe_tup (pa_cons pe_str (pa_cons pe_int (pa_cons (pv 0) (pa_cons (pe_tup (pa_cons pe_str (pa_cons (pe_tup (pa_cons pe_str (pa_cons pe_int pa_nil))) pa_nil))) (pa_cons (pv 2) pa_nil)))))))
      (pss_cons (ps_set (i := 4) sc_great.nd rfl (Or.inl rfl) pe_int)
      (pss_cons (ps_set (i := 5) sc_great.nd rfl (Or.inl rfl) pe_int)
      (pss_cut (ps_if (pt_cmpR op_eq (pe_op op_mod (pv 1) pe_int) pe_int (nomark _)) (pss_cons (ps_set (i := 3) sc_great.nd rfl (Or.inl rfl) (pe_tup (pa_cons pe_str (pa_cons (pv 0) (pa_cons (pv 3) (pa_cons (pe_tup (pa_cons pe_str (pa_cons (pe_tup (pa_cons pe_str (pa_cons (pe_tup (pa_cons pe_str (pa_cons pe_int pa_nil))) (pa_cons (pe_tup (pa_cons pe_str (pa_cons (pe_tup (pa_cons pe_str (pa_cons (pv 0) pa_nil))) pa_nil))) (pa_cons (pe_tup (pa_cons pe_str (pa_cons pe_int pa_nil))) pa_nil))))) pa_nil))) pa_nil))))))
      (pss_one (ps_set (i := 5) sc_great.nd rfl (Or.inl rfl) pe_int))) pss_nil)
      (pss_cons (ps_set (i := 6) sc_great.nd rfl (Or.inl rfl) (pe_op op_fdiv (pe_op op_sub (pv 1) (pv 5)) pe_int))
      (pss_one (ps_ret (pe_lst (pa_cons (pe_tup (pa_cons pe_str (pa_cons (pv 0) (pa_cons (pv 3) (pa_cons (pe_tup (pa_cons pe_str (pa_cons (pe_tup (pa_cons pe_str (pa_cons (pe_tup (pa_cons pe_str (pa_cons (pe_tup (pa_cons pe_str (pa_cons (pv 0) pa_nil))) pa_nil))) (pa_cons (pe_call C_law_wide.ok (hr.mono (by first | decide | omega)) rfl C_law_wide.m C_law_wide.kp C_law_wide.b .nil pass0 (pa_cons (pv 6) pa_nil)) pa_nil)))) pa_nil))) pa_nil))))) (pa_cons (pe_op op_add (pv 4) (pv 6)) pa_nil))))))))))), ?_⟩
  refine ⟨_, rfl, sz 2, fun p1 n1 => ⟨sz 2, fun p2 n2 => ⟨_, rfl, sz 2, fun p3 n3 => ⟨sz 2, fun p4 n4 => ⟨sz 3, fun p5 n5 => ⟨sz 2, fun p6 n6 => ?_⟩⟩⟩⟩⟩⟩
  refine gen_heap (P := fun H' => TmAt H' (twiceT x) (.ref p6) ∧ Same H H') ?_ ?_
  · exact ⟨⟨p6, _, rfl, (by repeat (first | exact upd_same | assumption | refine same_new (by assumption) _ _ _ ?_)), p5, _, _, rfl, (by repeat (first | exact upd_same | assumption | refine same_new (by assumption) _ _ _ ?_)), ⟨p2, _, rfl, (by repeat (first | exact upd_same | assumption | refine same_new (by assumption) _ _ _ ?_)), _, rfl, (by repeat (first | exact upd_same | assumption | refine same_new (by assumption) _ _ _ ?_))⟩, ⟨p4, _, rfl, (by repeat (first | exact upd_same | assumption | refine same_new (by assumption) _ _ _ ?_)), _, rfl, (by repeat (first | exact upd_same | assumption | refine same_new (by assumption) _ _ _ ?_))⟩⟩, (by repeat (first | assumption | exact same_new (by assumption) _ | refine Same.trans ?_ (same_new (by assumption) _)))⟩
  clear n1 n2 n3 n4 n5 n6
  rintro H1 ⟨hT, g1⟩
  refine ⟨_, rfl, sz 2, fun p7 n7 => ⟨sz 2, fun p8 n8 => ⟨_, rfl, sz 5, fun p9 n9 => ?_⟩⟩⟩
  refine gen_heap (P := fun H' => TmAt H' (startT x) (.ref p9) ∧ Same H H') ?_ ?_
  · exact ⟨⟨p9, _, _, rfl, (by repeat (first | exact upd_same | assumption | refine same_new (by assumption) _ _ _ ?_)), ⟨p8, _, rfl, (by repeat (first | exact upd_same | assumption | refine same_new (by assumption) _ _ _ ?_)), _, rfl, (by repeat (first | exact upd_same | assumption | refine same_new (by assumption) _ _ _ ?_))⟩, (by repeat (first | assumption | refine TmAt.mono (.of_same (same_new (by assumption) _)) ?_))⟩, (by repeat (first | assumption | exact same_new (by assumption) _ | refine Same.trans ?_ (same_new (by assumption) _)))⟩
  clear n7 n8 n9 g1 hT
  rintro H2 ⟨hT, g2⟩
  refine ⟨fun σ H' => ∃ (st : Tm) (u : V) (hd : Nat), σ = [some (.str x), some (.int (z : Int)), some (.ref p6), some u, some (.int 512), some (.int (hd : Int)), none] ∧ Same H H' ∧ TmAt H' st u ∧ PrT st false (fun p => p.size = hd ∧ p.deep ≤ 12) 512 ∧ SzT st 12 100 50 ∧ ((hd = 1023 ∧ z % 2 = 1) ∨ (hd = 1026 ∧ z % 2 = 0)), ?_, ?_⟩
  · have hs := start_pr hx
    refine ⟨_, rfl, _, _, rfl, rfl, (by show (0 : Int) < _; decide), rfl, _, rfl, ite2 (fun c => ?_) fun c => ?_⟩
    · have c1 : (z : Int) % 2 = 0 := V.int.inj (of_decide_eq_true c)
      refine ⟨_, rfl, _, rfl, sz 2, fun p1 n1 => ⟨_, rfl, sz 2, fun p2 n2 => ⟨sz 2, fun p3 n3 => ⟨sz 2, fun p4 n4 => ⟨sz 4, fun p5 n5 => ⟨sz 2, fun p6 n6 => ⟨sz 4, fun p7 n7 => ?_⟩⟩⟩⟩⟩⟩⟩
      refine gen_heap (P := fun H' => TmAt H' (.letx x (startT x) (.un .quote (.cond (.num 1) (holeT x) (.num 2)))) (.ref p7) ∧ Same H H') ?_ ?_
      · exact ⟨⟨p7, _, _, rfl, (by repeat (first | exact upd_same | assumption | refine same_new (by assumption) _ _ _ ?_)), (by repeat (first | assumption | refine TmAt.mono (.of_same (same_new (by assumption) _)) ?_)), p6, _, rfl, (by repeat (first | exact upd_same | assumption | refine same_new (by assumption) _ _ _ ?_)), p5, _, _, _, rfl, (by repeat (first | exact upd_same | assumption | refine same_new (by assumption) _ _ _ ?_)), ⟨_, rfl, (by repeat (first | exact upd_same | assumption | refine same_new (by assumption) _ _ _ ?_))⟩, ⟨_, _, rfl, (by repeat (first | exact upd_same | assumption | refine same_new (by assumption) _ _ _ ?_)), _, rfl, (by repeat (first | exact upd_same | assumption | refine same_new (by assumption) _ _ _ ?_))⟩, ⟨_, rfl, (by repeat (first | exact upd_same | assumption | refine same_new (by assumption) _ _ _ ?_))⟩⟩, (by repeat (first | assumption | exact same_new (by assumption) _ | refine Same.trans ?_ (same_new (by assumption) _)))⟩
      rintro H3 ⟨hT3, g3⟩
      refine ⟨_, _, 1026, rfl, g3, hT3, when_pr hx, ⟨?_, ?_, fun κ => ?_⟩, .inr ⟨rfl, by omega⟩⟩
      · show 1 + max (1 + max (1 + 1) (1 + (1 + max (1 + 1) (1 + 1)))) _ ≤ 12
        simp only [Tm.deep]
        omega
      · simp only [Tm.size]; omega
      · simp [cnt, Hts.set]
    · refine ⟨_, _, 1023, rfl, g2, hT, ⟨hs.kd, hs.ok, hs.none, fun h E n => ?_, hs.vl⟩, ⟨?_, ?_, fun κ => ?_⟩, .inl ⟨rfl, ?_⟩⟩
      · obtain ⟨p, n', a, b, d⟩ := hs.some h E n
        exact ⟨p, n', a, b, by omega⟩
      · simp only [Tm.deep]; omega
      · simp only [Tm.size]; omega
      · simp [cnt, Hts.set]
      · have c1 : ¬ (z : Int) % 2 = 0 := fun e => c (decide_eq_true (congrArg V.int e))
        omega
  rintro _ H3 ⟨st, u, hd, rfl, g3, hT3, hp, hz, hpar⟩
  obtain ⟨m, em⟩ : ∃ m : Nat, m = (z - hd) / 2 := ⟨_, rfl⟩
  have e1 : hd + 2 * m = z := by omega
  have em2 : ((z : Int) - (hd : Int)) / 2 = (m : Int) := by omega
  refine ⟨_, rfl, _, rfl, _, _, rfl, rfl, _, _, rfl, rfl, ⟨by decide, by decide⟩, ?_⟩
  dsimp only
  rw [em2]
  refine ⟨_, rfl, _, rfl, _, rfl, sz 2, fun p1 n1 => ⟨sz 2, fun p2 n2 => ⟨_, rfl, m, rfl, by omega, by omega, by omega, fun wt wu H4 g4 hw4 hw hwd => ⟨sz 3, fun p3 n3 => ⟨sz 2, fun p4 n4 => ⟨sz 4, fun p5 n5 => ?_⟩⟩⟩⟩⟩⟩
  have hT4 : TmAt H4 st u := TmAt.mono (.of_same g4) (by repeat (first | assumption | refine TmAt.mono (.of_same (same_new (by assumption) _)) ?_))
  have gg4 : Same H H4 := Same.trans (by repeat (first | assumption | exact same_new (by assumption) _ | refine Same.trans ?_ (same_new (by assumption) _))) g4
  have hH4 : TmAt H4 (holeT x) (.ref p2) := TmAt.mono (.of_same g4) ⟨_, _, rfl, (by repeat (first | exact upd_same | assumption | refine same_new (by assumption) _ _ _ ?_)), _, rfl, (by repeat (first | exact upd_same | assumption | refine same_new (by assumption) _ _ _ ?_))⟩
  refine gen_heap (P := fun H' => TmAt H' (.letx x st (.un .quote (.bin .sum (holeT x) wt))) (.ref p5) ∧ Same H H') ?_ ?_
  · exact ⟨⟨p5, _, _, rfl, (by repeat (first | exact upd_same | assumption | refine same_new (by assumption) _ _ _ ?_)), (by repeat (first | assumption | refine TmAt.mono (.of_same (same_new (by assumption) _)) ?_)), p4, _, rfl, (by repeat (first | exact upd_same | assumption | refine same_new (by assumption) _ _ _ ?_)), p3, _, _, rfl, (by repeat (first | exact upd_same | assumption | refine same_new (by assumption) _ _ _ ?_)), (by repeat (first | assumption | refine TmAt.mono (.of_same (same_new (by assumption) _)) ?_)), (by repeat (first | assumption | refine TmAt.mono (.of_same (same_new (by assumption) _)) ?_))⟩, (by repeat (first | assumption | exact same_new (by assumption) _ | refine Same.trans ?_ (same_new (by assumption) _)))⟩
  clear n1 n2 n3 n4 n5 g4 hw4 hT4 gg4 hH4
  rintro H5 ⟨hT5, g5⟩
  refine ⟨_, rfl, _, rfl, _, _, rfl, rfl, sz 2, fun r nr => ?_⟩
  have s6 := same_new nr (.lst [V.ref p5, .int (512 + (m : Int))])
  have hpr := great_pr hx hp hw hwd (by omega) (by omega)
  rw [e1] at hpr
  refine q _ _ _ r _ (g5.trans s6) upd_same (hT5.mono (.of_same s6)) hpr ⟨?_, ?_, fun κ => ?_⟩ ⟨by omega, by omega⟩
  · have := hz.deep
    simp only [Tm.deep]
    omega
  · have := hz.size
    have := hw.size
    simp only [Tm.size]
    omega
  · have := hz.cnt κ
    have := hw.cnt (κ.set x 0)
    simp only [cnt]
    omega
theorem ok_deep (F : Fun K "_law_deep" "_law_deep" s_deep f fd) (T : Txt mg) (C_law_step : Cal P w K mg base "_law_step" ["_law_way", "_law_x", "_law_y"] 1 spStep f1 fd1) : FnOk P w K mg base CX0 2 f fd ["_law_x", "_law_y", "_law_deep_here", "_law_way"] spDeep := by
  refine F.ok (k := 1) sc_deep (fun vs H Q E h => ?_) (fun cdv A outer s H vs Q E hr h => ?_)
  · obtain ⟨x, y, d, w, rfl, _⟩ := h
    rfl
  obtain ⟨x, y, d, w, rfl, hx, hy, ne, d1, d2, q⟩ := h
  refine ⟨_, (pss_cons (ps_set (i := 4) sc_deep.nd rfl (Or.inl rfl) (pe_tup (pa_cons pe_str (pa_cons (pe_tup (pa_cons pe_str (pa_cons (pe_tup (pa_cons pe_str (pa_cons pe_int pa_nil))) (pa_cons (pe_tup (pa_cons pe_str (pa_cons pe_int pa_nil))) pa_nil)))) pa_nil))))
      (pss_cons (ps_set (i := 5) sc_deep.nd rfl (Or.inl rfl) (pe_op op_sub (pv 2) pe_int))
      (pss_cons (ps_while PassesOwn.never (pt_cmpR op_gt (pv 5) pe_int (nomark _)) (pss_cons (ps_set (i := 4) sc_deep.nd rfl (Or.inl rfl) (pe_tup (pa_cons pe_str (pa_cons (pe_callB (call_min2 rfl) (by rfl) T.min (by decide +kernel) (pa_cons (pv 5) (pa_cons pe_int pa_nil))) (pa_cons (pv 0) (pa_cons (pv 4) (pa_cons (pe_tup (pa_cons pe_str (pa_cons (pe_call C_law_step.ok (hr.mono (by first | decide | omega)) rfl C_law_step.m C_law_step.kp C_law_step.b .nil pass0 (pa_cons (pv 3) (pa_cons (pv 0) (pa_cons (pv 1) pa_nil)))) pa_nil))) pa_nil)))))))
      (pss_one (ps_set (i := 5) sc_deep.nd rfl (Or.inl rfl) (pe_op op_sub (pv 5) (pe_callB (call_min2 rfl) (by rfl) T.min (by decide +kernel) (pa_cons (pv 5) (pa_cons pe_int pa_nil))))))))
      (pss_one (ps_ret (pe_lst (pa_cons (pv 4) (pa_cons (pe_op op_add pe_int (pe_op op_mul (pe_op op_mul pe_int (pe_op op_sub (pv 2) pe_int)) (pe_callTy call_int1 (by rfl) T.int (by decide +kernel) (pa_cons (pe_cmpR op_eq (pv 3) pe_int (nomark _)) pa_nil)))) pa_nil)))))))), ?_⟩
  refine ⟨sz 2, fun p1 n1 => ⟨sz 2, fun p2 n2 => ⟨sz 3, fun p3 n3 => ⟨sz 2, fun p4 n4 => ?_⟩⟩⟩⟩
  refine gen_heap (P := fun H' => TmAt H' (.un .quote (.bin .sum (.num 1) (.num 0))) (.ref p4) ∧ Same H H') ?_ ?_
  · exact ⟨⟨p4, _, rfl, (by repeat (first | exact upd_same | assumption | refine same_new (by assumption) _ _ _ ?_)), p3, _, _, rfl, (by repeat (first | exact upd_same | assumption | refine same_new (by assumption) _ _ _ ?_)), ⟨_, rfl, (by repeat (first | exact upd_same | assumption | refine same_new (by assumption) _ _ _ ?_))⟩, ⟨_, rfl, (by repeat (first | exact upd_same | assumption | refine same_new (by assumption) _ _ _ ?_))⟩⟩, (by repeat (first | assumption | exact same_new (by assumption) _ | refine Same.trans ?_ (same_new (by assumption) _)))⟩
  clear n1 n2 n3 n4
  rintro H1 ⟨hT, g1⟩
  obtain ⟨D, eD⟩ : ∃ D : Nat, D = d - 2 := ⟨_, rfl⟩
  have eD2 : (d : Int) - 2 = (D : Int) := by omega
  refine ⟨_, rfl, _, _, rfl, rfl, ?_⟩
  dsimp only
  rw [eD2]
  rw [← eD] at q
  refine ⟨fun m σ H' => ∃ (s : Nat) (t : Tm) (u : V), σ = [some (.str x), some (.str y), some (.int (d : Int)), some (.int (w : Int)), some u, some (.int (((D - s : Nat) : Nat) : Int))] ∧ s ≤ D ∧ m = D - s ∧ Same H H' ∧ TmAt H' t u ∧ DeepT w s t ∧ SzT t (6 + s) (4 + 10 * s) (50 * s),
    ⟨D, 0, _, _, rfl, Nat.zero_le _, rfl, g1, hT, deep_start w, by show 1 + (1 + max 1 1) ≤ 6; omega, by show 1 + (1 + (1 + 1)) ≤ 4; omega, fun κ => Nat.zero_le _⟩, ?_⟩
  rintro m σ H2 ⟨s, t, u, rfl, sD, rfl, g2, hT2, hd, hz⟩
  refine ⟨_, rfl, _, _, rfl, rfl, _, rfl, ?_⟩
  refine ite2 (fun c => ?_) fun c => ?_
  · have c1 : (0 : Int) < (((D - s : Nat) : Nat) : Int) := of_decide_eq_true c
    obtain ⟨L, eL⟩ : ∃ L : Nat, L = D - s := ⟨_, rfl⟩
    rw [← eL] at c1 ⊢
    obtain ⟨k, ek⟩ : ∃ k : Nat, k = if 9 < L then 9 else L := ⟨_, rfl⟩
    have hk : (if (9 : Int) < (L : Int) then (9 : Int) else (L : Int)) = (k : Int) := by
      rw [ek]
      by_cases z : 9 < L
      · rw [if_pos (by omega), if_pos z]; rfl
      · rw [if_neg (by omega), if_neg z]
    have k1 : 1 ≤ k ∧ k ≤ 9 ∧ k ≤ L := by rw [ek]; split <;> omega
    refine ⟨_, fun σ' H' z => z, ?_⟩
    refine ⟨_, rfl, _, _, rfl, ?_⟩
    rw [hk]
    refine ⟨_, rfl, _, rfl, _, rfl, _, rfl, _, rfl, w, x, y, rfl, fun u2 H3 g3 hu2 => ⟨sz 2, fun p1 n1 => ⟨sz 5, fun p2 n2 => ?_⟩⟩⟩
    have hT3 := hT2.mono (.of_same g3)
    have g23 := g2.trans g3
    refine gen_heap (P := fun H' => TmAt H' (.turns (k : Int) x t (.un .quote (stepT w x y))) (.ref p2) ∧ Same H H') ?_ ?_
    · exact ⟨⟨p2, _, _, rfl, (by repeat (first | exact upd_same | assumption | refine same_new (by assumption) _ _ _ ?_)), (by repeat (first | assumption | refine TmAt.mono (.of_same (same_new (by assumption) _)) ?_)), p1, _, rfl, (by repeat (first | exact upd_same | assumption | refine same_new (by assumption) _ _ _ ?_)), (by repeat (first | assumption | refine TmAt.mono (.of_same (same_new (by assumption) _)) ?_))⟩, (by repeat (first | assumption | exact same_new (by assumption) _ | refine Same.trans ?_ (same_new (by assumption) _)))⟩
    rintro H4 ⟨hT4, g4⟩
    refine ⟨_, rfl, _, rfl, _, _, rfl, _, _, rfl, rfl, ?_⟩
    dsimp only
    rw [hk]
    refine ⟨D - (s + k), by omega, s + k, _, _, ?_, by omega, rfl, g4, hT4, deep_more hx hy ne hd k1.2.1 (by omega), deep_great hz k1.1 k1.2.1⟩
    have e3 : (L : Int) - (k : Int) = ((D - (s + k) : Nat) : Int) := by omega
    rw [e3]
    rfl
  · have c1 : ¬ (0 : Int) < (((D - s : Nat) : Nat) : Int) := fun z => c (decide_eq_true z)
    have es : s = D := by omega
    subst es
    refine ⟨_, rfl, _, rfl, _, _, rfl, rfl, _, _, rfl, rfl, .inl ⟨by decide, by decide⟩, _, rfl, rfl, .inr ⟨_, rfl, _, _, rfl, rfl, .inr ?_, _, _, rfl, rfl, sz 2, fun r nr => ?_⟩⟩
    · split <;> exact ⟨by decide, by decide⟩
    have e9 : 1 + 2 * ((d : Int) - 2) * (if decide (V.int (w : Int) = V.int 0) = true then 1 else 0) = dueW w s := by
      unfold dueW
      by_cases z : w = 0
      · rw [if_pos z, if_pos (decide_eq_true (by rw [z]; rfl)), eD2]
        omega
      · rw [if_neg z, if_neg (fun e => z (by have y := V.int.inj (of_decide_eq_true e); omega))]
        omega
    dsimp only
    rw [e9]
    have s6 := same_new nr (.lst [u, .int (dueW w s)])
    exact q t u r _ (g2.trans s6) upd_same (hT2.mono (.of_same s6)) hd hz
end

/-! ### isinstance of what was caught; the classes of what is refused -/
def rIsEX (K : PySem.W.Frag) (cls : Value) (d : Option Addr) (a : Addr) : List V → Hp → VK → Prop := fun xs H Q => ∃ (D : Addr) (c : V) (cv : Value) (b : Bool), cls = .ref D ∧ d = none ∧ ExcC K D ∧ xs = [.ref a, c] ∧ (∀ u, RelV c u → u = cv) ∧ PySem.W.kitOne K (.ref D) cv = some b ∧ Q (.bl b) H
theorem call_isEX {X : Cx} {a : Addr} {cls : Value} {d : Option Addr} {oe : Obj} {pn : List (Addr × Obj)} (hz : Zc cls d oe) (hf : ∃ vs, oe.data = .fields vs) : CallR (X.suite a ((a, oe) :: pn)) (.builtin "isinstance") (rIsEX X.K cls d a) := by
  intro pins s σ H xs us Q I r h
  obtain ⟨D, c, cv, b, rfl, rfl, C, h⟩ := h
  exact call_isE C hz hf pins s σ H xs us Q I r ⟨c, cv, b, h⟩
inductive XC where
  | noName | level | kind | great
  deriving DecidableEq
def XA (CN CL CW CG : Addr) : XC → Addr
  | .noName => CN
  | .level => CL
  | .kind => CW
  | .great => CG
structure Fam (K : PySem.W.Frag) (CH : Addr) (A : XC → Addr) : Prop where
  ec : ∀ x, ExcC K (A x)
  one : ∀ x y, PySem.W.kitOne K (.ref (A x)) (.ref (A y)) = some (decide (x = y))
  val : ∀ x, PySem.W.kitOne K (.ref (A x)) (.type "ValueError") = some true
  exm : ∀ x, PySem.W.exmOne K (.ref (A x)) (.ref CH) = some true
  exg : ∀ x y, PySem.W.exmOne K (.ref (A x)) (.ref (A y)) = some (decide (x = y))
theorem kit_own {K : PySem.W.Frag} {D C : Addr} {b : Bool} (hd : PySem.W.hasDictIn K C = true) (ht : PySem.W.typeIn K (.ref C) = some (.type "type")) (hs : PySem.W.subIn K (.ref D) (.ref C) = some b) (hb : D = C → b = true) : PySem.W.kitOne K (.ref D) (.ref C) = some b := by
  obtain ⟨cd, hc, _⟩ := PySem.W.any_some hd
  unfold PySem.W.kitOne
  by_cases e : D = C
  · rw [if_pos (by rw [e]; exact beq_self_eq_true _), hb e]
  · rw [if_neg (fun z => e (Value.ref.inj (beq_iff_eq.mp z)))]
    show (if ((PySem.W.clsIn K C).isSome && PySem.W.typeIn K (.ref C) == some (.type "type")) = true then PySem.W.subIn K (.ref D) (.ref C) else none) = _
    rw [hc, ht]
    exact hs
theorem kit_val {K : PySem.W.Frag} {D : Addr} {b : Bool} (hs : PySem.W.subIn K (.ref D) (.type "ValueError") = some b) : PySem.W.kitOne K (.ref D) (.type "ValueError") = some b := by
  unfold PySem.W.kitOne
  rw [if_neg (fun z => by have := beq_iff_eq.mp z; cases this)]
  show (if PySem.W.kitMeta "ValueError" = true then PySem.W.subIn K (.ref D) (.type "ValueError") else none) = _
  rw [if_pos (by decide +kernel)]
  exact hs

/-! ### k11: what is asked -/
def spRefused : Sp := fun vs H Q _ => ∃ (t : Tm) (v : V) (k : Bool), vs = [v, .int (if k then 1 else 0)] ∧ TmAt H t v ∧ t.Ok ∧ t.deep ≤ 40 ∧ t.size ≤ 900000 ∧ kd t false Env.nil true = .ok k ∧ EndsE ⟨[.tell t .nil], [], 0⟩ none ∧ ∀ H', Same H H' → Q (.bl true) H'
def spWrongKind : Sp := fun vs H Q _ => ∃ (t : Tm) (v : V) (k : Bool), vs = [v, .int (if k then 0 else 1)] ∧ TmAt H t v ∧ t.Ok ∧ t.deep ≤ 40 ∧ t.size ≤ 900000 ∧ kd t false Env.nil true = .ok k ∧ ∀ H', Same H H' → Q (.bl true) H'
def spDone : Sp := fun vs H Q _ => ∃ (t : Tm) (v : V) (k : Bool), vs = [v, .int (if k then 1 else 0)] ∧ TmAt H t v ∧ t.Ok ∧ t.deep ≤ 40 ∧ t.size ≤ 900000 ∧ kd t false Env.nil true = .ok k ∧
  ((k = false ∧ ∃ i n, EndsE ⟨[.tell t .nil], [], 0⟩ (some ([.num i], n)) ∧ ∀ H', Same H H' → Q (.int i) H') ∨ (k = true ∧ ∃ p n, EndsE ⟨[.tell t .nil], [], 0⟩ (some ([.piece p], n)) ∧ ∀ u H', Same H H' → TmAt H' p u → Q u H'))
abbrev s_refused : Stmt := topS 87
theorem sc_refused : FnScope ["_law_program", "_law_way", "e", "_law_other"] ["_law_program", "_law_way"] (defScope s_refused) := ⟨rfl, rfl, rfl, by decide +kernel, rfl, by decide +kernel, by decide +kernel⟩
abbrev s_wrong_kind : Stmt := topS 88
theorem sc_wrong_kind : FnScope ["_law_program", "_law_way", "e"] ["_law_program", "_law_way"] (defScope s_wrong_kind) := ⟨rfl, rfl, rfl, by decide +kernel, rfl, by decide +kernel, by decide +kernel⟩
abbrev s_done : Stmt := topS 89
theorem sc_done : FnScope ["_law_program", "_law_way"] ["_law_program", "_law_way"] (defScope s_done) := ⟨rfl, rfl, rfl, by decide +kernel, rfl, by decide +kernel, by decide +kernel⟩
section
variable {P : Program} {w : World} {K : PySem.W.Frag} {mg : Str → Option Value} {base : Heap} {CH : Addr} {A : XC → Addr} {f f1 f2 f3 f4 f5 f6 f7 f8 : Addr} {fd fd1 fd2 fd3 fd4 fd5 fd6 fd7 fd8 : FuncData}
theorem ok_refused (F : Fun K "_law_refused" "_law_refused" s_refused f fd) (T : Txt mg) (FM : Fam K CH A) (X_HallError : XcT K mg "HallError" CH) (X_NoName : XcT K mg "NoName" (A .noName)) (X_WrongLevel : XcT K mg "WrongLevel" (A .level)) (X_WrongKind : XcT K mg "WrongKind" (A .kind)) (X_TooGreat : XcT K mg "TooGreat" (A .great))
    (C_told : CalX P w K mg base "told" ["term"] 166 (spToldX 40 (A .kind) (A .great)) f1 fd1) (C_made : CalX P w K mg base "made" ["term"] 166 (spMadeX 40 (A .kind) (A .great)) f2 fd2) : FnOk P w K mg base CX0 167 f fd ["_law_program", "_law_way"] spRefused := by
  refine F.ok (k := 166) sc_refused (fun vs H Q E h => ?_) (fun cdv A' outer s H vs Q E hr h => ?_)
  · obtain ⟨t, v, k, rfl, _⟩ := h
    rfl
  obtain ⟨t, v, k, rfl, ht, hok, hd, hz, hk, hen, q⟩ := h
  refine ⟨_, (pss_cons (ps_try_as (i := 2) rfl rfl sc_refused.nd rfl rfl ⟨rfl, by decide, .inl X_HallError.g⟩ takes0 (fun W pn xe tk _ => (pss_one (ps_if (pt_cmpR op_eq (pv 1) pe_int (nomark _)) (pss_one (ps_expr (pe_callS C_told.ok (hr.mono (by first | decide | omega)) rfl C_told.m C_told.kp C_told.b (fun σ => passAt tk σ) (pa_cons (pv 0) pa_nil)))) (pss_one (ps_expr (pe_callS C_made.ok (hr.mono (by first | decide | omega)) rfl C_made.m C_made.kp C_made.b (fun σ => passAt tk σ) (pa_cons (pv 0) pa_nil))))))) (fun a oe cls d pn hz hf => (pss_cons (ps_set (i := 3) sc_refused.nd rfl (Or.inl rfl) (pe_or (pe_callB (call_isEX hz hf) (by rfl) T.isinstance (by decide +kernel) (pa_cons (pv 2) (pa_cons (pe_glob (v := V.ref _) rfl X_NoName.g rfl) pa_nil))) (pe_or (pe_callB (call_isEX hz hf) (by rfl) T.isinstance (by decide +kernel) (pa_cons (pv 2) (pa_cons (pe_glob (v := V.ref _) rfl X_WrongKind.g rfl) pa_nil))) (pe_one (pe_callB (call_isEX hz hf) (by rfl) T.isinstance (by decide +kernel) (pa_cons (pv 2) (pa_cons (pe_glob (v := V.ref _) rfl X_WrongLevel.g rfl) pa_nil)))))))
      (pss_one (ps_ret (pe_and (pe_callB (call_isEX hz hf) (by rfl) T.isinstance (by decide +kernel) (pa_cons (pv 2) (pa_cons (pe_glob (v := V.ref _) rfl X_TooGreat.g rfl) pa_nil))) (pe_and (pe_callB (call_isEX hz hf) (by rfl) T.isinstance (by decide +kernel) (pa_cons (pv 2) (pa_cons (pe_bltn (v := V.ty "ValueError") (u := PySem.Value.type "ValueError") (by rfl) T.ValueError (by decide +kernel) rfl) pa_nil))) (pe_one (pe_not (pv 3))))))))))
      (pss_one (ps_ret pe_bl))), ?_⟩
  cases k with
  | false =>
    refine ⟨_, rfl, rfl, _, rfl, iteT' (decide_eq_true rfl) ?_⟩
    refine ⟨_, rfl, t, v, false, rfl, ht, hok, hd, hz, hk, (fun e => by cases e), fun _ => .inr ⟨hen, fun H1 e1 => ?_⟩⟩
    refine ⟨true, FM.exm .great, fun _ a na => ?_, fun z => by cases z⟩
    refine ⟨_, rfl, A .great, _, _, _, rfl, rfl, FM.ec .great, rfl, (fun u r => r), FM.one .great .noName, _, rfl, iteF ?_⟩
    refine ⟨_, rfl, A .great, _, _, _, rfl, rfl, FM.ec .great, rfl, (fun u r => r), FM.one .great .kind, _, rfl, iteF ?_⟩
    refine ⟨_, rfl, A .great, _, _, _, rfl, rfl, FM.ec .great, rfl, (fun u r => r), FM.one .great .level, ?_⟩
    refine ⟨_, rfl, A .great, _, _, _, rfl, rfl, FM.ec .great, rfl, (fun u r => r), FM.one .great .great, _, rfl, iteT ?_⟩
    refine ⟨_, rfl, A .great, _, _, _, rfl, rfl, FM.ec .great, rfl, (fun u r => r), FM.val .great, _, rfl, iteT ?_⟩
    exact ⟨_, rfl, _, rfl, q H1 e1⟩
  | true =>
    refine ⟨_, rfl, rfl, _, rfl, iteF' (by decide) ?_⟩
    refine ⟨_, rfl, t, v, true, rfl, ht, hok, hd, hz, hk, (fun e => by cases e), fun _ => .inr ⟨hen, fun H1 e1 => ?_⟩⟩
    refine ⟨true, FM.exm .great, fun _ a na => ?_, fun z => by cases z⟩
    refine ⟨_, rfl, A .great, _, _, _, rfl, rfl, FM.ec .great, rfl, (fun u r => r), FM.one .great .noName, _, rfl, iteF ?_⟩
    refine ⟨_, rfl, A .great, _, _, _, rfl, rfl, FM.ec .great, rfl, (fun u r => r), FM.one .great .kind, _, rfl, iteF ?_⟩
    refine ⟨_, rfl, A .great, _, _, _, rfl, rfl, FM.ec .great, rfl, (fun u r => r), FM.one .great .level, ?_⟩
    refine ⟨_, rfl, A .great, _, _, _, rfl, rfl, FM.ec .great, rfl, (fun u r => r), FM.one .great .great, _, rfl, iteT ?_⟩
    refine ⟨_, rfl, A .great, _, _, _, rfl, rfl, FM.ec .great, rfl, (fun u r => r), FM.val .great, _, rfl, iteT ?_⟩
    exact ⟨_, rfl, _, rfl, q H1 e1⟩
theorem ok_wrong_kind (F : Fun K "_law_wrong_kind" "_law_wrong_kind" s_wrong_kind f fd) (T : Txt mg) (FM : Fam K CH A) (X_HallError : XcT K mg "HallError" CH) (X_WrongKind : XcT K mg "WrongKind" (A .kind)) (X_TooGreat : XcT K mg "TooGreat" (A .great))
    (C_told : CalX P w K mg base "told" ["term"] 166 (spToldX 40 (A .kind) (A .great)) f1 fd1) (C_made : CalX P w K mg base "made" ["term"] 166 (spMadeX 40 (A .kind) (A .great)) f2 fd2) : FnOk P w K mg base CX0 167 f fd ["_law_program", "_law_way"] spWrongKind := by
  refine F.ok (k := 166) sc_wrong_kind (fun vs H Q E h => ?_) (fun cdv A' outer s H vs Q E hr h => ?_)
  · obtain ⟨t, v, k, rfl, _⟩ := h
    rfl
  obtain ⟨t, v, k, rfl, ht, hok, hd, hz, hk, q⟩ := h
  refine ⟨_, (pss_cons (ps_try_as (i := 2) rfl rfl sc_wrong_kind.nd rfl rfl ⟨rfl, by decide, .inl X_HallError.g⟩ takes0 (fun W pn xe tk _ => (pss_one (ps_if (pt_cmpR op_eq (pv 1) pe_int (nomark _)) (pss_one (ps_expr (pe_callS C_told.ok (hr.mono (by first | decide | omega)) rfl C_told.m C_told.kp C_told.b (fun σ => passAt tk σ) (pa_cons (pv 0) pa_nil)))) (pss_one (ps_expr (pe_callS C_made.ok (hr.mono (by first | decide | omega)) rfl C_made.m C_made.kp C_made.b (fun σ => passAt tk σ) (pa_cons (pv 0) pa_nil))))))) (fun a oe cls d pn hz hf => (pss_one (ps_ret (pe_and (pe_callB (call_isEX hz hf) (by rfl) T.isinstance (by decide +kernel) (pa_cons (pv 2) (pa_cons (pe_glob (v := V.ref _) rfl X_WrongKind.g rfl) pa_nil))) (pe_one (pe_not (pe_callB (call_isEX hz hf) (by rfl) T.isinstance (by decide +kernel) (pa_cons (pv 2) (pa_cons (pe_glob (v := V.ref _) rfl X_TooGreat.g rfl) pa_nil))))))))))
      (pss_one (ps_ret pe_bl))), ?_⟩
  cases k with
  | true =>
    refine ⟨_, rfl, rfl, _, rfl, iteT' (decide_eq_true rfl) ?_⟩
    refine ⟨_, rfl, t, v, true, rfl, ht, hok, hd, hz, hk, (fun _ H1 e1 => ?_), fun e => by cases e⟩
    refine ⟨true, FM.exm .kind, fun _ a na => ?_, fun z => by cases z⟩
    refine ⟨_, rfl, A .kind, _, _, _, rfl, rfl, FM.ec .kind, rfl, (fun u r => r), FM.one .kind .kind, _, rfl, iteT ?_⟩
    refine ⟨_, rfl, A .kind, _, _, _, rfl, rfl, FM.ec .kind, rfl, (fun u r => r), FM.one .kind .great, _, rfl, ?_⟩
    exact q H1 e1
  | false =>
    refine ⟨_, rfl, rfl, _, rfl, iteF' (by decide) ?_⟩
    refine ⟨_, rfl, t, v, false, rfl, ht, hok, hd, hz, hk, (fun _ H1 e1 => ?_), fun e => by cases e⟩
    refine ⟨true, FM.exm .kind, fun _ a na => ?_, fun z => by cases z⟩
    refine ⟨_, rfl, A .kind, _, _, _, rfl, rfl, FM.ec .kind, rfl, (fun u r => r), FM.one .kind .kind, _, rfl, iteT ?_⟩
    refine ⟨_, rfl, A .kind, _, _, _, rfl, rfl, FM.ec .kind, rfl, (fun u r => r), FM.one .kind .great, _, rfl, ?_⟩
    exact q H1 e1
theorem ok_done (F : Fun K "_law_done" "_law_done" s_done f fd) (T : Txt mg) (FM : Fam K CH A) (X_TooGreat : XcT K mg "TooGreat" (A .great))
    (C_told : CalX P w K mg base "told" ["term"] 166 (spToldX 40 (A .kind) (A .great)) f1 fd1) (C_made : CalX P w K mg base "made" ["term"] 166 (spMadeX 40 (A .kind) (A .great)) f2 fd2) : FnOk P w K mg base CX0 167 f fd ["_law_program", "_law_way"] spDone := by
  refine F.ok (k := 166) sc_done (fun vs H Q E h => ?_) (fun cdv A' outer s H vs Q E hr h => ?_)
  · obtain ⟨t, v, k, rfl, _⟩ := h
    rfl
  obtain ⟨t, v, k, rfl, ht, hok, hd, hz, hk, h⟩ := h
  refine ⟨_, (pss_one (ps_try_only rfl rfl ⟨rfl, by decide, .inl X_TooGreat.g⟩ takes0 (fun W pn xe tk _ => (pss_cons (ps_if (pt_cmpR op_eq (pv 1) pe_int (nomark _)) (pss_one (ps_ret (pe_callS C_told.ok (hr.mono (by first | decide | omega)) rfl C_told.m C_told.kp C_told.b (fun σ => passAt tk σ) (pa_cons (pv 0) pa_nil)))) pss_nil)
      (pss_one (ps_ret (pe_callS C_made.ok (hr.mono (by first | decide | omega)) rfl C_made.m C_made.kp C_made.b (fun σ => passAt tk σ) (pa_cons (pv 0) pa_nil)))))) (fun a oe cls d pn hz hf => (pss_one (ps_ret (pe_tup (pa_cons pe_str (pa_cons pe_int pa_nil)))))))), ?_⟩
  rcases h with ⟨rfl, i, n, hen, q⟩ | ⟨rfl, p, n, hen, q⟩
  · refine ⟨_, rfl, rfl, _, rfl, iteT' (decide_eq_true rfl) ?_⟩
    exact ⟨_, rfl, t, v, false, rfl, ht, hok, hd, hz, hk, (fun e => by cases e), fun _ => .inl ⟨i, n, hen, fun H1 e1 => q H1 e1⟩⟩
  · refine ⟨_, rfl, rfl, _, rfl, iteF' (by decide) ?_⟩
    exact ⟨_, rfl, t, v, true, rfl, ht, hok, hd, hz, hk, (fun e => by cases e), fun _ => .inl ⟨p, n, hen, fun u H1 e1 hu => q u H1 e1 hu⟩⟩
end

/-! ### the telling, of greater programs -/
theorem nb_small {n : Nat} (h : n ≤ 100000) : n < NB := by
  have h1 : 2 ^ 17 < 2 ^ 1900 := Nat.pow_lt_pow_right (by decide) (by decide)
  have h2 : (2 : Nat) ^ 17 = 131072 := by decide
  unfold NB
  generalize 2 ^ 1900 = B at h1 ⊢
  omega
theorem told_mgC {t : Tm} {k fr : Bool} (hk : kd t false Env.nil fr = .ok k) (hc : cnt t (fun _ => 0) < NB) (hz : t.size ≤ 20000) :
    OutX (fun v => VR W0 k v.ev fun _ => vl t noD) (mg t false (fun _ => .bad) 0) [.tell t .nil] [] 0 (hgt t fun _ => 0) (cnt t fun _ => 0) :=
  (mir t (W := W0) (ρ := fun _ => noD) (δ := fun _ => 0) (κ := fun _ => 0) (n := 0) hk (fun x u e => by cases e) fine0 (by rw [Nat.zero_add]; exact hc) (by omega) (fun _ _ => rfl)).1 rfl
theorem hi0C {t : Tm} (hz : t.size ≤ 20000) : Hi [] [] 0 (hgt t fun _ => 0) := by
  have h1 := hgt_hh t (δ := fun _ => 0) (D := 2000) (fun _ => Nat.zero_le _) (Nat.le_refl _)
  have h2 := t.hh_size
  exact ⟨(fun _ z => nomatch z), by show 0 + _ ≤ _; omega, by show 0 + _ ≤ _; omega, Nat.pow_pos (by decide)⟩
theorem told_runC {t : Tm} {k fr : Bool} (hk : kd t false Env.nil fr = .ok k) (hc : cnt t (fun _ => 0) < NB) (hz : t.size ≤ 20000) {v : VV} {n : Nat} (h : mg t false (fun _ => .bad) 0 = some (v, n)) :
    EndsE ⟨[.tell t .nil], [], 0⟩ (some ([v.ev], n)) ∧ VR W0 k v.ev fun _ => vl t noD := by
  have z := told_mgC hk hc hz
  rw [h] at z
  exact ⟨z.2.2.2 [] [] _ (hi0C hz) ⟨0, .done⟩, z.2.2.1⟩
theorem told_boomC {t : Tm} {k fr : Bool} (hk : kd t false Env.nil fr = .ok k) (hc : cnt t (fun _ => 0) < NB) (hz : t.size ≤ 20000) (h : mg t false (fun _ => .bad) 0 = none) : EndsE ⟨[.tell t .nil], [], 0⟩ none := by
  have z := told_mgC hk hc hz
  rw [h] at z
  exact z [] [] (hi0C hz)
/-- what comes of a piece's program: made, run, left alone -/
structure Out3 (x : Str) (t : Tm) (big : Bool) (g : Tm → Prop) (due : Int) : Prop where
  k1 : kd t false Env.nil true = .ok true
  k2 : kd (.un .run t) false Env.nil true = .ok false
  k3 : kd (.letx x t (.num 3)) false Env.nil true = .ok false
  boom : big = true → EndsE ⟨[.tell t .nil], [], 0⟩ none ∧ EndsE ⟨[.tell (.un .run t) .nil], [], 0⟩ none ∧ EndsE ⟨[.tell (.letx x t (.num 3)) .nil], [], 0⟩ none
  made : big = false → ∃ p n n2 n3, EndsE ⟨[.tell t .nil], [], 0⟩ (some ([.piece p], n)) ∧ g p ∧ p.Ok ∧ EndsE ⟨[.tell (.un .run t) .nil], [], 0⟩ (some ([.num due], n2)) ∧ EndsE ⟨[.tell (.letx x t (.num 3)) .nil], [], 0⟩ (some ([.num 3], n3))
theorem out3 {x : Str} {t : Tm} {big : Bool} {g : Tm → Prop} {due : Int} {d z c : Nat} (h : PrT t big g due) (s : SzT t d z c) (hz : z ≤ 10000) (hc : c ≤ 50000) : Out3 x t big g due := by
  have k1 := h.kd Env.nil true
  have k2 : kd (.un .run t) false Env.nil true = .ok false := by simp [kd, k1, Kd.want, Kd.and]
  have k3 : kd (.letx x t (.num 3)) false Env.nil true = .ok false := by simp [kd, k1, Kd.and]
  have c1 : cnt t (fun _ => 0) < NB := nb_small (by have := s.cnt fun _ => 0; omega)
  have c3 : cnt (.letx x t (.num 3)) (fun _ => 0) < NB := nb_small (by have := s.cnt fun _ => 0; simp only [cnt]; omega)
  have z1 := s.size
  have z2 : (Tm.un .run t).size ≤ 20000 := by simp only [Tm.size]; omega
  have z3 : (Tm.letx x t (.num 3)).size ≤ 20000 := by simp only [Tm.size]; omega
  refine ⟨k1, k2, k3, fun hb => ?_, fun hb => ?_⟩
  · have m1 := h.none hb (fun _ => .bad) 0
    exact ⟨told_boomC k1 c1 (by omega) m1, told_boomC k2 c1 z2 (by simp only [mg, m1, bnd]), told_boomC k3 c3 z3 (by simp only [mg, m1, bnd])⟩
  · obtain ⟨p, n, m1, hg⟩ := h.some hb (fun _ => .bad) 0
    have r1 := told_runC k1 c1 (by omega) m1
    have r2 := told_runC k2 c1 z2 (v := .num (vl p noD)) (n := n) (by simp only [mg, m1, bnd]; rfl)
    have r3 := told_runC k3 c3 z3 (v := .num 3) (n := n) (by simp only [mg, m1, bnd]; rfl)
    obtain ⟨i, ei, _, gi⟩ := r2.2.numX
    have ed : vl p noD = due := by
      cases ei
      rw [← h.vl noD]
      exact (gi ()).symm
    rw [ed] at r2
    exact ⟨p, n, n, n, r1.1, hg, mg_ok t (E := fun _ => .bad) (u := .piece p) h.ok (fun _ => True.intro) m1, r2.1, r3.1⟩

/-! ### k11's law -/
def spLaw (K : PySem.W.Frag) : Sp := fun vs H Q _ => ∃ a : Addr, vs = [.ref a] ∧ Ints K H a ∧ ∀ H', Q (.bl true) H'
abbrev s_law : Stmt := topS 90
theorem sc_law : FnScope ["_law_script", "_law_some", "_law_x", "_law_size", "_law_deep_here", "_law_piece", "_law_alone", "_law_found"] ["_law_script"] (defScope s_law) := ⟨rfl, rfl, rfl, by decide +kernel, rfl, by decide +kernel, by decide +kernel⟩
section
variable {P : Program} {w : World} {K : PySem.W.Frag} {mg : Str → Option Value} {base : Heap} {f f1 f2 f3 f4 f5 f6 f7 f8 f9 g1 g2 : Addr} {fd fd1 fd2 fd3 fd4 fd5 fd6 fd7 fd8 fd9 gd1 gd2 : FuncData}
theorem ok_law (F : Fun K "law" "law" s_law f fd) (T : Txt mg) (C_law_mixed : Cal P w K mg base "_law_mixed" ["_law_script", "_law_k"] 2 (spMixN K) f1 fd1) (C_law_drawn : Cal P w K mg base "_law_drawn" ["_law_number_here", "_law_sizes"] 1 (spDrawn K) f2 fd2) (C_law_name : Cal P w K mg base "_law_name" ["_law_script", "_law_which"] 3 (spNameN K) f3 fd3)
    (C_law_great : Cal P w K mg base "_law_great" ["_law_x", "_law_size"] 12 spGreat f4 fd4) (C_law_deep : Cal P w K mg base "_law_deep" ["_law_x", "_law_y", "_law_deep_here", "_law_way"] 2 spDeep f5 fd5) (C_law_refused : Cal P w K mg base "_law_refused" ["_law_program", "_law_way"] 167 spRefused f6 fd6) (C_law_wrong_kind : Cal P w K mg base "_law_wrong_kind" ["_law_program", "_law_way"] 167 spWrongKind f7 fd7)
    (C_law_done : Cal P w K mg base "_law_done" ["_law_program", "_law_way"] 167 spDone f8 fd8) (C_size_of : Cal P w K mg base "size_of" ["term"] 66 spSize f9 fd9) (C_depth_of : Cal P w K mg base "depth_of" ["term"] 66 spDepth g1 gd1) : FnOk P w K mg base CX0 168 f fd ["_law_script"] (spLaw K) := by
  refine F.ok (k := 167) sc_law (fun vs H Q E h => ?_) (fun cdv A outer s H vs Q E hr h => ?_)
  · obtain ⟨a, rfl, _⟩ := h
    rfl
  obtain ⟨a, rfl, hI0, q⟩ := h
  obtain ⟨ns, hI⟩ := hI0.n
  refine ⟨_, (pss_cons (ps_set (i := 1) sc_law.nd rfl (Or.inl rfl) (pe_call C_law_drawn.ok (hr.mono (by first | decide | omega)) rfl C_law_drawn.m C_law_drawn.kp C_law_drawn.b .nil pass0 (pa_cons (pe_call C_law_mixed.ok (hr.mono (by first | decide | omega)) rfl C_law_mixed.m C_law_mixed.kp C_law_mixed.b .nil pass0 (pa_cons (pv 0) (pa_cons pe_int pa_nil))) (pa_cons (pe_lst (pa_cons pe_int (pa_cons pe_int (pa_cons pe_int (pa_cons pe_int pa_nil))))) pa_nil))))
      (pss_cons (ps_set (i := 2) sc_law.nd rfl (Or.inl rfl) (pe_call C_law_name.ok (hr.mono (by first | decide | omega)) rfl C_law_name.m C_law_name.kp C_law_name.b .nil pass0 (pa_cons (pv 0) (pa_cons pe_int pa_nil))))
      (pss_cons (ps_set (i := 3) sc_law.nd rfl (Or.inl rfl) (pe_op op_add pe_int (pe_ix ix_list (pv 1) pe_int (fun _ _ => rfl))))
      (pss_cons (ps_set (i := 4) sc_law.nd rfl (Or.inl rfl) (pe_op op_add pe_int (pe_ix ix_list (pv 1) pe_int (fun _ _ => rfl))))
      (pss_cons (ps_set (i := 5) sc_law.nd rfl (Or.inl rfl) (pe_ix ix_list (pe_lst (pa_cons (pe_call C_law_great.ok (hr.mono (by first | decide | omega)) rfl C_law_great.m C_law_great.kp C_law_great.b .nil pass0 (pa_cons (pv 2) (pa_cons (pv 3) pa_nil))) (pa_cons (pe_call C_law_deep.ok (hr.mono (by first | decide | omega)) rfl C_law_deep.m C_law_deep.kp C_law_deep.b .nil pass0 (pa_cons (pv 2) (pa_cons (pe_call C_law_name.ok (hr.mono (by first | decide | omega)) rfl C_law_name.m C_law_name.kp C_law_name.b .nil pass0 (pa_cons (pv 0) (pa_cons pe_int pa_nil))) (pa_cons (pv 4) (pa_cons (pe_ix ix_list (pv 1) pe_int (fun _ _ => rfl)) pa_nil))))) pa_nil))) (pe_ix ix_list (pv 1) pe_int (fun _ _ => rfl)) (fun _ _ => rfl)))
      (pss_cons (ps_set (i := 6) sc_law.nd rfl (Or.inl rfl) (pe_tup (pa_cons pe_str (pa_cons (pv 2) (pa_cons (pe_ix ix_list (pv 5) pe_int (fun _ _ => rfl)) (pa_cons (pe_tup (pa_cons pe_str (pa_cons pe_int pa_nil))) pa_nil))))))
      (pss_cons (ps_if (pt_truth (pe_ix ix_list (pe_lst (pa_cons (pe_cmpR op_gt (pv 3) pe_int (nomark _)) (pa_cons (pe_cmpR op_gt (pv 4) pe_int (nomark _)) pa_nil))) (pe_ix ix_list (pv 1) pe_int (fun _ _ => rfl)) (fun _ _ => rfl)) (by intro _; rfl)) (pss_cons (ps_if (pt_k (PW.pt (pw_or (pt_not (pt_truth (pe_call C_law_refused.ok (hr.mono (by first | decide | omega)) rfl C_law_refused.m C_law_refused.kp C_law_refused.b .nil pass0 (pa_cons (pe_ix ix_list (pv 5) pe_int (fun _ _ => rfl)) (pa_cons pe_int pa_nil))) (by intro _; rfl))) (pw_or1 (pt_not (pt_truth (pe_call C_law_refused.ok (hr.mono (by first | decide | omega)) rfl C_law_refused.m C_law_refused.kp C_law_refused.b .nil pass0 (pa_cons (pe_tup (pa_cons pe_str (pa_cons (pe_ix ix_list (pv 5) pe_int (fun _ _ => rfl)) pa_nil))) (pa_cons pe_int pa_nil))) (by intro _; rfl))))))) (pss_one (ps_ret pe_bl)) pss_nil)
      (pss_cons (ps_if (pt_k (PW.pt (pw_or (pt_not (pt_truth (pe_call C_law_wrong_kind.ok (hr.mono (by first | decide | omega)) rfl C_law_wrong_kind.m C_law_wrong_kind.kp C_law_wrong_kind.b .nil pass0 (pa_cons (pe_ix ix_list (pv 5) pe_int (fun _ _ => rfl)) (pa_cons pe_int pa_nil))) (by intro _; rfl))) (pw_or1 (pt_not (pt_truth (pe_call C_law_wrong_kind.ok (hr.mono (by first | decide | omega)) rfl C_law_wrong_kind.m C_law_wrong_kind.kp C_law_wrong_kind.b .nil pass0 (pa_cons (pe_tup (pa_cons pe_str (pa_cons (pe_ix ix_list (pv 5) pe_int (fun _ _ => rfl)) pa_nil))) (pa_cons pe_int pa_nil))) (by intro _; rfl))))))) (pss_one (ps_ret pe_bl)) pss_nil)
      (pss_one (ps_ret (pe_call C_law_refused.ok (hr.mono (by first | decide | omega)) rfl C_law_refused.m C_law_refused.kp C_law_refused.b .nil pass0 (pa_cons (pv 6) (pa_cons pe_int pa_nil))))))) pss_nil)
      (pss_cons (ps_set (i := 7) sc_law.nd rfl (Or.inl rfl) (pe_call C_law_done.ok (hr.mono (by first | decide | omega)) rfl C_law_done.m C_law_done.kp C_law_done.b .nil pass0 (pa_cons (pe_ix ix_list (pv 5) pe_int (fun _ _ => rfl)) (pa_cons pe_int pa_nil))))
      (pss_cons (ps_if (pt_truth (pe_ix ix_list (pe_lst (pa_cons (pe_cmpR op_ne (pe_call C_size_of.ok (hr.mono (by first | decide | omega)) rfl C_size_of.m C_size_of.kp C_size_of.b .nil pass0 (pa_cons (pv 7) pa_nil)) (pv 3) (nomark _)) (pa_cons (pe_cmpR op_ne (pe_call C_depth_of.ok (hr.mono (by first | decide | omega)) rfl C_depth_of.m C_depth_of.kp C_depth_of.b .nil pass0 (pa_cons (pv 7) pa_nil)) (pv 4) (nomark _)) pa_nil))) (pe_ix ix_list (pv 1) pe_int (fun _ _ => rfl)) (fun _ _ => rfl)) (by intro _; rfl)) (pss_one (ps_ret pe_bl)) pss_nil)
      (pss_one (ps_ret (pe_and (pe_cmpR op_eq (pe_call C_law_done.ok (hr.mono (by first | decide | omega)) rfl C_law_done.m C_law_done.kp C_law_done.b .nil pass0 (pa_cons (pe_tup (pa_cons pe_str (pa_cons (pe_ix ix_list (pv 5) pe_int (fun _ _ => rfl)) pa_nil))) (pa_cons pe_int pa_nil))) (pe_ix ix_list (pv 5) pe_int (fun _ _ => rfl)) (nomark _)) (pe_one (pe_cmpR op_eq (pe_call C_law_done.ok (hr.mono (by first | decide | omega)) rfl C_law_done.m C_law_done.kp C_law_done.b .nil pass0 (pa_cons (pv 6) (pa_cons pe_int pa_nil))) pe_int (nomark _))))))))))))))), ?_⟩
  refine ⟨_, rfl, a, 1, ns, rfl, hI, by decide, ⟨sz 4, fun dl ndl => ?_⟩⟩
  have e1 := same_new ndl (.lst [V.int 2, .int 7, .int 10, .int 6])
  refine ⟨_, dl, [2, 7, 10, 6], rfl, SqL.of upd_same, by decide, by decide, fun xs r H1 hdr _ e2 hr1 => ?_⟩
  have s1 := e1.trans e2
  have hI1 := hI.same s1
  obtain ⟨y0, y1, y2, y3, rfl⟩ : ∃ y0 y1 y2 y3, xs = [y0, y1, y2, y3] := by
    have := hdr.len
    match xs, this with
    | [y0, y1, y2, y3], _ => exact ⟨_, _, _, _, rfl⟩
  obtain ⟨⟨h00, h01⟩, ⟨h10, h11⟩, ⟨h20, h21⟩, ⟨h30, h31⟩, _⟩ := hdr
  obtain ⟨n0, rfl⟩ : ∃ n : Nat, y0 = (n : Int) := ⟨y0.toNat, by omega⟩
  obtain ⟨n1, rfl⟩ : ∃ n : Nat, y1 = (n : Int) := ⟨y1.toNat, by omega⟩
  obtain ⟨n2, rfl⟩ : ∃ n : Nat, y2 = (n : Int) := ⟨y2.toNat, by omega⟩
  obtain ⟨n3, rfl⟩ : ∃ n : Nat, y3 = (n : Int) := ⟨y3.toNat, by omega⟩
  refine ⟨_, rfl, a, 0, ns, rfl, hI1, fun H2 e2 => ?_⟩
  have hr2 := e2 _ _ hr1
  have s2 := s1.trans e2
  obtain ⟨x, ex⟩ : ∃ x, x = nameF (mixF ns 0) 0 := ⟨_, rfl⟩
  obtain ⟨y, ey⟩ : ∃ y, y = nameF (mixF ns 0) 1 := ⟨_, rfl⟩
  have hx : PyData.strOk x = true := by rw [ex]; exact nameF_ok _ _
  have hy : PyData.strOk y = true := by rw [ey]; exact nameF_ok _ _
  have nxy : x ≠ y := by rw [ex, ey]; exact nameF_ne _
  rw [← ex]
  refine ⟨_, rfl, r, _, _, _, rfl, rfl, SqL.of hr2, atI_n (n := 1) rfl rfl, _, _, rfl, rfl, ?_⟩
  refine ⟨_, rfl, r, _, _, _, rfl, rfl, SqL.of hr2, atI_n (n := 2) rfl rfl, _, _, rfl, rfl, ?_⟩
  obtain ⟨z, ez⟩ : ∃ z : Nat, z = 1997 + n1 := ⟨_, rfl⟩
  obtain ⟨d, ed⟩ : ∃ d : Nat, d = 24 + n2 := ⟨_, rfl⟩
  have ez2 : (1997 : Int) + (n1 : Int) = (z : Int) := by omega
  have ed2 : (24 : Int) + (n2 : Int) = (d : Int) := by omega
  dsimp only
  rw [ez2, ed2]
  have hI2 := hI.same s2
  refine ⟨_, rfl, _, rfl, x, z, rfl, hx, by omega, by omega, fun t1 u1 due1 r1 H3 e3 hq1 ht1 pr1 sz1 in1 => ?_⟩
  have s3 := s2.trans e3
  refine ⟨_, rfl, _, rfl, a, 1, ns, rfl, hI.same s3, fun H4 e4 => ?_⟩
  rw [← ey]
  have s4 := s3.trans e4
  have hr4 := e4 _ _ (e3 _ _ hr2)
  refine ⟨_, rfl, _, rfl, r, _, _, _, rfl, rfl, SqL.of hr4, atI_n (n := 3) rfl rfl, x, y, d, n3, rfl, hx, hy, nxy, by omega, by omega, fun t2 u2 r2 H5 e5 hq2 ht2 pr2 sz2 => ⟨sz 2, fun L nL => ?_⟩⟩
  have e6 := same_new nL (.lst [V.ref r1, .ref r2])
  have hL : upd H5 L (.lst [V.ref r1, .ref r2]) L = some (.lst [V.ref r1, .ref r2]) := upd_same
  have s6 := (s4.trans e5).trans e6
  have hr6 := e6 _ _ (e5 _ _ hr4)
  have hsel : ∃ (t : Tm) (u : V) (due : Int) (big : Bool) (g : Tm → Prop) (rr : Addr) (dd zz cc : Nat), atI [V.ref r1, .ref r2] (n0 : Int) = some (.ref rr) ∧ upd H5 L (.lst [V.ref r1, .ref r2]) rr = some (.lst [u, .int due]) ∧ TmAt (upd H5 L (.lst [V.ref r1, .ref r2])) t u ∧ PrT t big g due ∧ SzT t dd zz cc ∧ dd ≤ 38 ∧ zz ≤ 10000 ∧ cc ≤ 50000 ∧
      atI [V.bl (decide ((2000 : Int) < (z : Int))), .bl (decide ((30 : Int) < (d : Int)))] (n0 : Int) = some (.bl big) ∧ (big = false → ∀ p, g p → p.deep ≤ 30 ∧ p.size ≤ 2000 ∧ (n0 = 0 → p.size = z) ∧ (n0 = 1 → p.deep = d)) := by
    have hc : n0 = 0 ∨ n0 = 1 := by omega
    rcases hc with e | e
    · refine ⟨t1, u1, due1, _, _, r1, 20, 1200, 100, atI_n (n := 0) (by omega) rfl, e6 _ _ (e5 _ _ (e4 _ _ hq1)), ht1.mono (.of_same ((e4.trans e5).trans e6)), pr1, sz1, by omega, by omega, by omega, atI_n (n := 0) (by omega) ?_, fun hb p hp => ⟨hp.2, ?_, fun _ => hp.1, fun z => by omega⟩⟩
      · show some (V.bl (decide ((2000 : Int) < (z : Int)))) = some (V.bl (decide (2000 < z)))
        have : decide ((2000 : Int) < (z : Int)) = decide (2000 < z) := by rw [decide_eq_decide]; omega
        rw [this]
      · have := of_decide_eq_false hb
        have := hp.1
        omega
    · refine ⟨t2, u2, dueW n3 (d - 2), _, _, r2, _, _, _, atI_n (n := 1) (by omega) rfl, e6 _ _ hq2, ht2.mono (.of_same e6), pr2, sz2, by omega, by omega, by omega, atI_n (n := 1) (by omega) ?_, fun hb p hp => ⟨?_, ?_, fun z => by omega, fun _ => ?_⟩⟩
      · show some (V.bl (decide ((30 : Int) < (d : Int)))) = some (V.bl (decide (30 < 2 + (d - 2))))
        have : decide ((30 : Int) < (d : Int)) = decide (30 < 2 + (d - 2)) := by rw [decide_eq_decide]; omega
        rw [this]
      · have := of_decide_eq_false hb
        have := hp.1
        omega
      · have := hp.2
        omega
      · have := hp.1
        omega
  obtain ⟨t, u, due, big, g, rr, dd, zz, cc, hat, hrr, htt, pr, szt, k1, k2, k3, hbig, hg⟩ := hsel
  refine ⟨_, rfl, r, _, _, _, rfl, rfl, SqL.of hr6, atI_n (n := 0) rfl rfl, L, _, _, _, rfl, rfl, SqL.of hL, hat, ?_⟩
  generalize upd H5 L (.lst [V.ref r1, .ref r2]) = H6 at s6 hr6 hrr htt ⊢
  clear hq1 ht1 pr1 sz1 hq2 ht2 pr2 sz2 hL e6 nL e5 e4 e3
  have o3 := out3 (x := x) pr szt (by omega) (by omega)
  have hok := pr.ok
  have hdp := szt.deep
  have hzp := szt.size
  clear pr szt
  refine ⟨_, rfl, _, rfl, rr, _, _, _, rfl, rfl, SqL.of hrr, atI_n (n := 0) rfl rfl, sz 2, fun p1 m1 => ⟨sz 4, fun p2 m2 => ?_⟩⟩
  refine gen_heap (P := fun H' => TmAt H' (.letx x t (.num 3)) (.ref p2) ∧ Same H H' ∧ Same H6 H') ?_ ?_
  · exact ⟨⟨p2, _, _, rfl, (by repeat (first | exact upd_same | assumption | refine same_new (by assumption) _ _ _ ?_)), (by repeat (first | assumption | refine TmAt.mono (.of_same (same_new (by assumption) _)) ?_)), _, rfl, (by repeat (first | exact upd_same | assumption | refine same_new (by assumption) _ _ _ ?_))⟩, (by repeat (first | assumption | exact same_new (by assumption) _ | refine Same.trans ?_ (same_new (by assumption) _))), (by repeat (first | assumption | exact same_new (by assumption) _ | refine Same.trans ?_ (same_new (by assumption) _)))⟩
  clear m1 m2
  rintro H7 ⟨hT3, s7, g7⟩
  have hr7 := g7 _ _ hr6
  have hrr7 := g7 _ _ hrr
  have ht7 := htt.mono (.of_same g7)
  refine ⟨_, rfl, _, _, rfl, rfl, _, rfl, _, _, rfl, rfl, sz 2, fun L2 nL2 => ?_⟩
  have g8 := same_new nL2 (.lst [V.bl (decide ((2000 : Int) < (z : Int))), .bl (decide ((30 : Int) < (d : Int)))])
  have hL2 : upd H7 L2 (.lst [V.bl (decide ((2000 : Int) < (z : Int))), .bl (decide ((30 : Int) < (d : Int)))]) L2 = some (.lst [V.bl (decide ((2000 : Int) < (z : Int))), .bl (decide ((30 : Int) < (d : Int)))]) := upd_same
  generalize upd H7 L2 (.lst [V.bl (decide ((2000 : Int) < (z : Int))), .bl (decide ((30 : Int) < (d : Int)))]) = H8 at g8 hL2 ⊢
  have s8 := s7.trans g8
  have hr8 := g8 _ _ hr7
  have hrr8 := g8 _ _ hrr7
  have ht8 := ht7.mono (.of_same g8)
  have hT8 := hT3.mono (.of_same g8)
  refine ⟨_, rfl, r, _, _, _, rfl, rfl, SqL.of hr8, atI_n (n := 0) rfl rfl, L2, _, _, _, rfl, rfl, SqL.of hL2, hbig, big, ?_⟩
  refine ⟨rfl, ?_⟩
  have ask1 : ∀ {H' : Hp}, Same H8 H' → TmAt H' t u := fun e => ht8.mono (.of_same e)
  have it8 : ∀ {H' : Hp}, Same H8 H' → H' rr = some (.lst [u, .int due]) := fun e => e _ _ hrr8
  cases big with
  | true =>
    obtain ⟨b1, b2, b3⟩ := o3.boom rfl
    refine iteT ?_
    have runAt : ∀ {G : Hp} {p : Addr}, Same H8 G → G p = none → TmAt (upd G p (.tup [V.str "run", u])) (.un .run t) (.ref p) ∧ Same H8 (upd G p (.tup [V.str "run", u])) := fun {G p} e n => ⟨⟨p, _, rfl, upd_same, (ask1 e).mono (.of_same (same_new n _))⟩, e.trans (same_new n _)⟩
    have rd : (Tm.un .run t).deep ≤ 40 := by simp only [Tm.deep]; omega
    have rz : (Tm.un .run t).size ≤ 900000 := by simp only [Tm.size]; omega
    refine ⟨fun b H' => b = false ∧ Same H8 H', ?_, ?_⟩
    · refine ⟨_, rfl, rr, _, _, _, rfl, rfl, SqL.of hrr8, atI_n (n := 0) rfl rfl, t, u, true, rfl, ht8, hok, by omega, by omega, o3.k1, b1, fun G1 q1 => ⟨true, rfl, ?_⟩⟩
      refine iteF ?_
      refine ⟨_, rfl, rr, _, _, _, rfl, rfl, SqL.of (it8 q1), atI_n (n := 0) rfl rfl, sz 2, fun p3 m3 => ⟨_, _, false, rfl, (runAt q1 m3).1, hok, rd, rz, o3.k2, b2, fun G2 q2 => ⟨true, rfl, rfl, (runAt q1 m3).2.trans q2⟩⟩⟩
    rintro _ G ⟨rfl, gG⟩
    refine iteF ?_
    refine ⟨fun b H' => b = false ∧ Same H8 H', ?_, ?_⟩
    · refine ⟨_, rfl, rr, _, _, _, rfl, rfl, SqL.of (it8 gG), atI_n (n := 0) rfl rfl, t, u, true, rfl, ask1 gG, hok, by omega, by omega, o3.k1, fun G1 q1 => ⟨true, rfl, ?_⟩⟩
      refine iteF ?_
      refine ⟨_, rfl, rr, _, _, _, rfl, rfl, SqL.of (it8 (gG.trans q1)), atI_n (n := 0) rfl rfl, sz 2, fun p3 m3 => ⟨_, _, false, rfl, (runAt (gG.trans q1) m3).1, hok, rd, rz, o3.k2, fun G2 q2 => ⟨true, rfl, rfl, (runAt (gG.trans q1) m3).2.trans q2⟩⟩⟩
    rintro _ G1 ⟨rfl, gG1⟩
    refine iteF ?_
    refine ⟨_, rfl, _, _, false, rfl, hT8.mono (.of_same gG1), ⟨hx, hok, True.intro⟩, by simp only [Tm.deep]; omega, by simp only [Tm.size]; omega, o3.k3, b3, fun G2 q2 => q _⟩
  | false =>
    obtain ⟨p, n, n2, n3, b1, hgp, pok, b2, b3⟩ := o3.made rfl
    obtain ⟨pd, pz, hs, hd⟩ := hg rfl p hgp
    have runAt : ∀ {G : Hp} {p : Addr}, Same H8 G → G p = none → TmAt (upd G p (.tup [V.str "run", u])) (.un .run t) (.ref p) ∧ Same H8 (upd G p (.tup [V.str "run", u])) := fun {G p} e n => ⟨⟨p, _, rfl, upd_same, (ask1 e).mono (.of_same (same_new n _))⟩, e.trans (same_new n _)⟩
    have rd : (Tm.un .run t).deep ≤ 40 := by simp only [Tm.deep]; omega
    have rz : (Tm.un .run t).size ≤ 900000 := by simp only [Tm.size]; omega
    refine iteF ?_
    refine ⟨_, rfl, rr, _, _, _, rfl, rfl, SqL.of hrr8, atI_n (n := 0) rfl rfl, t, u, true, rfl, ht8, hok, by omega, by omega, o3.k1, .inr ⟨rfl, p, n, b1, fun up G q1 hp => ?_⟩⟩
    refine ⟨_, rfl, p, up, rfl, hp, pok, by omega, by omega, fun G1 q2 => ⟨_, rfl, rfl, ?_⟩⟩
    refine ⟨_, rfl, p, up, rfl, hp.mono (.of_same q2), pok, by omega, by omega, fun G2 q3 => ⟨_, rfl, rfl, sz 2, fun L3 m3 => ?_⟩⟩
    have q4 := same_new m3 (.lst [V.bl (!decide (V.int (p.size : Int) = V.int (z : Int))), .bl (!decide (V.int (p.deep : Int) = V.int (d : Int)))])
    have hL3 : upd G2 L3 (.lst [V.bl (!decide (V.int (p.size : Int) = V.int (z : Int))), .bl (!decide (V.int (p.deep : Int) = V.int (d : Int)))]) L3 = some (.lst [V.bl (!decide (V.int (p.size : Int) = V.int (z : Int))), .bl (!decide (V.int (p.deep : Int) = V.int (d : Int)))]) := upd_same
    have gG := (q1.trans q2).trans (q3.trans q4)
    generalize upd G2 L3 (.lst [V.bl (!decide (V.int (p.size : Int) = V.int (z : Int))), .bl (!decide (V.int (p.deep : Int) = V.int (d : Int)))]) = G3 at q4 hL3 gG ⊢
    have hat3 : atI [V.bl (!decide (V.int (p.size : Int) = V.int (z : Int))), .bl (!decide (V.int (p.deep : Int) = V.int (d : Int)))] (n0 : Int) = some (.bl false) := by
      have hc : n0 = 0 ∨ n0 = 1 := by omega
      rcases hc with e | e
      · refine atI_n (n := 0) (by omega) ?_
        rw [hs e]
        show some (V.bl (!decide (V.int (z : Int) = V.int (z : Int)))) = _
        rw [decide_eq_true rfl]
        rfl
      · refine atI_n (n := 1) (by omega) ?_
        rw [hd e]
        show some (V.bl (!decide (V.int (d : Int) = V.int (d : Int)))) = _
        rw [decide_eq_true rfl]
        rfl
    refine ⟨_, rfl, r, _, _, _, rfl, rfl, SqL.of (gG _ _ hr8), atI_n (n := 0) rfl rfl, L3, _, _, _, rfl, rfl, SqL.of hL3, hat3, false, rfl, iteF ?_⟩
    refine ⟨_, rfl, rr, _, _, _, rfl, rfl, SqL.of (it8 gG), atI_n (n := 0) rfl rfl, sz 2, fun p3 m4 => ⟨_, _, false, rfl, (runAt gG m4).1, hok, rd, rz, o3.k2, .inl ⟨rfl, due, n2, b2, fun G4 q5 => ?_⟩⟩⟩
    have gG4 := (runAt gG m4).2.trans q5
    refine ⟨_, rfl, rr, _, _, _, rfl, rfl, SqL.of (it8 gG4), atI_n (n := 1) rfl rfl, rfl, _, rfl, iteT' (decide_eq_true rfl) ?_⟩
    refine ⟨_, rfl, _, _, false, rfl, hT8.mono (.of_same gG4), ⟨hx, hok, True.intro⟩, by simp only [Tm.deep]; omega, by simp only [Tm.size]; omega, o3.k3, .inl ⟨rfl, 3, n3, b3, fun G5 q6 => ⟨rfl, ?_⟩⟩⟩
    rw [decide_eq_true rfl]
    exact q _
end

/-! ### kinds, to any depth -/
theorem all_kind {P : Program} {w : World} {K : PySem.W.Frag} {mg : Str → Option Value} {base : Heap} {CK CA f : Addr} {fd : FuncData} (F : Fun K "kind_at" "Kinds.kind_at" s_Kinds_kind_at f fd)
    (step : ∀ n, FnOk P w K mg base CX0 (4 * n + 2) f fd ["self", "place", "around"] (spKind P w CK CA n) → FnOk P w K mg base CX0 (4 * n + 6) f fd ["self", "place", "around"] (spKind P w CK CA (n + 1))) : ∀ n, FnOk P w K mg base CX0 (4 * n + 2) f fd ["self", "place", "around"] (spKind P w CK CA n)
  | 0 => fn_none fun vs H Q E h => by
      obtain ⟨kb, R, S, D, r, ts, c, p, t, l, b, k, E, e, _, _, _, _, _, h0, _⟩ := h
      cases t <;> simp only [Tm.deep] at h0 <;> omega
  | n + 1 => step n (all_kind F step n)

/-! ### the program's top: what stands where -/
theorem Tm.deep_pos (t : Tm) : 1 ≤ t.deep := by
  cases t <;> simp only [Tm.deep] <;> omega
section
variable {P : Program} {w : World} {K : PySem.W.Frag} {mg : Str → Option Value} {base : Heap} {pa C f f1 f2 f3 f4 f5 f6 f7 f8 : Addr} {fd fd1 fd2 fd3 fd4 fd5 fd6 fd7 fd8 : FuncData}
theorem all_place (F : Fun K "place_of" "TermTable.place_of" s_TermTable_place_of f fd) (T : Txt mg) (TC : TxtC K C)
    (C_ends_of : Cal P w K mg base "ends_of" ["term"] 3 spEnds f1 fd1) (C_head_of : Cal P w K mg base "head_of" ["term"] 1 spHead f2 fd2) (C_parts_of : Cal P w K mg base "parts_of" ["term"] 1 spPartsOf f3 fd3)
    (m : Meth K C "place_of" f) (b : Binds K fd ["self", "term"] []) : ∀ n, FnOk P w K mg base CX0 (4 + n) f fd ["self", "term"] (spPlace P w C n)
  | 0 => fn_none fun vs H Q E h => by
    obtain ⟨tb, R, D, ts, Ls, Ps, cnt, t, v, _, _, _, _, h0, _⟩ := h
    have := t.deep_pos
    omega
  | n + 1 => ok_place F T TC C_ends_of C_head_of C_parts_of ⟨all_place F T TC C_ends_of C_head_of C_parts_of m b n, m, b⟩
end
-- need_fam
set_option maxHeartbeats 0 in
theorem all_mk {l : PySem.W.OpenLaw} {w : World} {K : PySem.W.Frag} {h : Heap} {mg : Str → Option Value} {fa : Addr} (X : K.In h) (G : h.Ns mainGlobals mg) (hfa : mg "law" = some (.ref fa))
    {C_HallError C_NoName C_WrongLevel C_WrongKind C_TooGreat C_TermTable C_Around C_Kinds C_Piece C_Telling f_size_of f_depth_of f_loose_in_rows f_loose_names f_bound_in_parts f_head_of f_parts_of f_rows_of f_TermTable_init f_TermTable_place_of f_ends_of f_edge_of f_kind_of f_Around_init f_Around_within_quote f_Around_within_hole f_Around_with_value f_Around_with_function f_Around_within_function f_Around_meaning_of f_Kinds_init f_Kinds_kind_at f_Kinds_looked_at f_Kinds_want f_look_at_num f_look_at_name f_look_at_numbers f_look_at_when f_look_at_let f_look_at_turns f_look_at_def f_look_at_use f_look_at_quote f_look_at_hole f_look_at_lift f_look_at_run f_told f_made f_refuse_unless f_Piece_init f_Telling_init f_Telling_value_of f_Telling_later f_Telling_tell f_Telling_make f_Telling_make_of f_Telling_new_name f_tell_num f_tell_name f_tell_two f_reckon f_tell_when f_choose f_tell_let f_go_on_with_b f_tell_turns f_turn f_tell_def f_tell_use f_go_on_with_function f_tell_quote f_refuse_too_great f_tell_lift f_make_num f_tell_run f_go_on_with_piece f_make_same f_make_name f_make_plain f_make_let f_make_turns f_make_def f_make_use f_fill_hole f_put_together f_law_cell_at f_law_mixed f_law_drawn f_law_name f_law_wide f_law_great f_law_step f_law_deep f_law_refused f_law_wrong_kind f_law_done f_law D_PARTS_AT D_LEVEL_OF D_LOOKS D_TELLERS D_MAKERS : Addr}
    {tk_RECKONED_BY tk_MOST_TERMS tk_DEEPEST : Tok}
    {od_size_of an_size_of od_depth_of an_depth_of od_loose_in_rows an_loose_in_rows od_loose_names an_loose_names od_bound_in_parts an_bound_in_parts od_head_of an_head_of od_parts_of an_parts_of od_rows_of an_rows_of od_TermTable_init an_TermTable_init od_TermTable_place_of an_TermTable_place_of od_ends_of an_ends_of od_edge_of an_edge_of od_kind_of an_kind_of od_Around_init an_Around_init od_Around_within_quote an_Around_within_quote od_Around_within_hole an_Around_within_hole od_Around_with_value an_Around_with_value od_Around_with_function an_Around_with_function od_Around_within_function an_Around_within_function od_Around_meaning_of an_Around_meaning_of od_Kinds_init an_Kinds_init od_Kinds_kind_at an_Kinds_kind_at od_Kinds_looked_at an_Kinds_looked_at od_Kinds_want an_Kinds_want od_look_at_num an_look_at_num od_look_at_name an_look_at_name od_look_at_numbers an_look_at_numbers od_look_at_when an_look_at_when od_look_at_let an_look_at_let od_look_at_turns an_look_at_turns od_look_at_def an_look_at_def od_look_at_use an_look_at_use od_look_at_quote an_look_at_quote od_look_at_hole an_look_at_hole od_look_at_lift an_look_at_lift od_look_at_run an_look_at_run od_told an_told od_made an_made od_refuse_unless an_refuse_unless od_Piece_init an_Piece_init od_Telling_init an_Telling_init od_Telling_value_of an_Telling_value_of od_Telling_later an_Telling_later od_Telling_tell an_Telling_tell od_Telling_make an_Telling_make od_Telling_make_of an_Telling_make_of od_Telling_new_name an_Telling_new_name od_tell_num an_tell_num od_tell_name an_tell_name od_tell_two an_tell_two od_reckon an_reckon od_tell_when an_tell_when od_choose an_choose od_tell_let an_tell_let od_go_on_with_b an_go_on_with_b od_tell_turns an_tell_turns od_turn an_turn od_tell_def an_tell_def od_tell_use an_tell_use od_go_on_with_function an_go_on_with_function od_tell_quote an_tell_quote od_refuse_too_great an_refuse_too_great od_tell_lift an_tell_lift od_make_num an_make_num od_tell_run an_tell_run od_go_on_with_piece an_go_on_with_piece od_make_same an_make_same od_make_name an_make_name od_make_plain an_make_plain od_make_let an_make_let od_make_turns an_make_turns od_make_def an_make_def od_make_use an_make_use od_fill_hole an_fill_hole od_put_together an_put_together od_law_cell_at an_law_cell_at od_law_mixed an_law_mixed od_law_drawn an_law_drawn od_law_name an_law_name od_law_wide an_law_wide od_law_great an_law_great od_law_step an_law_step od_law_deep an_law_deep od_law_refused an_law_refused od_law_wrong_kind an_law_wrong_kind od_law_done an_law_done od_law an_law : Option Addr}
    {sl_size_of sl_depth_of sl_loose_in_rows sl_loose_names sl_bound_in_parts sl_head_of sl_parts_of sl_rows_of sl_TermTable_init sl_TermTable_place_of sl_ends_of sl_edge_of sl_kind_of sl_Around_init sl_Around_within_quote sl_Around_within_hole sl_Around_with_value sl_Around_with_function sl_Around_within_function sl_Around_meaning_of sl_Kinds_init sl_Kinds_kind_at sl_Kinds_looked_at sl_Kinds_want sl_look_at_num sl_look_at_name sl_look_at_numbers sl_look_at_when sl_look_at_let sl_look_at_turns sl_look_at_def sl_look_at_use sl_look_at_quote sl_look_at_hole sl_look_at_lift sl_look_at_run sl_told sl_made sl_refuse_unless sl_Piece_init sl_Telling_init sl_Telling_value_of sl_Telling_later sl_Telling_tell sl_Telling_make sl_Telling_make_of sl_Telling_new_name sl_tell_num sl_tell_name sl_tell_two sl_reckon sl_tell_when sl_choose sl_tell_let sl_go_on_with_b sl_tell_turns sl_turn sl_tell_def sl_tell_use sl_go_on_with_function sl_tell_quote sl_refuse_too_great sl_tell_lift sl_make_num sl_tell_run sl_go_on_with_piece sl_make_same sl_make_name sl_make_plain sl_make_let sl_make_turns sl_make_def sl_make_use sl_fill_hole sl_put_together sl_law_cell_at sl_law_mixed sl_law_drawn sl_law_name sl_law_wide sl_law_great sl_law_step sl_law_deep sl_law_refused sl_law_wrong_kind sl_law_done sl_law : Array (Option Value)}
    {oc_size_of kV_size_of dc_size_of pm_size_of cd_size_of ct_size_of oc_depth_of kV_depth_of dc_depth_of pm_depth_of cd_depth_of ct_depth_of oc_loose_in_rows kV_loose_in_rows dc_loose_in_rows pm_loose_in_rows cd_loose_in_rows ct_loose_in_rows oc_loose_names kV_loose_names dc_loose_names pm_loose_names cd_loose_names ct_loose_names oc_bound_in_parts kV_bound_in_parts dc_bound_in_parts pm_bound_in_parts cd_bound_in_parts ct_bound_in_parts oc_head_of kV_head_of dc_head_of pm_head_of cd_head_of ct_head_of oc_parts_of kV_parts_of dc_parts_of pm_parts_of cd_parts_of ct_parts_of oc_rows_of kV_rows_of dc_rows_of pm_rows_of cd_rows_of ct_rows_of oc_TermTable_init kV_TermTable_init dc_TermTable_init pm_TermTable_init cd_TermTable_init ct_TermTable_init oc_TermTable_place_of kV_TermTable_place_of dc_TermTable_place_of pm_TermTable_place_of cd_TermTable_place_of ct_TermTable_place_of oc_ends_of kV_ends_of dc_ends_of pm_ends_of cd_ends_of ct_ends_of oc_edge_of kV_edge_of dc_edge_of pm_edge_of cd_edge_of ct_edge_of oc_kind_of kV_kind_of dc_kind_of pm_kind_of cd_kind_of ct_kind_of oc_Around_init kV_Around_init dc_Around_init pm_Around_init cd_Around_init ct_Around_init oc_Around_within_quote kV_Around_within_quote dc_Around_within_quote pm_Around_within_quote cd_Around_within_quote ct_Around_within_quote oc_Around_within_hole kV_Around_within_hole dc_Around_within_hole pm_Around_within_hole cd_Around_within_hole ct_Around_within_hole oc_Around_with_value kV_Around_with_value dc_Around_with_value pm_Around_with_value cd_Around_with_value ct_Around_with_value oc_Around_with_function kV_Around_with_function dc_Around_with_function pm_Around_with_function cd_Around_with_function ct_Around_with_function oc_Around_within_function kV_Around_within_function dc_Around_within_function pm_Around_within_function cd_Around_within_function ct_Around_within_function oc_Around_meaning_of kV_Around_meaning_of dc_Around_meaning_of pm_Around_meaning_of cd_Around_meaning_of ct_Around_meaning_of oc_Kinds_init kV_Kinds_init dc_Kinds_init pm_Kinds_init cd_Kinds_init ct_Kinds_init oc_Kinds_kind_at kV_Kinds_kind_at dc_Kinds_kind_at pm_Kinds_kind_at cd_Kinds_kind_at ct_Kinds_kind_at oc_Kinds_looked_at kV_Kinds_looked_at dc_Kinds_looked_at pm_Kinds_looked_at cd_Kinds_looked_at ct_Kinds_looked_at oc_Kinds_want kV_Kinds_want dc_Kinds_want pm_Kinds_want cd_Kinds_want ct_Kinds_want oc_look_at_num kV_look_at_num dc_look_at_num pm_look_at_num cd_look_at_num ct_look_at_num oc_look_at_name kV_look_at_name dc_look_at_name pm_look_at_name cd_look_at_name ct_look_at_name oc_look_at_numbers kV_look_at_numbers dc_look_at_numbers pm_look_at_numbers cd_look_at_numbers ct_look_at_numbers oc_look_at_when kV_look_at_when dc_look_at_when pm_look_at_when cd_look_at_when ct_look_at_when oc_look_at_let kV_look_at_let dc_look_at_let pm_look_at_let cd_look_at_let ct_look_at_let oc_look_at_turns kV_look_at_turns dc_look_at_turns pm_look_at_turns cd_look_at_turns ct_look_at_turns oc_look_at_def kV_look_at_def dc_look_at_def pm_look_at_def cd_look_at_def ct_look_at_def oc_look_at_use kV_look_at_use dc_look_at_use pm_look_at_use cd_look_at_use ct_look_at_use oc_look_at_quote kV_look_at_quote dc_look_at_quote pm_look_at_quote cd_look_at_quote ct_look_at_quote oc_look_at_hole kV_look_at_hole dc_look_at_hole pm_look_at_hole cd_look_at_hole ct_look_at_hole oc_look_at_lift kV_look_at_lift dc_look_at_lift pm_look_at_lift cd_look_at_lift ct_look_at_lift oc_look_at_run kV_look_at_run dc_look_at_run pm_look_at_run cd_look_at_run ct_look_at_run oc_told kV_told dc_told pm_told cd_told ct_told oc_made kV_made dc_made pm_made cd_made ct_made oc_refuse_unless kV_refuse_unless dc_refuse_unless pm_refuse_unless cd_refuse_unless ct_refuse_unless oc_Piece_init kV_Piece_init dc_Piece_init pm_Piece_init cd_Piece_init ct_Piece_init oc_Telling_init kV_Telling_init dc_Telling_init pm_Telling_init cd_Telling_init ct_Telling_init oc_Telling_value_of kV_Telling_value_of dc_Telling_value_of pm_Telling_value_of cd_Telling_value_of ct_Telling_value_of oc_Telling_later kV_Telling_later dc_Telling_later pm_Telling_later cd_Telling_later ct_Telling_later oc_Telling_tell kV_Telling_tell dc_Telling_tell pm_Telling_tell cd_Telling_tell ct_Telling_tell oc_Telling_make kV_Telling_make dc_Telling_make pm_Telling_make cd_Telling_make ct_Telling_make oc_Telling_make_of kV_Telling_make_of dc_Telling_make_of pm_Telling_make_of cd_Telling_make_of ct_Telling_make_of oc_Telling_new_name kV_Telling_new_name dc_Telling_new_name pm_Telling_new_name cd_Telling_new_name ct_Telling_new_name oc_tell_num kV_tell_num dc_tell_num pm_tell_num cd_tell_num ct_tell_num oc_tell_name kV_tell_name dc_tell_name pm_tell_name cd_tell_name ct_tell_name oc_tell_two kV_tell_two dc_tell_two pm_tell_two cd_tell_two ct_tell_two oc_reckon kV_reckon dc_reckon pm_reckon cd_reckon ct_reckon oc_tell_when kV_tell_when dc_tell_when pm_tell_when cd_tell_when ct_tell_when oc_choose kV_choose dc_choose pm_choose cd_choose ct_choose oc_tell_let kV_tell_let dc_tell_let pm_tell_let cd_tell_let ct_tell_let oc_go_on_with_b kV_go_on_with_b dc_go_on_with_b pm_go_on_with_b cd_go_on_with_b ct_go_on_with_b oc_tell_turns kV_tell_turns dc_tell_turns pm_tell_turns cd_tell_turns ct_tell_turns oc_turn kV_turn dc_turn pm_turn cd_turn ct_turn oc_tell_def kV_tell_def dc_tell_def pm_tell_def cd_tell_def ct_tell_def oc_tell_use kV_tell_use dc_tell_use pm_tell_use cd_tell_use ct_tell_use oc_go_on_with_function kV_go_on_with_function dc_go_on_with_function pm_go_on_with_function cd_go_on_with_function ct_go_on_with_function oc_tell_quote kV_tell_quote dc_tell_quote pm_tell_quote cd_tell_quote ct_tell_quote oc_refuse_too_great kV_refuse_too_great dc_refuse_too_great pm_refuse_too_great cd_refuse_too_great ct_refuse_too_great oc_tell_lift kV_tell_lift dc_tell_lift pm_tell_lift cd_tell_lift ct_tell_lift oc_make_num kV_make_num dc_make_num pm_make_num cd_make_num ct_make_num oc_tell_run kV_tell_run dc_tell_run pm_tell_run cd_tell_run ct_tell_run oc_go_on_with_piece kV_go_on_with_piece dc_go_on_with_piece pm_go_on_with_piece cd_go_on_with_piece ct_go_on_with_piece oc_make_same kV_make_same dc_make_same pm_make_same cd_make_same ct_make_same oc_make_name kV_make_name dc_make_name pm_make_name cd_make_name ct_make_name oc_make_plain kV_make_plain dc_make_plain pm_make_plain cd_make_plain ct_make_plain oc_make_let kV_make_let dc_make_let pm_make_let cd_make_let ct_make_let oc_make_turns kV_make_turns dc_make_turns pm_make_turns cd_make_turns ct_make_turns oc_make_def kV_make_def dc_make_def pm_make_def cd_make_def ct_make_def oc_make_use kV_make_use dc_make_use pm_make_use cd_make_use ct_make_use oc_fill_hole kV_fill_hole dc_fill_hole pm_fill_hole cd_fill_hole ct_fill_hole oc_put_together kV_put_together dc_put_together pm_put_together cd_put_together ct_put_together oc_law_cell_at kV_law_cell_at dc_law_cell_at pm_law_cell_at cd_law_cell_at ct_law_cell_at oc_law_mixed kV_law_mixed dc_law_mixed pm_law_mixed cd_law_mixed ct_law_mixed oc_law_drawn kV_law_drawn dc_law_drawn pm_law_drawn cd_law_drawn ct_law_drawn oc_law_name kV_law_name dc_law_name pm_law_name cd_law_name ct_law_name oc_law_wide kV_law_wide dc_law_wide pm_law_wide cd_law_wide ct_law_wide oc_law_great kV_law_great dc_law_great pm_law_great cd_law_great ct_law_great oc_law_step kV_law_step dc_law_step pm_law_step cd_law_step ct_law_step oc_law_deep kV_law_deep dc_law_deep pm_law_deep cd_law_deep ct_law_deep oc_law_refused kV_law_refused dc_law_refused pm_law_refused cd_law_refused ct_law_refused oc_law_wrong_kind kV_law_wrong_kind dc_law_wrong_kind pm_law_wrong_kind cd_law_wrong_kind ct_law_wrong_kind oc_law_done kV_law_done dc_law_done pm_law_done cd_law_done ct_law_done oc_law kV_law dc_law pm_law cd_law ct_law : Value}
    {eD_PARTS_AT : Array DictEntry} {nD_PARTS_AT : Nat} {t_PARTS_AT_num t_PARTS_AT_name t_PARTS_AT_sum t_PARTS_AT_product t_PARTS_AT_less t_PARTS_AT_when t_PARTS_AT_let t_PARTS_AT_turns t_PARTS_AT_def t_PARTS_AT_use t_PARTS_AT_quote t_PARTS_AT_hole t_PARTS_AT_lift t_PARTS_AT_run : Tok}
    {eD_LEVEL_OF : Array DictEntry} {nD_LEVEL_OF : Nat} {t_LEVEL_OF_quote t_LEVEL_OF_hole t_LEVEL_OF_lift t_LEVEL_OF_run : Tok}
    {eD_LOOKS : Array DictEntry} {nD_LOOKS : Nat}
    {eD_TELLERS : Array DictEntry} {nD_TELLERS : Nat}
    {eD_MAKERS : Array DictEntry} {nD_MAKERS : Nat}
    (aC_HallError : PySem.W.nsIn K mainGlobals "HallError" = some (some (.ref C_HallError)))
    (ex_HallError : PySem.W.excIn K C_HallError [.type "ValueError", .type "Exception", .type "BaseException", .type "object"] "ValueError.__new__" = true)
    (ke_HallError : PySem.W.keepIn K (.ref C_HallError) = true)
    (be_HallError : PySem.W.subIn K (.ref C_HallError) (.type "BaseException") = some true)
    (te_HallError : PySem.W.typeIn K (.ref C_HallError) = some (.type "type"))
    (aC_NoName : PySem.W.nsIn K mainGlobals "NoName" = some (some (.ref C_NoName)))
    (ex_NoName : PySem.W.excIn K C_NoName [.type "ValueError", .type "Exception", .type "BaseException", .type "object"] "ValueError.__new__" = true)
    (ke_NoName : PySem.W.keepIn K (.ref C_NoName) = true)
    (be_NoName : PySem.W.subIn K (.ref C_NoName) (.type "BaseException") = some true)
    (te_NoName : PySem.W.typeIn K (.ref C_NoName) = some (.type "type"))
    (aC_WrongLevel : PySem.W.nsIn K mainGlobals "WrongLevel" = some (some (.ref C_WrongLevel)))
    (ex_WrongLevel : PySem.W.excIn K C_WrongLevel [.type "ValueError", .type "Exception", .type "BaseException", .type "object"] "ValueError.__new__" = true)
    (ke_WrongLevel : PySem.W.keepIn K (.ref C_WrongLevel) = true)
    (be_WrongLevel : PySem.W.subIn K (.ref C_WrongLevel) (.type "BaseException") = some true)
    (te_WrongLevel : PySem.W.typeIn K (.ref C_WrongLevel) = some (.type "type"))
    (aC_WrongKind : PySem.W.nsIn K mainGlobals "WrongKind" = some (some (.ref C_WrongKind)))
    (ex_WrongKind : PySem.W.excIn K C_WrongKind [.type "ValueError", .type "Exception", .type "BaseException", .type "object"] "ValueError.__new__" = true)
    (ke_WrongKind : PySem.W.keepIn K (.ref C_WrongKind) = true)
    (be_WrongKind : PySem.W.subIn K (.ref C_WrongKind) (.type "BaseException") = some true)
    (te_WrongKind : PySem.W.typeIn K (.ref C_WrongKind) = some (.type "type"))
    (aC_TooGreat : PySem.W.nsIn K mainGlobals "TooGreat" = some (some (.ref C_TooGreat)))
    (ex_TooGreat : PySem.W.excIn K C_TooGreat [.type "ValueError", .type "Exception", .type "BaseException", .type "object"] "ValueError.__new__" = true)
    (ke_TooGreat : PySem.W.keepIn K (.ref C_TooGreat) = true)
    (be_TooGreat : PySem.W.subIn K (.ref C_TooGreat) (.type "BaseException") = some true)
    (te_TooGreat : PySem.W.typeIn K (.ref C_TooGreat) = some (.type "type"))
    (aC_TermTable : PySem.W.nsIn K mainGlobals "TermTable" = some (some (.ref C_TermTable)))
    (pg_TermTable : PySem.W.plainGet K C_TermTable Str.empty = true)
    (hd_TermTable : PySem.W.hasDictIn K C_TermTable = true)
    (po_TermTable : PySem.W.plainOver K C_TermTable = true)
    (sa_TermTable : PySem.W.findIn K (.ref C_TermTable) "__setattr__" = some (some (.builtin "object.__setattr__")))
    (mk_TermTable : PySem.W.makesIn K C_TermTable = true)
    (kc_TermTable : PySem.W.keepIn K (.ref C_TermTable) = true)
    (no_TermTable_rows : PySem.W.findIn K (.ref C_TermTable) "rows" = some none)
    (no_TermTable_known : PySem.W.findIn K (.ref C_TermTable) "known" = some none)
    (aC_Around : PySem.W.nsIn K mainGlobals "Around" = some (some (.ref C_Around)))
    (pg_Around : PySem.W.plainGet K C_Around Str.empty = true)
    (hd_Around : PySem.W.hasDictIn K C_Around = true)
    (po_Around : PySem.W.plainOver K C_Around = true)
    (sa_Around : PySem.W.findIn K (.ref C_Around) "__setattr__" = some (some (.builtin "object.__setattr__")))
    (mk_Around : PySem.W.makesIn K C_Around = true)
    (kc_Around : PySem.W.keepIn K (.ref C_Around) = true)
    (no_Around_level : PySem.W.findIn K (.ref C_Around) "level" = some none)
    (no_Around_barred : PySem.W.findIn K (.ref C_Around) "barred" = some none)
    (no_Around_names : PySem.W.findIn K (.ref C_Around) "names" = some none)
    (aC_Kinds : PySem.W.nsIn K mainGlobals "Kinds" = some (some (.ref C_Kinds)))
    (pg_Kinds : PySem.W.plainGet K C_Kinds Str.empty = true)
    (hd_Kinds : PySem.W.hasDictIn K C_Kinds = true)
    (po_Kinds : PySem.W.plainOver K C_Kinds = true)
    (sa_Kinds : PySem.W.findIn K (.ref C_Kinds) "__setattr__" = some (some (.builtin "object.__setattr__")))
    (mk_Kinds : PySem.W.makesIn K C_Kinds = true)
    (kc_Kinds : PySem.W.keepIn K (.ref C_Kinds) = true)
    (no_Kinds_rows : PySem.W.findIn K (.ref C_Kinds) "rows" = some none)
    (no_Kinds_loose : PySem.W.findIn K (.ref C_Kinds) "loose" = some none)
    (no_Kinds_known : PySem.W.findIn K (.ref C_Kinds) "known" = some none)
    (aC_Piece : PySem.W.nsIn K mainGlobals "Piece" = some (some (.ref C_Piece)))
    (pg_Piece : PySem.W.plainGet K C_Piece Str.empty = true)
    (hd_Piece : PySem.W.hasDictIn K C_Piece = true)
    (po_Piece : PySem.W.plainOver K C_Piece = true)
    (sa_Piece : PySem.W.findIn K (.ref C_Piece) "__setattr__" = some (some (.builtin "object.__setattr__")))
    (mk_Piece : PySem.W.makesIn K C_Piece = true)
    (kc_Piece : PySem.W.keepIn K (.ref C_Piece) = true)
    (no_Piece_term : PySem.W.findIn K (.ref C_Piece) "term" = some none)
    (no_Piece_size : PySem.W.findIn K (.ref C_Piece) "size" = some none)
    (no_Piece_depth : PySem.W.findIn K (.ref C_Piece) "depth" = some none)
    (no_Piece_later : PySem.W.findIn K (.ref C_Piece) "later" = some none)
    (aC_Telling : PySem.W.nsIn K mainGlobals "Telling" = some (some (.ref C_Telling)))
    (pg_Telling : PySem.W.plainGet K C_Telling Str.empty = true)
    (hd_Telling : PySem.W.hasDictIn K C_Telling = true)
    (po_Telling : PySem.W.plainOver K C_Telling = true)
    (sa_Telling : PySem.W.findIn K (.ref C_Telling) "__setattr__" = some (some (.builtin "object.__setattr__")))
    (mk_Telling : PySem.W.makesIn K C_Telling = true)
    (kc_Telling : PySem.W.keepIn K (.ref C_Telling) = true)
    (no_Telling_steps : PySem.W.findIn K (.ref C_Telling) "steps" = some none)
    (no_Telling_found : PySem.W.findIn K (.ref C_Telling) "found" = some none)
    (no_Telling_named : PySem.W.findIn K (.ref C_Telling) "named" = some none)
    (eg_NoName : PySem.W.findIn K (.ref C_NoName) "__getattribute__" = some (some (.builtin "BaseException.__getattribute__")))
    (ek_NoName : PySem.W.findIn K (.ref C_NoName) "__getattr__" = some none)
    (ed_NoName : PySem.W.hasDictIn K C_NoName = true)
    (ea_NoName : PySem.W.findIn K (.ref C_NoName) "__class__" = some (some (.builtin "object.__class__")))
    (em_NoName : PySem.W.mroIn K C_NoName (.type "object") = some true)
    (sv_NoName : PySem.W.subIn K (.ref C_NoName) (.type "ValueError") = some true)
    (sh_NoName : PySem.W.subIn K (.ref C_NoName) (.ref C_HallError) = some true)
    (su_NoName_NoName : PySem.W.subIn K (.ref C_NoName) (.ref C_NoName) = some true)
    (su_NoName_WrongLevel : PySem.W.subIn K (.ref C_NoName) (.ref C_WrongLevel) = some false)
    (su_NoName_WrongKind : PySem.W.subIn K (.ref C_NoName) (.ref C_WrongKind) = some false)
    (su_NoName_TooGreat : PySem.W.subIn K (.ref C_NoName) (.ref C_TooGreat) = some false)
    (eg_WrongLevel : PySem.W.findIn K (.ref C_WrongLevel) "__getattribute__" = some (some (.builtin "BaseException.__getattribute__")))
    (ek_WrongLevel : PySem.W.findIn K (.ref C_WrongLevel) "__getattr__" = some none)
    (ed_WrongLevel : PySem.W.hasDictIn K C_WrongLevel = true)
    (ea_WrongLevel : PySem.W.findIn K (.ref C_WrongLevel) "__class__" = some (some (.builtin "object.__class__")))
    (em_WrongLevel : PySem.W.mroIn K C_WrongLevel (.type "object") = some true)
    (sv_WrongLevel : PySem.W.subIn K (.ref C_WrongLevel) (.type "ValueError") = some true)
    (sh_WrongLevel : PySem.W.subIn K (.ref C_WrongLevel) (.ref C_HallError) = some true)
    (su_WrongLevel_NoName : PySem.W.subIn K (.ref C_WrongLevel) (.ref C_NoName) = some false)
    (su_WrongLevel_WrongLevel : PySem.W.subIn K (.ref C_WrongLevel) (.ref C_WrongLevel) = some true)
    (su_WrongLevel_WrongKind : PySem.W.subIn K (.ref C_WrongLevel) (.ref C_WrongKind) = some false)
    (su_WrongLevel_TooGreat : PySem.W.subIn K (.ref C_WrongLevel) (.ref C_TooGreat) = some false)
    (eg_WrongKind : PySem.W.findIn K (.ref C_WrongKind) "__getattribute__" = some (some (.builtin "BaseException.__getattribute__")))
    (ek_WrongKind : PySem.W.findIn K (.ref C_WrongKind) "__getattr__" = some none)
    (ed_WrongKind : PySem.W.hasDictIn K C_WrongKind = true)
    (ea_WrongKind : PySem.W.findIn K (.ref C_WrongKind) "__class__" = some (some (.builtin "object.__class__")))
    (em_WrongKind : PySem.W.mroIn K C_WrongKind (.type "object") = some true)
    (sv_WrongKind : PySem.W.subIn K (.ref C_WrongKind) (.type "ValueError") = some true)
    (sh_WrongKind : PySem.W.subIn K (.ref C_WrongKind) (.ref C_HallError) = some true)
    (su_WrongKind_NoName : PySem.W.subIn K (.ref C_WrongKind) (.ref C_NoName) = some false)
    (su_WrongKind_WrongLevel : PySem.W.subIn K (.ref C_WrongKind) (.ref C_WrongLevel) = some false)
    (su_WrongKind_WrongKind : PySem.W.subIn K (.ref C_WrongKind) (.ref C_WrongKind) = some true)
    (su_WrongKind_TooGreat : PySem.W.subIn K (.ref C_WrongKind) (.ref C_TooGreat) = some false)
    (eg_TooGreat : PySem.W.findIn K (.ref C_TooGreat) "__getattribute__" = some (some (.builtin "BaseException.__getattribute__")))
    (ek_TooGreat : PySem.W.findIn K (.ref C_TooGreat) "__getattr__" = some none)
    (ed_TooGreat : PySem.W.hasDictIn K C_TooGreat = true)
    (ea_TooGreat : PySem.W.findIn K (.ref C_TooGreat) "__class__" = some (some (.builtin "object.__class__")))
    (em_TooGreat : PySem.W.mroIn K C_TooGreat (.type "object") = some true)
    (sv_TooGreat : PySem.W.subIn K (.ref C_TooGreat) (.type "ValueError") = some true)
    (sh_TooGreat : PySem.W.subIn K (.ref C_TooGreat) (.ref C_HallError) = some true)
    (su_TooGreat_NoName : PySem.W.subIn K (.ref C_TooGreat) (.ref C_NoName) = some false)
    (su_TooGreat_WrongLevel : PySem.W.subIn K (.ref C_TooGreat) (.ref C_WrongLevel) = some false)
    (su_TooGreat_WrongKind : PySem.W.subIn K (.ref C_TooGreat) (.ref C_WrongKind) = some false)
    (su_TooGreat_TooGreat : PySem.W.subIn K (.ref C_TooGreat) (.ref C_TooGreat) = some true)
    (ed_HallError : PySem.W.hasDictIn K C_HallError = true)
    (en_obj : PySem.W.specialIn K (.builtin "object.__class__") "__get__" = some (some (.builtin "getset_descriptor.__get__")))
    (et_obj : PySem.W.takesIn K (.builtin "object.__class__") = some true)
    (a_size_of : PySem.W.nsIn K mainGlobals "size_of" = some (some (.ref f_size_of)))
    (l_size_of : K.lookup f_size_of = some ⟨oc_size_of, od_size_of, .func (PySem.W.fnOf "size_of" "size_of" (defArgs s_size_of) (defBody s_size_of) (defScope s_size_of) .none kV_size_of dc_size_of pm_size_of an_size_of cd_size_of ct_size_of), sl_size_of⟩)
    (c_size_of : PySem.W.codeIn K cd_size_of "size_of" = true)
    (k_size_of : PySem.W.keepIn K (.ref f_size_of) = true)
    (a_depth_of : PySem.W.nsIn K mainGlobals "depth_of" = some (some (.ref f_depth_of)))
    (l_depth_of : K.lookup f_depth_of = some ⟨oc_depth_of, od_depth_of, .func (PySem.W.fnOf "depth_of" "depth_of" (defArgs s_depth_of) (defBody s_depth_of) (defScope s_depth_of) .none kV_depth_of dc_depth_of pm_depth_of an_depth_of cd_depth_of ct_depth_of), sl_depth_of⟩)
    (c_depth_of : PySem.W.codeIn K cd_depth_of "depth_of" = true)
    (k_depth_of : PySem.W.keepIn K (.ref f_depth_of) = true)
    (a_loose_in_rows : PySem.W.nsIn K mainGlobals "loose_in_rows" = some (some (.ref f_loose_in_rows)))
    (l_loose_in_rows : K.lookup f_loose_in_rows = some ⟨oc_loose_in_rows, od_loose_in_rows, .func (PySem.W.fnOf "loose_in_rows" "loose_in_rows" (defArgs s_loose_in_rows) (defBody s_loose_in_rows) (defScope s_loose_in_rows) .none kV_loose_in_rows dc_loose_in_rows pm_loose_in_rows an_loose_in_rows cd_loose_in_rows ct_loose_in_rows), sl_loose_in_rows⟩)
    (c_loose_in_rows : PySem.W.codeIn K cd_loose_in_rows "loose_in_rows" = true)
    (k_loose_in_rows : PySem.W.keepIn K (.ref f_loose_in_rows) = true)
    (a_loose_names : PySem.W.nsIn K mainGlobals "loose_names" = some (some (.ref f_loose_names)))
    (l_loose_names : K.lookup f_loose_names = some ⟨oc_loose_names, od_loose_names, .func (PySem.W.fnOf "loose_names" "loose_names" (defArgs s_loose_names) (defBody s_loose_names) (defScope s_loose_names) .none kV_loose_names dc_loose_names pm_loose_names an_loose_names cd_loose_names ct_loose_names), sl_loose_names⟩)
    (c_loose_names : PySem.W.codeIn K cd_loose_names "loose_names" = true)
    (k_loose_names : PySem.W.keepIn K (.ref f_loose_names) = true)
    (a_bound_in_parts : PySem.W.nsIn K mainGlobals "bound_in_parts" = some (some (.ref f_bound_in_parts)))
    (l_bound_in_parts : K.lookup f_bound_in_parts = some ⟨oc_bound_in_parts, od_bound_in_parts, .func (PySem.W.fnOf "bound_in_parts" "bound_in_parts" (defArgs s_bound_in_parts) (defBody s_bound_in_parts) (defScope s_bound_in_parts) .none kV_bound_in_parts dc_bound_in_parts pm_bound_in_parts an_bound_in_parts cd_bound_in_parts ct_bound_in_parts), sl_bound_in_parts⟩)
    (c_bound_in_parts : PySem.W.codeIn K cd_bound_in_parts "bound_in_parts" = true)
    (k_bound_in_parts : PySem.W.keepIn K (.ref f_bound_in_parts) = true)
    (a_head_of : PySem.W.nsIn K mainGlobals "head_of" = some (some (.ref f_head_of)))
    (l_head_of : K.lookup f_head_of = some ⟨oc_head_of, od_head_of, .func (PySem.W.fnOf "head_of" "head_of" (defArgs s_head_of) (defBody s_head_of) (defScope s_head_of) .none kV_head_of dc_head_of pm_head_of an_head_of cd_head_of ct_head_of), sl_head_of⟩)
    (c_head_of : PySem.W.codeIn K cd_head_of "head_of" = true)
    (k_head_of : PySem.W.keepIn K (.ref f_head_of) = true)
    (a_parts_of : PySem.W.nsIn K mainGlobals "parts_of" = some (some (.ref f_parts_of)))
    (l_parts_of : K.lookup f_parts_of = some ⟨oc_parts_of, od_parts_of, .func (PySem.W.fnOf "parts_of" "parts_of" (defArgs s_parts_of) (defBody s_parts_of) (defScope s_parts_of) .none kV_parts_of dc_parts_of pm_parts_of an_parts_of cd_parts_of ct_parts_of), sl_parts_of⟩)
    (c_parts_of : PySem.W.codeIn K cd_parts_of "parts_of" = true)
    (k_parts_of : PySem.W.keepIn K (.ref f_parts_of) = true)
    (a_rows_of : PySem.W.nsIn K mainGlobals "rows_of" = some (some (.ref f_rows_of)))
    (l_rows_of : K.lookup f_rows_of = some ⟨oc_rows_of, od_rows_of, .func (PySem.W.fnOf "rows_of" "rows_of" (defArgs s_rows_of) (defBody s_rows_of) (defScope s_rows_of) .none kV_rows_of dc_rows_of pm_rows_of an_rows_of cd_rows_of ct_rows_of), sl_rows_of⟩)
    (c_rows_of : PySem.W.codeIn K cd_rows_of "rows_of" = true)
    (k_rows_of : PySem.W.keepIn K (.ref f_rows_of) = true)
    (a_TermTable_init : PySem.W.findIn K (.ref C_TermTable) "__init__" = some (some (.ref f_TermTable_init)))
    (i_TermTable_init : PySem.W.isFn K (.ref f_TermTable_init) = true)
    (l_TermTable_init : K.lookup f_TermTable_init = some ⟨oc_TermTable_init, od_TermTable_init, .func (PySem.W.fnOf "__init__" "TermTable.__init__" (defArgs s_TermTable_init) (defBody s_TermTable_init) (defScope s_TermTable_init) .none kV_TermTable_init dc_TermTable_init pm_TermTable_init an_TermTable_init cd_TermTable_init ct_TermTable_init), sl_TermTable_init⟩)
    (c_TermTable_init : PySem.W.codeIn K cd_TermTable_init "TermTable.__init__" = true)
    (k_TermTable_init : PySem.W.keepIn K (.ref f_TermTable_init) = true)
    (a_TermTable_place_of : PySem.W.findIn K (.ref C_TermTable) "place_of" = some (some (.ref f_TermTable_place_of)))
    (i_TermTable_place_of : PySem.W.isFn K (.ref f_TermTable_place_of) = true)
    (l_TermTable_place_of : K.lookup f_TermTable_place_of = some ⟨oc_TermTable_place_of, od_TermTable_place_of, .func (PySem.W.fnOf "place_of" "TermTable.place_of" (defArgs s_TermTable_place_of) (defBody s_TermTable_place_of) (defScope s_TermTable_place_of) .none kV_TermTable_place_of dc_TermTable_place_of pm_TermTable_place_of an_TermTable_place_of cd_TermTable_place_of ct_TermTable_place_of), sl_TermTable_place_of⟩)
    (c_TermTable_place_of : PySem.W.codeIn K cd_TermTable_place_of "TermTable.place_of" = true)
    (k_TermTable_place_of : PySem.W.keepIn K (.ref f_TermTable_place_of) = true)
    (a_ends_of : PySem.W.nsIn K mainGlobals "ends_of" = some (some (.ref f_ends_of)))
    (l_ends_of : K.lookup f_ends_of = some ⟨oc_ends_of, od_ends_of, .func (PySem.W.fnOf "ends_of" "ends_of" (defArgs s_ends_of) (defBody s_ends_of) (defScope s_ends_of) .none kV_ends_of dc_ends_of pm_ends_of an_ends_of cd_ends_of ct_ends_of), sl_ends_of⟩)
    (c_ends_of : PySem.W.codeIn K cd_ends_of "ends_of" = true)
    (k_ends_of : PySem.W.keepIn K (.ref f_ends_of) = true)
    (a_edge_of : PySem.W.nsIn K mainGlobals "edge_of" = some (some (.ref f_edge_of)))
    (l_edge_of : K.lookup f_edge_of = some ⟨oc_edge_of, od_edge_of, .func (PySem.W.fnOf "edge_of" "edge_of" (defArgs s_edge_of) (defBody s_edge_of) (defScope s_edge_of) .none kV_edge_of dc_edge_of pm_edge_of an_edge_of cd_edge_of ct_edge_of), sl_edge_of⟩)
    (c_edge_of : PySem.W.codeIn K cd_edge_of "edge_of" = true)
    (k_edge_of : PySem.W.keepIn K (.ref f_edge_of) = true)
    (a_kind_of : PySem.W.nsIn K mainGlobals "kind_of" = some (some (.ref f_kind_of)))
    (l_kind_of : K.lookup f_kind_of = some ⟨oc_kind_of, od_kind_of, .func (PySem.W.fnOf "kind_of" "kind_of" (defArgs s_kind_of) (defBody s_kind_of) (defScope s_kind_of) .none kV_kind_of dc_kind_of pm_kind_of an_kind_of cd_kind_of ct_kind_of), sl_kind_of⟩)
    (c_kind_of : PySem.W.codeIn K cd_kind_of "kind_of" = true)
    (k_kind_of : PySem.W.keepIn K (.ref f_kind_of) = true)
    (a_Around_init : PySem.W.findIn K (.ref C_Around) "__init__" = some (some (.ref f_Around_init)))
    (i_Around_init : PySem.W.isFn K (.ref f_Around_init) = true)
    (l_Around_init : K.lookup f_Around_init = some ⟨oc_Around_init, od_Around_init, .func (PySem.W.fnOf "__init__" "Around.__init__" (defArgs s_Around_init) (defBody s_Around_init) (defScope s_Around_init) .none kV_Around_init dc_Around_init pm_Around_init an_Around_init cd_Around_init ct_Around_init), sl_Around_init⟩)
    (c_Around_init : PySem.W.codeIn K cd_Around_init "Around.__init__" = true)
    (k_Around_init : PySem.W.keepIn K (.ref f_Around_init) = true)
    (a_Around_within_quote : PySem.W.findIn K (.ref C_Around) "within_quote" = some (some (.ref f_Around_within_quote)))
    (i_Around_within_quote : PySem.W.isFn K (.ref f_Around_within_quote) = true)
    (l_Around_within_quote : K.lookup f_Around_within_quote = some ⟨oc_Around_within_quote, od_Around_within_quote, .func (PySem.W.fnOf "within_quote" "Around.within_quote" (defArgs s_Around_within_quote) (defBody s_Around_within_quote) (defScope s_Around_within_quote) .none kV_Around_within_quote dc_Around_within_quote pm_Around_within_quote an_Around_within_quote cd_Around_within_quote ct_Around_within_quote), sl_Around_within_quote⟩)
    (c_Around_within_quote : PySem.W.codeIn K cd_Around_within_quote "Around.within_quote" = true)
    (k_Around_within_quote : PySem.W.keepIn K (.ref f_Around_within_quote) = true)
    (a_Around_within_hole : PySem.W.findIn K (.ref C_Around) "within_hole" = some (some (.ref f_Around_within_hole)))
    (i_Around_within_hole : PySem.W.isFn K (.ref f_Around_within_hole) = true)
    (l_Around_within_hole : K.lookup f_Around_within_hole = some ⟨oc_Around_within_hole, od_Around_within_hole, .func (PySem.W.fnOf "within_hole" "Around.within_hole" (defArgs s_Around_within_hole) (defBody s_Around_within_hole) (defScope s_Around_within_hole) .none kV_Around_within_hole dc_Around_within_hole pm_Around_within_hole an_Around_within_hole cd_Around_within_hole ct_Around_within_hole), sl_Around_within_hole⟩)
    (c_Around_within_hole : PySem.W.codeIn K cd_Around_within_hole "Around.within_hole" = true)
    (k_Around_within_hole : PySem.W.keepIn K (.ref f_Around_within_hole) = true)
    (a_Around_with_value : PySem.W.findIn K (.ref C_Around) "with_value" = some (some (.ref f_Around_with_value)))
    (i_Around_with_value : PySem.W.isFn K (.ref f_Around_with_value) = true)
    (l_Around_with_value : K.lookup f_Around_with_value = some ⟨oc_Around_with_value, od_Around_with_value, .func (PySem.W.fnOf "with_value" "Around.with_value" (defArgs s_Around_with_value) (defBody s_Around_with_value) (defScope s_Around_with_value) .none kV_Around_with_value dc_Around_with_value pm_Around_with_value an_Around_with_value cd_Around_with_value ct_Around_with_value), sl_Around_with_value⟩)
    (c_Around_with_value : PySem.W.codeIn K cd_Around_with_value "Around.with_value" = true)
    (k_Around_with_value : PySem.W.keepIn K (.ref f_Around_with_value) = true)
    (a_Around_with_function : PySem.W.findIn K (.ref C_Around) "with_function" = some (some (.ref f_Around_with_function)))
    (i_Around_with_function : PySem.W.isFn K (.ref f_Around_with_function) = true)
    (l_Around_with_function : K.lookup f_Around_with_function = some ⟨oc_Around_with_function, od_Around_with_function, .func (PySem.W.fnOf "with_function" "Around.with_function" (defArgs s_Around_with_function) (defBody s_Around_with_function) (defScope s_Around_with_function) .none kV_Around_with_function dc_Around_with_function pm_Around_with_function an_Around_with_function cd_Around_with_function ct_Around_with_function), sl_Around_with_function⟩)
    (c_Around_with_function : PySem.W.codeIn K cd_Around_with_function "Around.with_function" = true)
    (k_Around_with_function : PySem.W.keepIn K (.ref f_Around_with_function) = true)
    (a_Around_within_function : PySem.W.findIn K (.ref C_Around) "within_function" = some (some (.ref f_Around_within_function)))
    (i_Around_within_function : PySem.W.isFn K (.ref f_Around_within_function) = true)
    (l_Around_within_function : K.lookup f_Around_within_function = some ⟨oc_Around_within_function, od_Around_within_function, .func (PySem.W.fnOf "within_function" "Around.within_function" (defArgs s_Around_within_function) (defBody s_Around_within_function) (defScope s_Around_within_function) .none kV_Around_within_function dc_Around_within_function pm_Around_within_function an_Around_within_function cd_Around_within_function ct_Around_within_function), sl_Around_within_function⟩)
    (c_Around_within_function : PySem.W.codeIn K cd_Around_within_function "Around.within_function" = true)
    (k_Around_within_function : PySem.W.keepIn K (.ref f_Around_within_function) = true)
    (a_Around_meaning_of : PySem.W.findIn K (.ref C_Around) "meaning_of" = some (some (.ref f_Around_meaning_of)))
    (i_Around_meaning_of : PySem.W.isFn K (.ref f_Around_meaning_of) = true)
    (l_Around_meaning_of : K.lookup f_Around_meaning_of = some ⟨oc_Around_meaning_of, od_Around_meaning_of, .func (PySem.W.fnOf "meaning_of" "Around.meaning_of" (defArgs s_Around_meaning_of) (defBody s_Around_meaning_of) (defScope s_Around_meaning_of) .none kV_Around_meaning_of dc_Around_meaning_of pm_Around_meaning_of an_Around_meaning_of cd_Around_meaning_of ct_Around_meaning_of), sl_Around_meaning_of⟩)
    (c_Around_meaning_of : PySem.W.codeIn K cd_Around_meaning_of "Around.meaning_of" = true)
    (k_Around_meaning_of : PySem.W.keepIn K (.ref f_Around_meaning_of) = true)
    (a_Kinds_init : PySem.W.findIn K (.ref C_Kinds) "__init__" = some (some (.ref f_Kinds_init)))
    (i_Kinds_init : PySem.W.isFn K (.ref f_Kinds_init) = true)
    (l_Kinds_init : K.lookup f_Kinds_init = some ⟨oc_Kinds_init, od_Kinds_init, .func (PySem.W.fnOf "__init__" "Kinds.__init__" (defArgs s_Kinds_init) (defBody s_Kinds_init) (defScope s_Kinds_init) .none kV_Kinds_init dc_Kinds_init pm_Kinds_init an_Kinds_init cd_Kinds_init ct_Kinds_init), sl_Kinds_init⟩)
    (c_Kinds_init : PySem.W.codeIn K cd_Kinds_init "Kinds.__init__" = true)
    (k_Kinds_init : PySem.W.keepIn K (.ref f_Kinds_init) = true)
    (a_Kinds_kind_at : PySem.W.findIn K (.ref C_Kinds) "kind_at" = some (some (.ref f_Kinds_kind_at)))
    (i_Kinds_kind_at : PySem.W.isFn K (.ref f_Kinds_kind_at) = true)
    (l_Kinds_kind_at : K.lookup f_Kinds_kind_at = some ⟨oc_Kinds_kind_at, od_Kinds_kind_at, .func (PySem.W.fnOf "kind_at" "Kinds.kind_at" (defArgs s_Kinds_kind_at) (defBody s_Kinds_kind_at) (defScope s_Kinds_kind_at) .none kV_Kinds_kind_at dc_Kinds_kind_at pm_Kinds_kind_at an_Kinds_kind_at cd_Kinds_kind_at ct_Kinds_kind_at), sl_Kinds_kind_at⟩)
    (c_Kinds_kind_at : PySem.W.codeIn K cd_Kinds_kind_at "Kinds.kind_at" = true)
    (k_Kinds_kind_at : PySem.W.keepIn K (.ref f_Kinds_kind_at) = true)
    (a_Kinds_looked_at : PySem.W.findIn K (.ref C_Kinds) "looked_at" = some (some (.ref f_Kinds_looked_at)))
    (i_Kinds_looked_at : PySem.W.isFn K (.ref f_Kinds_looked_at) = true)
    (l_Kinds_looked_at : K.lookup f_Kinds_looked_at = some ⟨oc_Kinds_looked_at, od_Kinds_looked_at, .func (PySem.W.fnOf "looked_at" "Kinds.looked_at" (defArgs s_Kinds_looked_at) (defBody s_Kinds_looked_at) (defScope s_Kinds_looked_at) .none kV_Kinds_looked_at dc_Kinds_looked_at pm_Kinds_looked_at an_Kinds_looked_at cd_Kinds_looked_at ct_Kinds_looked_at), sl_Kinds_looked_at⟩)
    (c_Kinds_looked_at : PySem.W.codeIn K cd_Kinds_looked_at "Kinds.looked_at" = true)
    (k_Kinds_looked_at : PySem.W.keepIn K (.ref f_Kinds_looked_at) = true)
    (a_Kinds_want : PySem.W.findIn K (.ref C_Kinds) "want" = some (some (.ref f_Kinds_want)))
    (i_Kinds_want : PySem.W.isFn K (.ref f_Kinds_want) = true)
    (l_Kinds_want : K.lookup f_Kinds_want = some ⟨oc_Kinds_want, od_Kinds_want, .func (PySem.W.fnOf "want" "Kinds.want" (defArgs s_Kinds_want) (defBody s_Kinds_want) (defScope s_Kinds_want) .none kV_Kinds_want dc_Kinds_want pm_Kinds_want an_Kinds_want cd_Kinds_want ct_Kinds_want), sl_Kinds_want⟩)
    (c_Kinds_want : PySem.W.codeIn K cd_Kinds_want "Kinds.want" = true)
    (k_Kinds_want : PySem.W.keepIn K (.ref f_Kinds_want) = true)
    (a_look_at_num : PySem.W.nsIn K mainGlobals "look_at_num" = some (some (.ref f_look_at_num)))
    (l_look_at_num : K.lookup f_look_at_num = some ⟨oc_look_at_num, od_look_at_num, .func (PySem.W.fnOf "look_at_num" "look_at_num" (defArgs s_look_at_num) (defBody s_look_at_num) (defScope s_look_at_num) .none kV_look_at_num dc_look_at_num pm_look_at_num an_look_at_num cd_look_at_num ct_look_at_num), sl_look_at_num⟩)
    (c_look_at_num : PySem.W.codeIn K cd_look_at_num "look_at_num" = true)
    (k_look_at_num : PySem.W.keepIn K (.ref f_look_at_num) = true)
    (a_look_at_name : PySem.W.nsIn K mainGlobals "look_at_name" = some (some (.ref f_look_at_name)))
    (l_look_at_name : K.lookup f_look_at_name = some ⟨oc_look_at_name, od_look_at_name, .func (PySem.W.fnOf "look_at_name" "look_at_name" (defArgs s_look_at_name) (defBody s_look_at_name) (defScope s_look_at_name) .none kV_look_at_name dc_look_at_name pm_look_at_name an_look_at_name cd_look_at_name ct_look_at_name), sl_look_at_name⟩)
    (c_look_at_name : PySem.W.codeIn K cd_look_at_name "look_at_name" = true)
    (k_look_at_name : PySem.W.keepIn K (.ref f_look_at_name) = true)
    (a_look_at_numbers : PySem.W.nsIn K mainGlobals "look_at_numbers" = some (some (.ref f_look_at_numbers)))
    (l_look_at_numbers : K.lookup f_look_at_numbers = some ⟨oc_look_at_numbers, od_look_at_numbers, .func (PySem.W.fnOf "look_at_numbers" "look_at_numbers" (defArgs s_look_at_numbers) (defBody s_look_at_numbers) (defScope s_look_at_numbers) .none kV_look_at_numbers dc_look_at_numbers pm_look_at_numbers an_look_at_numbers cd_look_at_numbers ct_look_at_numbers), sl_look_at_numbers⟩)
    (c_look_at_numbers : PySem.W.codeIn K cd_look_at_numbers "look_at_numbers" = true)
    (k_look_at_numbers : PySem.W.keepIn K (.ref f_look_at_numbers) = true)
    (a_look_at_when : PySem.W.nsIn K mainGlobals "look_at_when" = some (some (.ref f_look_at_when)))
    (l_look_at_when : K.lookup f_look_at_when = some ⟨oc_look_at_when, od_look_at_when, .func (PySem.W.fnOf "look_at_when" "look_at_when" (defArgs s_look_at_when) (defBody s_look_at_when) (defScope s_look_at_when) .none kV_look_at_when dc_look_at_when pm_look_at_when an_look_at_when cd_look_at_when ct_look_at_when), sl_look_at_when⟩)
    (c_look_at_when : PySem.W.codeIn K cd_look_at_when "look_at_when" = true)
    (k_look_at_when : PySem.W.keepIn K (.ref f_look_at_when) = true)
    (a_look_at_let : PySem.W.nsIn K mainGlobals "look_at_let" = some (some (.ref f_look_at_let)))
    (l_look_at_let : K.lookup f_look_at_let = some ⟨oc_look_at_let, od_look_at_let, .func (PySem.W.fnOf "look_at_let" "look_at_let" (defArgs s_look_at_let) (defBody s_look_at_let) (defScope s_look_at_let) .none kV_look_at_let dc_look_at_let pm_look_at_let an_look_at_let cd_look_at_let ct_look_at_let), sl_look_at_let⟩)
    (c_look_at_let : PySem.W.codeIn K cd_look_at_let "look_at_let" = true)
    (k_look_at_let : PySem.W.keepIn K (.ref f_look_at_let) = true)
    (a_look_at_turns : PySem.W.nsIn K mainGlobals "look_at_turns" = some (some (.ref f_look_at_turns)))
    (l_look_at_turns : K.lookup f_look_at_turns = some ⟨oc_look_at_turns, od_look_at_turns, .func (PySem.W.fnOf "look_at_turns" "look_at_turns" (defArgs s_look_at_turns) (defBody s_look_at_turns) (defScope s_look_at_turns) .none kV_look_at_turns dc_look_at_turns pm_look_at_turns an_look_at_turns cd_look_at_turns ct_look_at_turns), sl_look_at_turns⟩)
    (c_look_at_turns : PySem.W.codeIn K cd_look_at_turns "look_at_turns" = true)
    (k_look_at_turns : PySem.W.keepIn K (.ref f_look_at_turns) = true)
    (a_look_at_def : PySem.W.nsIn K mainGlobals "look_at_def" = some (some (.ref f_look_at_def)))
    (l_look_at_def : K.lookup f_look_at_def = some ⟨oc_look_at_def, od_look_at_def, .func (PySem.W.fnOf "look_at_def" "look_at_def" (defArgs s_look_at_def) (defBody s_look_at_def) (defScope s_look_at_def) .none kV_look_at_def dc_look_at_def pm_look_at_def an_look_at_def cd_look_at_def ct_look_at_def), sl_look_at_def⟩)
    (c_look_at_def : PySem.W.codeIn K cd_look_at_def "look_at_def" = true)
    (k_look_at_def : PySem.W.keepIn K (.ref f_look_at_def) = true)
    (a_look_at_use : PySem.W.nsIn K mainGlobals "look_at_use" = some (some (.ref f_look_at_use)))
    (l_look_at_use : K.lookup f_look_at_use = some ⟨oc_look_at_use, od_look_at_use, .func (PySem.W.fnOf "look_at_use" "look_at_use" (defArgs s_look_at_use) (defBody s_look_at_use) (defScope s_look_at_use) .none kV_look_at_use dc_look_at_use pm_look_at_use an_look_at_use cd_look_at_use ct_look_at_use), sl_look_at_use⟩)
    (c_look_at_use : PySem.W.codeIn K cd_look_at_use "look_at_use" = true)
    (k_look_at_use : PySem.W.keepIn K (.ref f_look_at_use) = true)
    (a_look_at_quote : PySem.W.nsIn K mainGlobals "look_at_quote" = some (some (.ref f_look_at_quote)))
    (l_look_at_quote : K.lookup f_look_at_quote = some ⟨oc_look_at_quote, od_look_at_quote, .func (PySem.W.fnOf "look_at_quote" "look_at_quote" (defArgs s_look_at_quote) (defBody s_look_at_quote) (defScope s_look_at_quote) .none kV_look_at_quote dc_look_at_quote pm_look_at_quote an_look_at_quote cd_look_at_quote ct_look_at_quote), sl_look_at_quote⟩)
    (c_look_at_quote : PySem.W.codeIn K cd_look_at_quote "look_at_quote" = true)
    (k_look_at_quote : PySem.W.keepIn K (.ref f_look_at_quote) = true)
    (a_look_at_hole : PySem.W.nsIn K mainGlobals "look_at_hole" = some (some (.ref f_look_at_hole)))
    (l_look_at_hole : K.lookup f_look_at_hole = some ⟨oc_look_at_hole, od_look_at_hole, .func (PySem.W.fnOf "look_at_hole" "look_at_hole" (defArgs s_look_at_hole) (defBody s_look_at_hole) (defScope s_look_at_hole) .none kV_look_at_hole dc_look_at_hole pm_look_at_hole an_look_at_hole cd_look_at_hole ct_look_at_hole), sl_look_at_hole⟩)
    (c_look_at_hole : PySem.W.codeIn K cd_look_at_hole "look_at_hole" = true)
    (k_look_at_hole : PySem.W.keepIn K (.ref f_look_at_hole) = true)
    (a_look_at_lift : PySem.W.nsIn K mainGlobals "look_at_lift" = some (some (.ref f_look_at_lift)))
    (l_look_at_lift : K.lookup f_look_at_lift = some ⟨oc_look_at_lift, od_look_at_lift, .func (PySem.W.fnOf "look_at_lift" "look_at_lift" (defArgs s_look_at_lift) (defBody s_look_at_lift) (defScope s_look_at_lift) .none kV_look_at_lift dc_look_at_lift pm_look_at_lift an_look_at_lift cd_look_at_lift ct_look_at_lift), sl_look_at_lift⟩)
    (c_look_at_lift : PySem.W.codeIn K cd_look_at_lift "look_at_lift" = true)
    (k_look_at_lift : PySem.W.keepIn K (.ref f_look_at_lift) = true)
    (a_look_at_run : PySem.W.nsIn K mainGlobals "look_at_run" = some (some (.ref f_look_at_run)))
    (l_look_at_run : K.lookup f_look_at_run = some ⟨oc_look_at_run, od_look_at_run, .func (PySem.W.fnOf "look_at_run" "look_at_run" (defArgs s_look_at_run) (defBody s_look_at_run) (defScope s_look_at_run) .none kV_look_at_run dc_look_at_run pm_look_at_run an_look_at_run cd_look_at_run ct_look_at_run), sl_look_at_run⟩)
    (c_look_at_run : PySem.W.codeIn K cd_look_at_run "look_at_run" = true)
    (k_look_at_run : PySem.W.keepIn K (.ref f_look_at_run) = true)
    (a_told : PySem.W.nsIn K mainGlobals "told" = some (some (.ref f_told)))
    (l_told : K.lookup f_told = some ⟨oc_told, od_told, .func (PySem.W.fnOf "told" "told" (defArgs s_told) (defBody s_told) (defScope s_told) .none kV_told dc_told pm_told an_told cd_told ct_told), sl_told⟩)
    (c_told : PySem.W.codeIn K cd_told "told" = true)
    (k_told : PySem.W.keepIn K (.ref f_told) = true)
    (a_made : PySem.W.nsIn K mainGlobals "made" = some (some (.ref f_made)))
    (l_made : K.lookup f_made = some ⟨oc_made, od_made, .func (PySem.W.fnOf "made" "made" (defArgs s_made) (defBody s_made) (defScope s_made) .none kV_made dc_made pm_made an_made cd_made ct_made), sl_made⟩)
    (c_made : PySem.W.codeIn K cd_made "made" = true)
    (k_made : PySem.W.keepIn K (.ref f_made) = true)
    (a_refuse_unless : PySem.W.nsIn K mainGlobals "refuse_unless" = some (some (.ref f_refuse_unless)))
    (l_refuse_unless : K.lookup f_refuse_unless = some ⟨oc_refuse_unless, od_refuse_unless, .func (PySem.W.fnOf "refuse_unless" "refuse_unless" (defArgs s_refuse_unless) (defBody s_refuse_unless) (defScope s_refuse_unless) .none kV_refuse_unless dc_refuse_unless pm_refuse_unless an_refuse_unless cd_refuse_unless ct_refuse_unless), sl_refuse_unless⟩)
    (c_refuse_unless : PySem.W.codeIn K cd_refuse_unless "refuse_unless" = true)
    (k_refuse_unless : PySem.W.keepIn K (.ref f_refuse_unless) = true)
    (a_Piece_init : PySem.W.findIn K (.ref C_Piece) "__init__" = some (some (.ref f_Piece_init)))
    (i_Piece_init : PySem.W.isFn K (.ref f_Piece_init) = true)
    (l_Piece_init : K.lookup f_Piece_init = some ⟨oc_Piece_init, od_Piece_init, .func (PySem.W.fnOf "__init__" "Piece.__init__" (defArgs s_Piece_init) (defBody s_Piece_init) (defScope s_Piece_init) .none kV_Piece_init dc_Piece_init pm_Piece_init an_Piece_init cd_Piece_init ct_Piece_init), sl_Piece_init⟩)
    (c_Piece_init : PySem.W.codeIn K cd_Piece_init "Piece.__init__" = true)
    (k_Piece_init : PySem.W.keepIn K (.ref f_Piece_init) = true)
    (a_Telling_init : PySem.W.findIn K (.ref C_Telling) "__init__" = some (some (.ref f_Telling_init)))
    (i_Telling_init : PySem.W.isFn K (.ref f_Telling_init) = true)
    (l_Telling_init : K.lookup f_Telling_init = some ⟨oc_Telling_init, od_Telling_init, .func (PySem.W.fnOf "__init__" "Telling.__init__" (defArgs s_Telling_init) (defBody s_Telling_init) (defScope s_Telling_init) .none kV_Telling_init dc_Telling_init pm_Telling_init an_Telling_init cd_Telling_init ct_Telling_init), sl_Telling_init⟩)
    (c_Telling_init : PySem.W.codeIn K cd_Telling_init "Telling.__init__" = true)
    (k_Telling_init : PySem.W.keepIn K (.ref f_Telling_init) = true)
    (a_Telling_value_of : PySem.W.findIn K (.ref C_Telling) "value_of" = some (some (.ref f_Telling_value_of)))
    (i_Telling_value_of : PySem.W.isFn K (.ref f_Telling_value_of) = true)
    (l_Telling_value_of : K.lookup f_Telling_value_of = some ⟨oc_Telling_value_of, od_Telling_value_of, .func (PySem.W.fnOf "value_of" "Telling.value_of" (defArgs s_Telling_value_of) (defBody s_Telling_value_of) (defScope s_Telling_value_of) .none kV_Telling_value_of dc_Telling_value_of pm_Telling_value_of an_Telling_value_of cd_Telling_value_of ct_Telling_value_of), sl_Telling_value_of⟩)
    (c_Telling_value_of : PySem.W.codeIn K cd_Telling_value_of "Telling.value_of" = true)
    (k_Telling_value_of : PySem.W.keepIn K (.ref f_Telling_value_of) = true)
    (a_Telling_later : PySem.W.findIn K (.ref C_Telling) "later" = some (some (.ref f_Telling_later)))
    (i_Telling_later : PySem.W.isFn K (.ref f_Telling_later) = true)
    (l_Telling_later : K.lookup f_Telling_later = some ⟨oc_Telling_later, od_Telling_later, .func (PySem.W.fnOf "later" "Telling.later" (defArgs s_Telling_later) (defBody s_Telling_later) (defScope s_Telling_later) .none kV_Telling_later dc_Telling_later pm_Telling_later an_Telling_later cd_Telling_later ct_Telling_later), sl_Telling_later⟩)
    (c_Telling_later : PySem.W.codeIn K cd_Telling_later "Telling.later" = true)
    (k_Telling_later : PySem.W.keepIn K (.ref f_Telling_later) = true)
    (a_Telling_tell : PySem.W.findIn K (.ref C_Telling) "tell" = some (some (.ref f_Telling_tell)))
    (i_Telling_tell : PySem.W.isFn K (.ref f_Telling_tell) = true)
    (l_Telling_tell : K.lookup f_Telling_tell = some ⟨oc_Telling_tell, od_Telling_tell, .func (PySem.W.fnOf "tell" "Telling.tell" (defArgs s_Telling_tell) (defBody s_Telling_tell) (defScope s_Telling_tell) .none kV_Telling_tell dc_Telling_tell pm_Telling_tell an_Telling_tell cd_Telling_tell ct_Telling_tell), sl_Telling_tell⟩)
    (c_Telling_tell : PySem.W.codeIn K cd_Telling_tell "Telling.tell" = true)
    (k_Telling_tell : PySem.W.keepIn K (.ref f_Telling_tell) = true)
    (a_Telling_make : PySem.W.findIn K (.ref C_Telling) "make" = some (some (.ref f_Telling_make)))
    (i_Telling_make : PySem.W.isFn K (.ref f_Telling_make) = true)
    (l_Telling_make : K.lookup f_Telling_make = some ⟨oc_Telling_make, od_Telling_make, .func (PySem.W.fnOf "make" "Telling.make" (defArgs s_Telling_make) (defBody s_Telling_make) (defScope s_Telling_make) .none kV_Telling_make dc_Telling_make pm_Telling_make an_Telling_make cd_Telling_make ct_Telling_make), sl_Telling_make⟩)
    (c_Telling_make : PySem.W.codeIn K cd_Telling_make "Telling.make" = true)
    (k_Telling_make : PySem.W.keepIn K (.ref f_Telling_make) = true)
    (a_Telling_make_of : PySem.W.findIn K (.ref C_Telling) "make_of" = some (some (.ref f_Telling_make_of)))
    (i_Telling_make_of : PySem.W.isFn K (.ref f_Telling_make_of) = true)
    (l_Telling_make_of : K.lookup f_Telling_make_of = some ⟨oc_Telling_make_of, od_Telling_make_of, .func (PySem.W.fnOf "make_of" "Telling.make_of" (defArgs s_Telling_make_of) (defBody s_Telling_make_of) (defScope s_Telling_make_of) .none kV_Telling_make_of dc_Telling_make_of pm_Telling_make_of an_Telling_make_of cd_Telling_make_of ct_Telling_make_of), sl_Telling_make_of⟩)
    (c_Telling_make_of : PySem.W.codeIn K cd_Telling_make_of "Telling.make_of" = true)
    (k_Telling_make_of : PySem.W.keepIn K (.ref f_Telling_make_of) = true)
    (a_Telling_new_name : PySem.W.findIn K (.ref C_Telling) "new_name" = some (some (.ref f_Telling_new_name)))
    (i_Telling_new_name : PySem.W.isFn K (.ref f_Telling_new_name) = true)
    (l_Telling_new_name : K.lookup f_Telling_new_name = some ⟨oc_Telling_new_name, od_Telling_new_name, .func (PySem.W.fnOf "new_name" "Telling.new_name" (defArgs s_Telling_new_name) (defBody s_Telling_new_name) (defScope s_Telling_new_name) .none kV_Telling_new_name dc_Telling_new_name pm_Telling_new_name an_Telling_new_name cd_Telling_new_name ct_Telling_new_name), sl_Telling_new_name⟩)
    (c_Telling_new_name : PySem.W.codeIn K cd_Telling_new_name "Telling.new_name" = true)
    (k_Telling_new_name : PySem.W.keepIn K (.ref f_Telling_new_name) = true)
    (a_tell_num : PySem.W.nsIn K mainGlobals "tell_num" = some (some (.ref f_tell_num)))
    (l_tell_num : K.lookup f_tell_num = some ⟨oc_tell_num, od_tell_num, .func (PySem.W.fnOf "tell_num" "tell_num" (defArgs s_tell_num) (defBody s_tell_num) (defScope s_tell_num) .none kV_tell_num dc_tell_num pm_tell_num an_tell_num cd_tell_num ct_tell_num), sl_tell_num⟩)
    (c_tell_num : PySem.W.codeIn K cd_tell_num "tell_num" = true)
    (k_tell_num : PySem.W.keepIn K (.ref f_tell_num) = true)
    (a_tell_name : PySem.W.nsIn K mainGlobals "tell_name" = some (some (.ref f_tell_name)))
    (l_tell_name : K.lookup f_tell_name = some ⟨oc_tell_name, od_tell_name, .func (PySem.W.fnOf "tell_name" "tell_name" (defArgs s_tell_name) (defBody s_tell_name) (defScope s_tell_name) .none kV_tell_name dc_tell_name pm_tell_name an_tell_name cd_tell_name ct_tell_name), sl_tell_name⟩)
    (c_tell_name : PySem.W.codeIn K cd_tell_name "tell_name" = true)
    (k_tell_name : PySem.W.keepIn K (.ref f_tell_name) = true)
    (a_tell_two : PySem.W.nsIn K mainGlobals "tell_two" = some (some (.ref f_tell_two)))
    (l_tell_two : K.lookup f_tell_two = some ⟨oc_tell_two, od_tell_two, .func (PySem.W.fnOf "tell_two" "tell_two" (defArgs s_tell_two) (defBody s_tell_two) (defScope s_tell_two) .none kV_tell_two dc_tell_two pm_tell_two an_tell_two cd_tell_two ct_tell_two), sl_tell_two⟩)
    (c_tell_two : PySem.W.codeIn K cd_tell_two "tell_two" = true)
    (k_tell_two : PySem.W.keepIn K (.ref f_tell_two) = true)
    (a_reckon : PySem.W.nsIn K mainGlobals "reckon" = some (some (.ref f_reckon)))
    (l_reckon : K.lookup f_reckon = some ⟨oc_reckon, od_reckon, .func (PySem.W.fnOf "reckon" "reckon" (defArgs s_reckon) (defBody s_reckon) (defScope s_reckon) .none kV_reckon dc_reckon pm_reckon an_reckon cd_reckon ct_reckon), sl_reckon⟩)
    (c_reckon : PySem.W.codeIn K cd_reckon "reckon" = true)
    (k_reckon : PySem.W.keepIn K (.ref f_reckon) = true)
    (a_tell_when : PySem.W.nsIn K mainGlobals "tell_when" = some (some (.ref f_tell_when)))
    (l_tell_when : K.lookup f_tell_when = some ⟨oc_tell_when, od_tell_when, .func (PySem.W.fnOf "tell_when" "tell_when" (defArgs s_tell_when) (defBody s_tell_when) (defScope s_tell_when) .none kV_tell_when dc_tell_when pm_tell_when an_tell_when cd_tell_when ct_tell_when), sl_tell_when⟩)
    (c_tell_when : PySem.W.codeIn K cd_tell_when "tell_when" = true)
    (k_tell_when : PySem.W.keepIn K (.ref f_tell_when) = true)
    (a_choose : PySem.W.nsIn K mainGlobals "choose" = some (some (.ref f_choose)))
    (l_choose : K.lookup f_choose = some ⟨oc_choose, od_choose, .func (PySem.W.fnOf "choose" "choose" (defArgs s_choose) (defBody s_choose) (defScope s_choose) .none kV_choose dc_choose pm_choose an_choose cd_choose ct_choose), sl_choose⟩)
    (c_choose : PySem.W.codeIn K cd_choose "choose" = true)
    (k_choose : PySem.W.keepIn K (.ref f_choose) = true)
    (a_tell_let : PySem.W.nsIn K mainGlobals "tell_let" = some (some (.ref f_tell_let)))
    (l_tell_let : K.lookup f_tell_let = some ⟨oc_tell_let, od_tell_let, .func (PySem.W.fnOf "tell_let" "tell_let" (defArgs s_tell_let) (defBody s_tell_let) (defScope s_tell_let) .none kV_tell_let dc_tell_let pm_tell_let an_tell_let cd_tell_let ct_tell_let), sl_tell_let⟩)
    (c_tell_let : PySem.W.codeIn K cd_tell_let "tell_let" = true)
    (k_tell_let : PySem.W.keepIn K (.ref f_tell_let) = true)
    (a_go_on_with_b : PySem.W.nsIn K mainGlobals "go_on_with_b" = some (some (.ref f_go_on_with_b)))
    (l_go_on_with_b : K.lookup f_go_on_with_b = some ⟨oc_go_on_with_b, od_go_on_with_b, .func (PySem.W.fnOf "go_on_with_b" "go_on_with_b" (defArgs s_go_on_with_b) (defBody s_go_on_with_b) (defScope s_go_on_with_b) .none kV_go_on_with_b dc_go_on_with_b pm_go_on_with_b an_go_on_with_b cd_go_on_with_b ct_go_on_with_b), sl_go_on_with_b⟩)
    (c_go_on_with_b : PySem.W.codeIn K cd_go_on_with_b "go_on_with_b" = true)
    (k_go_on_with_b : PySem.W.keepIn K (.ref f_go_on_with_b) = true)
    (a_tell_turns : PySem.W.nsIn K mainGlobals "tell_turns" = some (some (.ref f_tell_turns)))
    (l_tell_turns : K.lookup f_tell_turns = some ⟨oc_tell_turns, od_tell_turns, .func (PySem.W.fnOf "tell_turns" "tell_turns" (defArgs s_tell_turns) (defBody s_tell_turns) (defScope s_tell_turns) .none kV_tell_turns dc_tell_turns pm_tell_turns an_tell_turns cd_tell_turns ct_tell_turns), sl_tell_turns⟩)
    (c_tell_turns : PySem.W.codeIn K cd_tell_turns "tell_turns" = true)
    (k_tell_turns : PySem.W.keepIn K (.ref f_tell_turns) = true)
    (a_turn : PySem.W.nsIn K mainGlobals "turn" = some (some (.ref f_turn)))
    (l_turn : K.lookup f_turn = some ⟨oc_turn, od_turn, .func (PySem.W.fnOf "turn" "turn" (defArgs s_turn) (defBody s_turn) (defScope s_turn) .none kV_turn dc_turn pm_turn an_turn cd_turn ct_turn), sl_turn⟩)
    (c_turn : PySem.W.codeIn K cd_turn "turn" = true)
    (k_turn : PySem.W.keepIn K (.ref f_turn) = true)
    (a_tell_def : PySem.W.nsIn K mainGlobals "tell_def" = some (some (.ref f_tell_def)))
    (l_tell_def : K.lookup f_tell_def = some ⟨oc_tell_def, od_tell_def, .func (PySem.W.fnOf "tell_def" "tell_def" (defArgs s_tell_def) (defBody s_tell_def) (defScope s_tell_def) .none kV_tell_def dc_tell_def pm_tell_def an_tell_def cd_tell_def ct_tell_def), sl_tell_def⟩)
    (c_tell_def : PySem.W.codeIn K cd_tell_def "tell_def" = true)
    (k_tell_def : PySem.W.keepIn K (.ref f_tell_def) = true)
    (a_tell_use : PySem.W.nsIn K mainGlobals "tell_use" = some (some (.ref f_tell_use)))
    (l_tell_use : K.lookup f_tell_use = some ⟨oc_tell_use, od_tell_use, .func (PySem.W.fnOf "tell_use" "tell_use" (defArgs s_tell_use) (defBody s_tell_use) (defScope s_tell_use) .none kV_tell_use dc_tell_use pm_tell_use an_tell_use cd_tell_use ct_tell_use), sl_tell_use⟩)
    (c_tell_use : PySem.W.codeIn K cd_tell_use "tell_use" = true)
    (k_tell_use : PySem.W.keepIn K (.ref f_tell_use) = true)
    (a_go_on_with_function : PySem.W.nsIn K mainGlobals "go_on_with_function" = some (some (.ref f_go_on_with_function)))
    (l_go_on_with_function : K.lookup f_go_on_with_function = some ⟨oc_go_on_with_function, od_go_on_with_function, .func (PySem.W.fnOf "go_on_with_function" "go_on_with_function" (defArgs s_go_on_with_function) (defBody s_go_on_with_function) (defScope s_go_on_with_function) .none kV_go_on_with_function dc_go_on_with_function pm_go_on_with_function an_go_on_with_function cd_go_on_with_function ct_go_on_with_function), sl_go_on_with_function⟩)
    (c_go_on_with_function : PySem.W.codeIn K cd_go_on_with_function "go_on_with_function" = true)
    (k_go_on_with_function : PySem.W.keepIn K (.ref f_go_on_with_function) = true)
    (a_tell_quote : PySem.W.nsIn K mainGlobals "tell_quote" = some (some (.ref f_tell_quote)))
    (l_tell_quote : K.lookup f_tell_quote = some ⟨oc_tell_quote, od_tell_quote, .func (PySem.W.fnOf "tell_quote" "tell_quote" (defArgs s_tell_quote) (defBody s_tell_quote) (defScope s_tell_quote) .none kV_tell_quote dc_tell_quote pm_tell_quote an_tell_quote cd_tell_quote ct_tell_quote), sl_tell_quote⟩)
    (c_tell_quote : PySem.W.codeIn K cd_tell_quote "tell_quote" = true)
    (k_tell_quote : PySem.W.keepIn K (.ref f_tell_quote) = true)
    (a_refuse_too_great : PySem.W.nsIn K mainGlobals "refuse_too_great" = some (some (.ref f_refuse_too_great)))
    (l_refuse_too_great : K.lookup f_refuse_too_great = some ⟨oc_refuse_too_great, od_refuse_too_great, .func (PySem.W.fnOf "refuse_too_great" "refuse_too_great" (defArgs s_refuse_too_great) (defBody s_refuse_too_great) (defScope s_refuse_too_great) .none kV_refuse_too_great dc_refuse_too_great pm_refuse_too_great an_refuse_too_great cd_refuse_too_great ct_refuse_too_great), sl_refuse_too_great⟩)
    (c_refuse_too_great : PySem.W.codeIn K cd_refuse_too_great "refuse_too_great" = true)
    (k_refuse_too_great : PySem.W.keepIn K (.ref f_refuse_too_great) = true)
    (a_tell_lift : PySem.W.nsIn K mainGlobals "tell_lift" = some (some (.ref f_tell_lift)))
    (l_tell_lift : K.lookup f_tell_lift = some ⟨oc_tell_lift, od_tell_lift, .func (PySem.W.fnOf "tell_lift" "tell_lift" (defArgs s_tell_lift) (defBody s_tell_lift) (defScope s_tell_lift) .none kV_tell_lift dc_tell_lift pm_tell_lift an_tell_lift cd_tell_lift ct_tell_lift), sl_tell_lift⟩)
    (c_tell_lift : PySem.W.codeIn K cd_tell_lift "tell_lift" = true)
    (k_tell_lift : PySem.W.keepIn K (.ref f_tell_lift) = true)
    (a_make_num : PySem.W.nsIn K mainGlobals "make_num" = some (some (.ref f_make_num)))
    (l_make_num : K.lookup f_make_num = some ⟨oc_make_num, od_make_num, .func (PySem.W.fnOf "make_num" "make_num" (defArgs s_make_num) (defBody s_make_num) (defScope s_make_num) .none kV_make_num dc_make_num pm_make_num an_make_num cd_make_num ct_make_num), sl_make_num⟩)
    (c_make_num : PySem.W.codeIn K cd_make_num "make_num" = true)
    (k_make_num : PySem.W.keepIn K (.ref f_make_num) = true)
    (a_tell_run : PySem.W.nsIn K mainGlobals "tell_run" = some (some (.ref f_tell_run)))
    (l_tell_run : K.lookup f_tell_run = some ⟨oc_tell_run, od_tell_run, .func (PySem.W.fnOf "tell_run" "tell_run" (defArgs s_tell_run) (defBody s_tell_run) (defScope s_tell_run) .none kV_tell_run dc_tell_run pm_tell_run an_tell_run cd_tell_run ct_tell_run), sl_tell_run⟩)
    (c_tell_run : PySem.W.codeIn K cd_tell_run "tell_run" = true)
    (k_tell_run : PySem.W.keepIn K (.ref f_tell_run) = true)
    (a_go_on_with_piece : PySem.W.nsIn K mainGlobals "go_on_with_piece" = some (some (.ref f_go_on_with_piece)))
    (l_go_on_with_piece : K.lookup f_go_on_with_piece = some ⟨oc_go_on_with_piece, od_go_on_with_piece, .func (PySem.W.fnOf "go_on_with_piece" "go_on_with_piece" (defArgs s_go_on_with_piece) (defBody s_go_on_with_piece) (defScope s_go_on_with_piece) .none kV_go_on_with_piece dc_go_on_with_piece pm_go_on_with_piece an_go_on_with_piece cd_go_on_with_piece ct_go_on_with_piece), sl_go_on_with_piece⟩)
    (c_go_on_with_piece : PySem.W.codeIn K cd_go_on_with_piece "go_on_with_piece" = true)
    (k_go_on_with_piece : PySem.W.keepIn K (.ref f_go_on_with_piece) = true)
    (a_make_same : PySem.W.nsIn K mainGlobals "make_same" = some (some (.ref f_make_same)))
    (l_make_same : K.lookup f_make_same = some ⟨oc_make_same, od_make_same, .func (PySem.W.fnOf "make_same" "make_same" (defArgs s_make_same) (defBody s_make_same) (defScope s_make_same) .none kV_make_same dc_make_same pm_make_same an_make_same cd_make_same ct_make_same), sl_make_same⟩)
    (c_make_same : PySem.W.codeIn K cd_make_same "make_same" = true)
    (k_make_same : PySem.W.keepIn K (.ref f_make_same) = true)
    (a_make_name : PySem.W.nsIn K mainGlobals "make_name" = some (some (.ref f_make_name)))
    (l_make_name : K.lookup f_make_name = some ⟨oc_make_name, od_make_name, .func (PySem.W.fnOf "make_name" "make_name" (defArgs s_make_name) (defBody s_make_name) (defScope s_make_name) .none kV_make_name dc_make_name pm_make_name an_make_name cd_make_name ct_make_name), sl_make_name⟩)
    (c_make_name : PySem.W.codeIn K cd_make_name "make_name" = true)
    (k_make_name : PySem.W.keepIn K (.ref f_make_name) = true)
    (a_make_plain : PySem.W.nsIn K mainGlobals "make_plain" = some (some (.ref f_make_plain)))
    (l_make_plain : K.lookup f_make_plain = some ⟨oc_make_plain, od_make_plain, .func (PySem.W.fnOf "make_plain" "make_plain" (defArgs s_make_plain) (defBody s_make_plain) (defScope s_make_plain) .none kV_make_plain dc_make_plain pm_make_plain an_make_plain cd_make_plain ct_make_plain), sl_make_plain⟩)
    (c_make_plain : PySem.W.codeIn K cd_make_plain "make_plain" = true)
    (k_make_plain : PySem.W.keepIn K (.ref f_make_plain) = true)
    (a_make_let : PySem.W.nsIn K mainGlobals "make_let" = some (some (.ref f_make_let)))
    (l_make_let : K.lookup f_make_let = some ⟨oc_make_let, od_make_let, .func (PySem.W.fnOf "make_let" "make_let" (defArgs s_make_let) (defBody s_make_let) (defScope s_make_let) .none kV_make_let dc_make_let pm_make_let an_make_let cd_make_let ct_make_let), sl_make_let⟩)
    (c_make_let : PySem.W.codeIn K cd_make_let "make_let" = true)
    (k_make_let : PySem.W.keepIn K (.ref f_make_let) = true)
    (a_make_turns : PySem.W.nsIn K mainGlobals "make_turns" = some (some (.ref f_make_turns)))
    (l_make_turns : K.lookup f_make_turns = some ⟨oc_make_turns, od_make_turns, .func (PySem.W.fnOf "make_turns" "make_turns" (defArgs s_make_turns) (defBody s_make_turns) (defScope s_make_turns) .none kV_make_turns dc_make_turns pm_make_turns an_make_turns cd_make_turns ct_make_turns), sl_make_turns⟩)
    (c_make_turns : PySem.W.codeIn K cd_make_turns "make_turns" = true)
    (k_make_turns : PySem.W.keepIn K (.ref f_make_turns) = true)
    (a_make_def : PySem.W.nsIn K mainGlobals "make_def" = some (some (.ref f_make_def)))
    (l_make_def : K.lookup f_make_def = some ⟨oc_make_def, od_make_def, .func (PySem.W.fnOf "make_def" "make_def" (defArgs s_make_def) (defBody s_make_def) (defScope s_make_def) .none kV_make_def dc_make_def pm_make_def an_make_def cd_make_def ct_make_def), sl_make_def⟩)
    (c_make_def : PySem.W.codeIn K cd_make_def "make_def" = true)
    (k_make_def : PySem.W.keepIn K (.ref f_make_def) = true)
    (a_make_use : PySem.W.nsIn K mainGlobals "make_use" = some (some (.ref f_make_use)))
    (l_make_use : K.lookup f_make_use = some ⟨oc_make_use, od_make_use, .func (PySem.W.fnOf "make_use" "make_use" (defArgs s_make_use) (defBody s_make_use) (defScope s_make_use) .none kV_make_use dc_make_use pm_make_use an_make_use cd_make_use ct_make_use), sl_make_use⟩)
    (c_make_use : PySem.W.codeIn K cd_make_use "make_use" = true)
    (k_make_use : PySem.W.keepIn K (.ref f_make_use) = true)
    (a_fill_hole : PySem.W.nsIn K mainGlobals "fill_hole" = some (some (.ref f_fill_hole)))
    (l_fill_hole : K.lookup f_fill_hole = some ⟨oc_fill_hole, od_fill_hole, .func (PySem.W.fnOf "fill_hole" "fill_hole" (defArgs s_fill_hole) (defBody s_fill_hole) (defScope s_fill_hole) .none kV_fill_hole dc_fill_hole pm_fill_hole an_fill_hole cd_fill_hole ct_fill_hole), sl_fill_hole⟩)
    (c_fill_hole : PySem.W.codeIn K cd_fill_hole "fill_hole" = true)
    (k_fill_hole : PySem.W.keepIn K (.ref f_fill_hole) = true)
    (a_put_together : PySem.W.nsIn K mainGlobals "put_together" = some (some (.ref f_put_together)))
    (l_put_together : K.lookup f_put_together = some ⟨oc_put_together, od_put_together, .func (PySem.W.fnOf "put_together" "put_together" (defArgs s_put_together) (defBody s_put_together) (defScope s_put_together) .none kV_put_together dc_put_together pm_put_together an_put_together cd_put_together ct_put_together), sl_put_together⟩)
    (c_put_together : PySem.W.codeIn K cd_put_together "put_together" = true)
    (k_put_together : PySem.W.keepIn K (.ref f_put_together) = true)
    (a_law_cell_at : PySem.W.nsIn K mainGlobals "_law_cell_at" = some (some (.ref f_law_cell_at)))
    (l_law_cell_at : K.lookup f_law_cell_at = some ⟨oc_law_cell_at, od_law_cell_at, .func (PySem.W.fnOf "_law_cell_at" "_law_cell_at" (defArgs s_cell_at) (defBody s_cell_at) (defScope s_cell_at) .none kV_law_cell_at dc_law_cell_at pm_law_cell_at an_law_cell_at cd_law_cell_at ct_law_cell_at), sl_law_cell_at⟩)
    (c_law_cell_at : PySem.W.codeIn K cd_law_cell_at "_law_cell_at" = true)
    (k_law_cell_at : PySem.W.keepIn K (.ref f_law_cell_at) = true)
    (a_law_mixed : PySem.W.nsIn K mainGlobals "_law_mixed" = some (some (.ref f_law_mixed)))
    (l_law_mixed : K.lookup f_law_mixed = some ⟨oc_law_mixed, od_law_mixed, .func (PySem.W.fnOf "_law_mixed" "_law_mixed" (defArgs s_mixed) (defBody s_mixed) (defScope s_mixed) .none kV_law_mixed dc_law_mixed pm_law_mixed an_law_mixed cd_law_mixed ct_law_mixed), sl_law_mixed⟩)
    (c_law_mixed : PySem.W.codeIn K cd_law_mixed "_law_mixed" = true)
    (k_law_mixed : PySem.W.keepIn K (.ref f_law_mixed) = true)
    (a_law_drawn : PySem.W.nsIn K mainGlobals "_law_drawn" = some (some (.ref f_law_drawn)))
    (l_law_drawn : K.lookup f_law_drawn = some ⟨oc_law_drawn, od_law_drawn, .func (PySem.W.fnOf "_law_drawn" "_law_drawn" (defArgs s_drawn) (defBody s_drawn) (defScope s_drawn) .none kV_law_drawn dc_law_drawn pm_law_drawn an_law_drawn cd_law_drawn ct_law_drawn), sl_law_drawn⟩)
    (c_law_drawn : PySem.W.codeIn K cd_law_drawn "_law_drawn" = true)
    (k_law_drawn : PySem.W.keepIn K (.ref f_law_drawn) = true)
    (a_law_name : PySem.W.nsIn K mainGlobals "_law_name" = some (some (.ref f_law_name)))
    (l_law_name : K.lookup f_law_name = some ⟨oc_law_name, od_law_name, .func (PySem.W.fnOf "_law_name" "_law_name" (defArgs s_name) (defBody s_name) (defScope s_name) .none kV_law_name dc_law_name pm_law_name an_law_name cd_law_name ct_law_name), sl_law_name⟩)
    (c_law_name : PySem.W.codeIn K cd_law_name "_law_name" = true)
    (k_law_name : PySem.W.keepIn K (.ref f_law_name) = true)
    (a_law_wide : PySem.W.nsIn K mainGlobals "_law_wide" = some (some (.ref f_law_wide)))
    (l_law_wide : K.lookup f_law_wide = some ⟨oc_law_wide, od_law_wide, .func (PySem.W.fnOf "_law_wide" "_law_wide" (defArgs s_wide) (defBody s_wide) (defScope s_wide) .none kV_law_wide dc_law_wide pm_law_wide an_law_wide cd_law_wide ct_law_wide), sl_law_wide⟩)
    (c_law_wide : PySem.W.codeIn K cd_law_wide "_law_wide" = true)
    (k_law_wide : PySem.W.keepIn K (.ref f_law_wide) = true)
    (a_law_great : PySem.W.nsIn K mainGlobals "_law_great" = some (some (.ref f_law_great)))
    (l_law_great : K.lookup f_law_great = some ⟨oc_law_great, od_law_great, .func (PySem.W.fnOf "_law_great" "_law_great" (defArgs s_great) (defBody s_great) (defScope s_great) .none kV_law_great dc_law_great pm_law_great an_law_great cd_law_great ct_law_great), sl_law_great⟩)
    (c_law_great : PySem.W.codeIn K cd_law_great "_law_great" = true)
    (k_law_great : PySem.W.keepIn K (.ref f_law_great) = true)
    (a_law_step : PySem.W.nsIn K mainGlobals "_law_step" = some (some (.ref f_law_step)))
    (l_law_step : K.lookup f_law_step = some ⟨oc_law_step, od_law_step, .func (PySem.W.fnOf "_law_step" "_law_step" (defArgs s_step) (defBody s_step) (defScope s_step) .none kV_law_step dc_law_step pm_law_step an_law_step cd_law_step ct_law_step), sl_law_step⟩)
    (c_law_step : PySem.W.codeIn K cd_law_step "_law_step" = true)
    (k_law_step : PySem.W.keepIn K (.ref f_law_step) = true)
    (a_law_deep : PySem.W.nsIn K mainGlobals "_law_deep" = some (some (.ref f_law_deep)))
    (l_law_deep : K.lookup f_law_deep = some ⟨oc_law_deep, od_law_deep, .func (PySem.W.fnOf "_law_deep" "_law_deep" (defArgs s_deep) (defBody s_deep) (defScope s_deep) .none kV_law_deep dc_law_deep pm_law_deep an_law_deep cd_law_deep ct_law_deep), sl_law_deep⟩)
    (c_law_deep : PySem.W.codeIn K cd_law_deep "_law_deep" = true)
    (k_law_deep : PySem.W.keepIn K (.ref f_law_deep) = true)
    (a_law_refused : PySem.W.nsIn K mainGlobals "_law_refused" = some (some (.ref f_law_refused)))
    (l_law_refused : K.lookup f_law_refused = some ⟨oc_law_refused, od_law_refused, .func (PySem.W.fnOf "_law_refused" "_law_refused" (defArgs s_refused) (defBody s_refused) (defScope s_refused) .none kV_law_refused dc_law_refused pm_law_refused an_law_refused cd_law_refused ct_law_refused), sl_law_refused⟩)
    (c_law_refused : PySem.W.codeIn K cd_law_refused "_law_refused" = true)
    (k_law_refused : PySem.W.keepIn K (.ref f_law_refused) = true)
    (a_law_wrong_kind : PySem.W.nsIn K mainGlobals "_law_wrong_kind" = some (some (.ref f_law_wrong_kind)))
    (l_law_wrong_kind : K.lookup f_law_wrong_kind = some ⟨oc_law_wrong_kind, od_law_wrong_kind, .func (PySem.W.fnOf "_law_wrong_kind" "_law_wrong_kind" (defArgs s_wrong_kind) (defBody s_wrong_kind) (defScope s_wrong_kind) .none kV_law_wrong_kind dc_law_wrong_kind pm_law_wrong_kind an_law_wrong_kind cd_law_wrong_kind ct_law_wrong_kind), sl_law_wrong_kind⟩)
    (c_law_wrong_kind : PySem.W.codeIn K cd_law_wrong_kind "_law_wrong_kind" = true)
    (k_law_wrong_kind : PySem.W.keepIn K (.ref f_law_wrong_kind) = true)
    (a_law_done : PySem.W.nsIn K mainGlobals "_law_done" = some (some (.ref f_law_done)))
    (l_law_done : K.lookup f_law_done = some ⟨oc_law_done, od_law_done, .func (PySem.W.fnOf "_law_done" "_law_done" (defArgs s_done) (defBody s_done) (defScope s_done) .none kV_law_done dc_law_done pm_law_done an_law_done cd_law_done ct_law_done), sl_law_done⟩)
    (c_law_done : PySem.W.codeIn K cd_law_done "_law_done" = true)
    (k_law_done : PySem.W.keepIn K (.ref f_law_done) = true)
    (a_law : PySem.W.nsIn K mainGlobals "law" = some (some (.ref f_law)))
    (l_law : K.lookup f_law = some ⟨oc_law, od_law, .func (PySem.W.fnOf "law" "law" (defArgs s_law) (defBody s_law) (defScope s_law) .none kV_law dc_law pm_law an_law cd_law ct_law), sl_law⟩)
    (c_law : PySem.W.codeIn K cd_law "law" = true)
    (k_law : PySem.W.keepIn K (.ref f_law) = true)
    (z_ValueError : PySem.W.nsIn K mainGlobals "ValueError" = some none)
    (z_int : PySem.W.nsIn K mainGlobals "int" = some none)
    (z_isinstance : PySem.W.nsIn K mainGlobals "isinstance" = some none)
    (z_len : PySem.W.nsIn K mainGlobals "len" = some none)
    (z_list : PySem.W.nsIn K mainGlobals "list" = some none)
    (z_max : PySem.W.nsIn K mainGlobals "max" = some none)
    (z_min : PySem.W.nsIn K mainGlobals "min" = some none)
    (z_range : PySem.W.nsIn K mainGlobals "range" = some none)
    (z_reversed : PySem.W.nsIn K mainGlobals "reversed" = some none)
    (z_sum : PySem.W.nsIn K mainGlobals "sum" = some none)
    (z_tuple : PySem.W.nsIn K mainGlobals "tuple" = some none)
    (z_zip : PySem.W.nsIn K mainGlobals "zip" = some none)
    (gi_RECKONED_BY : PySem.W.nsIn K mainGlobals "RECKONED_BY" = some (some (.int 1000003 tk_RECKONED_BY)))
    (gi_MOST_TERMS : PySem.W.nsIn K mainGlobals "MOST_TERMS" = some (some (.int 2000 tk_MOST_TERMS)))
    (gi_DEEPEST : PySem.W.nsIn K mainGlobals "DEEPEST" = some (some (.int 30 tk_DEEPEST)))
    (aD_PARTS_AT : PySem.W.nsIn K mainGlobals "PARTS_AT" = some (some (.ref D_PARTS_AT)))
    (lD_PARTS_AT : K.lookup D_PARTS_AT = some ⟨.type "dict", none, .dict eD_PARTS_AT nD_PARTS_AT, #[]⟩)
    (kD_PARTS_AT : PySem.W.KeysLit w.params eD_PARTS_AT.toList)
    (d_PARTS_AT_num : PySem.W.nsIn K D_PARTS_AT "num" = some (some (.int 2 t_PARTS_AT_num)))
    (d_PARTS_AT_name : PySem.W.nsIn K D_PARTS_AT "name" = some (some (.int 2 t_PARTS_AT_name)))
    (d_PARTS_AT_sum : PySem.W.nsIn K D_PARTS_AT "sum" = some (some (.int 1 t_PARTS_AT_sum)))
    (d_PARTS_AT_product : PySem.W.nsIn K D_PARTS_AT "product" = some (some (.int 1 t_PARTS_AT_product)))
    (d_PARTS_AT_less : PySem.W.nsIn K D_PARTS_AT "less" = some (some (.int 1 t_PARTS_AT_less)))
    (d_PARTS_AT_when : PySem.W.nsIn K D_PARTS_AT "when" = some (some (.int 1 t_PARTS_AT_when)))
    (d_PARTS_AT_let : PySem.W.nsIn K D_PARTS_AT "let" = some (some (.int 2 t_PARTS_AT_let)))
    (d_PARTS_AT_turns : PySem.W.nsIn K D_PARTS_AT "turns" = some (some (.int 3 t_PARTS_AT_turns)))
    (d_PARTS_AT_def : PySem.W.nsIn K D_PARTS_AT "def" = some (some (.int 4 t_PARTS_AT_def)))
    (d_PARTS_AT_use : PySem.W.nsIn K D_PARTS_AT "use" = some (some (.int 2 t_PARTS_AT_use)))
    (d_PARTS_AT_quote : PySem.W.nsIn K D_PARTS_AT "quote" = some (some (.int 1 t_PARTS_AT_quote)))
    (d_PARTS_AT_hole : PySem.W.nsIn K D_PARTS_AT "hole" = some (some (.int 1 t_PARTS_AT_hole)))
    (d_PARTS_AT_lift : PySem.W.nsIn K D_PARTS_AT "lift" = some (some (.int 1 t_PARTS_AT_lift)))
    (d_PARTS_AT_run : PySem.W.nsIn K D_PARTS_AT "run" = some (some (.int 1 t_PARTS_AT_run)))
    (aD_LEVEL_OF : PySem.W.nsIn K mainGlobals "LEVEL_OF" = some (some (.ref D_LEVEL_OF)))
    (lD_LEVEL_OF : K.lookup D_LEVEL_OF = some ⟨.type "dict", none, .dict eD_LEVEL_OF nD_LEVEL_OF, #[]⟩)
    (kD_LEVEL_OF : PySem.W.KeysLit w.params eD_LEVEL_OF.toList)
    (sy_LEVEL_OF : (D_LEVEL_OF == sysModules) = false)
    (n_LEVEL_OF_num : PySem.W.nsIn K D_LEVEL_OF "num" = some none)
    (n_LEVEL_OF_name : PySem.W.nsIn K D_LEVEL_OF "name" = some none)
    (n_LEVEL_OF_sum : PySem.W.nsIn K D_LEVEL_OF "sum" = some none)
    (n_LEVEL_OF_product : PySem.W.nsIn K D_LEVEL_OF "product" = some none)
    (n_LEVEL_OF_less : PySem.W.nsIn K D_LEVEL_OF "less" = some none)
    (n_LEVEL_OF_when : PySem.W.nsIn K D_LEVEL_OF "when" = some none)
    (n_LEVEL_OF_let : PySem.W.nsIn K D_LEVEL_OF "let" = some none)
    (n_LEVEL_OF_turns : PySem.W.nsIn K D_LEVEL_OF "turns" = some none)
    (n_LEVEL_OF_def : PySem.W.nsIn K D_LEVEL_OF "def" = some none)
    (n_LEVEL_OF_use : PySem.W.nsIn K D_LEVEL_OF "use" = some none)
    (d_LEVEL_OF_quote : PySem.W.nsIn K D_LEVEL_OF "quote" = some (some (.int 0 t_LEVEL_OF_quote)))
    (d_LEVEL_OF_hole : PySem.W.nsIn K D_LEVEL_OF "hole" = some (some (.int 1 t_LEVEL_OF_hole)))
    (d_LEVEL_OF_lift : PySem.W.nsIn K D_LEVEL_OF "lift" = some (some (.int 0 t_LEVEL_OF_lift)))
    (d_LEVEL_OF_run : PySem.W.nsIn K D_LEVEL_OF "run" = some (some (.int 0 t_LEVEL_OF_run)))
    (aD_LOOKS : PySem.W.nsIn K mainGlobals "LOOKS" = some (some (.ref D_LOOKS)))
    (lD_LOOKS : K.lookup D_LOOKS = some ⟨.type "dict", none, .dict eD_LOOKS nD_LOOKS, #[]⟩)
    (kD_LOOKS : PySem.W.KeysLit w.params eD_LOOKS.toList)
    (d_LOOKS_num : PySem.W.nsIn K D_LOOKS "num" = some (some (.ref f_look_at_num)))
    (d_LOOKS_name : PySem.W.nsIn K D_LOOKS "name" = some (some (.ref f_look_at_name)))
    (d_LOOKS_sum : PySem.W.nsIn K D_LOOKS "sum" = some (some (.ref f_look_at_numbers)))
    (d_LOOKS_product : PySem.W.nsIn K D_LOOKS "product" = some (some (.ref f_look_at_numbers)))
    (d_LOOKS_less : PySem.W.nsIn K D_LOOKS "less" = some (some (.ref f_look_at_numbers)))
    (d_LOOKS_when : PySem.W.nsIn K D_LOOKS "when" = some (some (.ref f_look_at_when)))
    (d_LOOKS_let : PySem.W.nsIn K D_LOOKS "let" = some (some (.ref f_look_at_let)))
    (d_LOOKS_turns : PySem.W.nsIn K D_LOOKS "turns" = some (some (.ref f_look_at_turns)))
    (d_LOOKS_def : PySem.W.nsIn K D_LOOKS "def" = some (some (.ref f_look_at_def)))
    (d_LOOKS_use : PySem.W.nsIn K D_LOOKS "use" = some (some (.ref f_look_at_use)))
    (d_LOOKS_quote : PySem.W.nsIn K D_LOOKS "quote" = some (some (.ref f_look_at_quote)))
    (d_LOOKS_hole : PySem.W.nsIn K D_LOOKS "hole" = some (some (.ref f_look_at_hole)))
    (d_LOOKS_lift : PySem.W.nsIn K D_LOOKS "lift" = some (some (.ref f_look_at_lift)))
    (d_LOOKS_run : PySem.W.nsIn K D_LOOKS "run" = some (some (.ref f_look_at_run)))
    (aD_TELLERS : PySem.W.nsIn K mainGlobals "TELLERS" = some (some (.ref D_TELLERS)))
    (lD_TELLERS : K.lookup D_TELLERS = some ⟨.type "dict", none, .dict eD_TELLERS nD_TELLERS, #[]⟩)
    (kD_TELLERS : PySem.W.KeysLit w.params eD_TELLERS.toList)
    (d_TELLERS_num : PySem.W.nsIn K D_TELLERS "num" = some (some (.ref f_tell_num)))
    (d_TELLERS_name : PySem.W.nsIn K D_TELLERS "name" = some (some (.ref f_tell_name)))
    (d_TELLERS_sum : PySem.W.nsIn K D_TELLERS "sum" = some (some (.ref f_tell_two)))
    (d_TELLERS_product : PySem.W.nsIn K D_TELLERS "product" = some (some (.ref f_tell_two)))
    (d_TELLERS_less : PySem.W.nsIn K D_TELLERS "less" = some (some (.ref f_tell_two)))
    (d_TELLERS_when : PySem.W.nsIn K D_TELLERS "when" = some (some (.ref f_tell_when)))
    (d_TELLERS_let : PySem.W.nsIn K D_TELLERS "let" = some (some (.ref f_tell_let)))
    (d_TELLERS_turns : PySem.W.nsIn K D_TELLERS "turns" = some (some (.ref f_tell_turns)))
    (d_TELLERS_def : PySem.W.nsIn K D_TELLERS "def" = some (some (.ref f_tell_def)))
    (d_TELLERS_use : PySem.W.nsIn K D_TELLERS "use" = some (some (.ref f_tell_use)))
    (d_TELLERS_quote : PySem.W.nsIn K D_TELLERS "quote" = some (some (.ref f_tell_quote)))
    (d_TELLERS_lift : PySem.W.nsIn K D_TELLERS "lift" = some (some (.ref f_tell_lift)))
    (d_TELLERS_run : PySem.W.nsIn K D_TELLERS "run" = some (some (.ref f_tell_run)))
    (aD_MAKERS : PySem.W.nsIn K mainGlobals "MAKERS" = some (some (.ref D_MAKERS)))
    (lD_MAKERS : K.lookup D_MAKERS = some ⟨.type "dict", none, .dict eD_MAKERS nD_MAKERS, #[]⟩)
    (kD_MAKERS : PySem.W.KeysLit w.params eD_MAKERS.toList)
    (d_MAKERS_num : PySem.W.nsIn K D_MAKERS "num" = some (some (.ref f_make_same)))
    (d_MAKERS_name : PySem.W.nsIn K D_MAKERS "name" = some (some (.ref f_make_name)))
    (d_MAKERS_sum : PySem.W.nsIn K D_MAKERS "sum" = some (some (.ref f_make_plain)))
    (d_MAKERS_product : PySem.W.nsIn K D_MAKERS "product" = some (some (.ref f_make_plain)))
    (d_MAKERS_less : PySem.W.nsIn K D_MAKERS "less" = some (some (.ref f_make_plain)))
    (d_MAKERS_when : PySem.W.nsIn K D_MAKERS "when" = some (some (.ref f_make_plain)))
    (d_MAKERS_let : PySem.W.nsIn K D_MAKERS "let" = some (some (.ref f_make_let)))
    (d_MAKERS_turns : PySem.W.nsIn K D_MAKERS "turns" = some (some (.ref f_make_turns)))
    (d_MAKERS_def : PySem.W.nsIn K D_MAKERS "def" = some (some (.ref f_make_def)))
    (d_MAKERS_use : PySem.W.nsIn K D_MAKERS "use" = some (some (.ref f_make_use)))
    (d_MAKERS_hole : PySem.W.nsIn K D_MAKERS "hole" = some (some (.ref f_fill_hole))) :
    ∃ fd : FuncData, (∀ (s : Shared) (v : Value), BindsTo s fd ⟨[v], []⟩ [("_law_script", v)]) ∧ ∀ base : Heap, K.In base → base.Ns mainGlobals mg → FnOk l.prog w K mg base CX0 168 fa fd ["_law_script"] (spLaw K) := by
  have e := hfa.symm.trans (PySem.W.mg_of X G a_law)
  cases e
  have mC_HallError := PySem.W.mg_of X G aC_HallError
  have X_HallError : XcT K mg "HallError" C_HallError := ⟨ex_HallError, mC_HallError, ke_HallError, be_HallError, te_HallError⟩
  have mC_NoName := PySem.W.mg_of X G aC_NoName
  have X_NoName : XcT K mg "NoName" C_NoName := ⟨ex_NoName, mC_NoName, ke_NoName, be_NoName, te_NoName⟩
  have mC_WrongLevel := PySem.W.mg_of X G aC_WrongLevel
  have X_WrongLevel : XcT K mg "WrongLevel" C_WrongLevel := ⟨ex_WrongLevel, mC_WrongLevel, ke_WrongLevel, be_WrongLevel, te_WrongLevel⟩
  have mC_WrongKind := PySem.W.mg_of X G aC_WrongKind
  have X_WrongKind : XcT K mg "WrongKind" C_WrongKind := ⟨ex_WrongKind, mC_WrongKind, ke_WrongKind, be_WrongKind, te_WrongKind⟩
  have mC_TooGreat := PySem.W.mg_of X G aC_TooGreat
  have X_TooGreat : XcT K mg "TooGreat" C_TooGreat := ⟨ex_TooGreat, mC_TooGreat, ke_TooGreat, be_TooGreat, te_TooGreat⟩
  have cl_TermTable : Cls K C_TermTable := ⟨pg_TermTable, hd_TermTable, po_TermTable, sa_TermTable⟩
  have mC_TermTable := PySem.W.mg_of X G aC_TermTable
  have cl_Around : Cls K C_Around := ⟨pg_Around, hd_Around, po_Around, sa_Around⟩
  have mC_Around := PySem.W.mg_of X G aC_Around
  have cl_Kinds : Cls K C_Kinds := ⟨pg_Kinds, hd_Kinds, po_Kinds, sa_Kinds⟩
  have mC_Kinds := PySem.W.mg_of X G aC_Kinds
  have cl_Piece : Cls K C_Piece := ⟨pg_Piece, hd_Piece, po_Piece, sa_Piece⟩
  have mC_Piece := PySem.W.mg_of X G aC_Piece
  have cl_Telling : Cls K C_Telling := ⟨pg_Telling, hd_Telling, po_Telling, sa_Telling⟩
  have mC_Telling := PySem.W.mg_of X G aC_Telling
  have FM : Fam K C_HallError (XA C_NoName C_WrongLevel C_WrongKind C_TooGreat) := by
    refine ⟨fun x => ?_, fun x y => ?_, fun x => ?_, fun x => ?_, fun x y => ?_⟩
    · cases x
      · exact ⟨eg_NoName, ek_NoName, be_NoName, ed_NoName, ea_NoName, en_obj, et_obj, em_NoName⟩
      · exact ⟨eg_WrongLevel, ek_WrongLevel, be_WrongLevel, ed_WrongLevel, ea_WrongLevel, en_obj, et_obj, em_WrongLevel⟩
      · exact ⟨eg_WrongKind, ek_WrongKind, be_WrongKind, ed_WrongKind, ea_WrongKind, en_obj, et_obj, em_WrongKind⟩
      · exact ⟨eg_TooGreat, ek_TooGreat, be_TooGreat, ed_TooGreat, ea_TooGreat, en_obj, et_obj, em_TooGreat⟩
    · cases x <;> cases y
      · exact kit_own (D := C_NoName) (C := C_NoName) (b := true) ed_NoName te_NoName su_NoName_NoName (fun e => rfl)
      · exact kit_own (D := C_NoName) (C := C_WrongLevel) (b := false) ed_WrongLevel te_WrongLevel su_NoName_WrongLevel (fun e => by have z := su_NoName_WrongLevel; rw [e, su_WrongLevel_WrongLevel] at z; cases z)
      · exact kit_own (D := C_NoName) (C := C_WrongKind) (b := false) ed_WrongKind te_WrongKind su_NoName_WrongKind (fun e => by have z := su_NoName_WrongKind; rw [e, su_WrongKind_WrongKind] at z; cases z)
      · exact kit_own (D := C_NoName) (C := C_TooGreat) (b := false) ed_TooGreat te_TooGreat su_NoName_TooGreat (fun e => by have z := su_NoName_TooGreat; rw [e, su_TooGreat_TooGreat] at z; cases z)
      · exact kit_own (D := C_WrongLevel) (C := C_NoName) (b := false) ed_NoName te_NoName su_WrongLevel_NoName (fun e => by have z := su_WrongLevel_NoName; rw [e, su_NoName_NoName] at z; cases z)
      · exact kit_own (D := C_WrongLevel) (C := C_WrongLevel) (b := true) ed_WrongLevel te_WrongLevel su_WrongLevel_WrongLevel (fun e => rfl)
      · exact kit_own (D := C_WrongLevel) (C := C_WrongKind) (b := false) ed_WrongKind te_WrongKind su_WrongLevel_WrongKind (fun e => by have z := su_WrongLevel_WrongKind; rw [e, su_WrongKind_WrongKind] at z; cases z)
      · exact kit_own (D := C_WrongLevel) (C := C_TooGreat) (b := false) ed_TooGreat te_TooGreat su_WrongLevel_TooGreat (fun e => by have z := su_WrongLevel_TooGreat; rw [e, su_TooGreat_TooGreat] at z; cases z)
      · exact kit_own (D := C_WrongKind) (C := C_NoName) (b := false) ed_NoName te_NoName su_WrongKind_NoName (fun e => by have z := su_WrongKind_NoName; rw [e, su_NoName_NoName] at z; cases z)
      · exact kit_own (D := C_WrongKind) (C := C_WrongLevel) (b := false) ed_WrongLevel te_WrongLevel su_WrongKind_WrongLevel (fun e => by have z := su_WrongKind_WrongLevel; rw [e, su_WrongLevel_WrongLevel] at z; cases z)
      · exact kit_own (D := C_WrongKind) (C := C_WrongKind) (b := true) ed_WrongKind te_WrongKind su_WrongKind_WrongKind (fun e => rfl)
      · exact kit_own (D := C_WrongKind) (C := C_TooGreat) (b := false) ed_TooGreat te_TooGreat su_WrongKind_TooGreat (fun e => by have z := su_WrongKind_TooGreat; rw [e, su_TooGreat_TooGreat] at z; cases z)
      · exact kit_own (D := C_TooGreat) (C := C_NoName) (b := false) ed_NoName te_NoName su_TooGreat_NoName (fun e => by have z := su_TooGreat_NoName; rw [e, su_NoName_NoName] at z; cases z)
      · exact kit_own (D := C_TooGreat) (C := C_WrongLevel) (b := false) ed_WrongLevel te_WrongLevel su_TooGreat_WrongLevel (fun e => by have z := su_TooGreat_WrongLevel; rw [e, su_WrongLevel_WrongLevel] at z; cases z)
      · exact kit_own (D := C_TooGreat) (C := C_WrongKind) (b := false) ed_WrongKind te_WrongKind su_TooGreat_WrongKind (fun e => by have z := su_TooGreat_WrongKind; rw [e, su_WrongKind_WrongKind] at z; cases z)
      · exact kit_own (D := C_TooGreat) (C := C_TooGreat) (b := true) ed_TooGreat te_TooGreat su_TooGreat_TooGreat (fun e => rfl)
    · cases x
      · exact kit_val sv_NoName
      · exact kit_val sv_WrongLevel
      · exact kit_val sv_WrongKind
      · exact kit_val sv_TooGreat
    · cases x
      · exact PySem.W.exm_ref be_HallError ed_HallError te_HallError sh_NoName
      · exact PySem.W.exm_ref be_HallError ed_HallError te_HallError sh_WrongLevel
      · exact PySem.W.exm_ref be_HallError ed_HallError te_HallError sh_WrongKind
      · exact PySem.W.exm_ref be_HallError ed_HallError te_HallError sh_TooGreat
    · cases x <;> cases y
      · exact PySem.W.exm_ref be_NoName ed_NoName te_NoName su_NoName_NoName
      · exact PySem.W.exm_ref be_WrongLevel ed_WrongLevel te_WrongLevel su_NoName_WrongLevel
      · exact PySem.W.exm_ref be_WrongKind ed_WrongKind te_WrongKind su_NoName_WrongKind
      · exact PySem.W.exm_ref be_TooGreat ed_TooGreat te_TooGreat su_NoName_TooGreat
      · exact PySem.W.exm_ref be_NoName ed_NoName te_NoName su_WrongLevel_NoName
      · exact PySem.W.exm_ref be_WrongLevel ed_WrongLevel te_WrongLevel su_WrongLevel_WrongLevel
      · exact PySem.W.exm_ref be_WrongKind ed_WrongKind te_WrongKind su_WrongLevel_WrongKind
      · exact PySem.W.exm_ref be_TooGreat ed_TooGreat te_TooGreat su_WrongLevel_TooGreat
      · exact PySem.W.exm_ref be_NoName ed_NoName te_NoName su_WrongKind_NoName
      · exact PySem.W.exm_ref be_WrongLevel ed_WrongLevel te_WrongLevel su_WrongKind_WrongLevel
      · exact PySem.W.exm_ref be_WrongKind ed_WrongKind te_WrongKind su_WrongKind_WrongKind
      · exact PySem.W.exm_ref be_TooGreat ed_TooGreat te_TooGreat su_WrongKind_TooGreat
      · exact PySem.W.exm_ref be_NoName ed_NoName te_NoName su_TooGreat_NoName
      · exact PySem.W.exm_ref be_WrongLevel ed_WrongLevel te_WrongLevel su_TooGreat_WrongLevel
      · exact PySem.W.exm_ref be_WrongKind ed_WrongKind te_WrongKind su_TooGreat_WrongKind
      · exact PySem.W.exm_ref be_TooGreat ed_TooGreat te_TooGreat su_TooGreat_TooGreat
  have F_size_of := fun_mk (st := s_size_of) l_size_of c_size_of k_size_of
  have b_size_of := F_size_of.binds (ps := ["term"]) fun _ _ _ _ _ _ us hl => match us, hl with | [_], _ => rfl
  have m_size_of := PySem.W.mg_of X G a_size_of
  have F_depth_of := fun_mk (st := s_depth_of) l_depth_of c_depth_of k_depth_of
  have b_depth_of := F_depth_of.binds (ps := ["term"]) fun _ _ _ _ _ _ us hl => match us, hl with | [_], _ => rfl
  have m_depth_of := PySem.W.mg_of X G a_depth_of
  have F_loose_in_rows := fun_mk (st := s_loose_in_rows) l_loose_in_rows c_loose_in_rows k_loose_in_rows
  have b_loose_in_rows := F_loose_in_rows.binds (ps := ["rows"]) fun _ _ _ _ _ _ us hl => match us, hl with | [_], _ => rfl
  have m_loose_in_rows := PySem.W.mg_of X G a_loose_in_rows
  have F_loose_names := fun_mk (st := s_loose_names) l_loose_names c_loose_names k_loose_names
  have b_loose_names := F_loose_names.binds (ps := ["head", "loose_in_parts"]) fun _ _ _ _ _ _ us hl => match us, hl with | [_, _], _ => rfl
  have m_loose_names := PySem.W.mg_of X G a_loose_names
  have F_bound_in_parts := fun_mk (st := s_bound_in_parts) l_bound_in_parts c_bound_in_parts k_bound_in_parts
  have b_bound_in_parts := F_bound_in_parts.binds (ps := ["head", "many"]) fun _ _ _ _ _ _ us hl => match us, hl with | [_, _], _ => rfl
  have m_bound_in_parts := PySem.W.mg_of X G a_bound_in_parts
  have F_head_of := fun_mk (st := s_head_of) l_head_of c_head_of k_head_of
  have b_head_of := F_head_of.binds (ps := ["term"]) fun _ _ _ _ _ _ us hl => match us, hl with | [_], _ => rfl
  have m_head_of := PySem.W.mg_of X G a_head_of
  have F_parts_of := fun_mk (st := s_parts_of) l_parts_of c_parts_of k_parts_of
  have b_parts_of := F_parts_of.binds (ps := ["term"]) fun _ _ _ _ _ _ us hl => match us, hl with | [_], _ => rfl
  have m_parts_of := PySem.W.mg_of X G a_parts_of
  have F_rows_of := fun_mk (st := s_rows_of) l_rows_of c_rows_of k_rows_of
  have b_rows_of := F_rows_of.binds (ps := ["term"]) fun _ _ _ _ _ _ us hl => match us, hl with | [_], _ => rfl
  have m_rows_of := PySem.W.mg_of X G a_rows_of
  have F_TermTable_init := fun_mk (st := s_TermTable_init) l_TermTable_init c_TermTable_init k_TermTable_init
  have b_TermTable_init := F_TermTable_init.binds (ps := ["self"]) fun _ _ _ _ _ _ us hl => match us, hl with | [_], _ => rfl
  have F_TermTable_place_of := fun_mk (st := s_TermTable_place_of) l_TermTable_place_of c_TermTable_place_of k_TermTable_place_of
  have b_TermTable_place_of := F_TermTable_place_of.binds (ps := ["self", "term"]) fun _ _ _ _ _ _ us hl => match us, hl with | [_, _], _ => rfl
  have F_ends_of := fun_mk (st := s_ends_of) l_ends_of c_ends_of k_ends_of
  have b_ends_of := F_ends_of.binds (ps := ["term"]) fun _ _ _ _ _ _ us hl => match us, hl with | [_], _ => rfl
  have m_ends_of := PySem.W.mg_of X G a_ends_of
  have F_edge_of := fun_mk (st := s_edge_of) l_edge_of c_edge_of k_edge_of
  have b_edge_of := F_edge_of.binds (ps := ["term", "side"]) fun _ _ _ _ _ _ us hl => match us, hl with | [_, _], _ => rfl
  have m_edge_of := PySem.W.mg_of X G a_edge_of
  have F_kind_of := fun_mk (st := s_kind_of) l_kind_of c_kind_of k_kind_of
  have b_kind_of := F_kind_of.binds (ps := ["term"]) fun _ _ _ _ _ _ us hl => match us, hl with | [_], _ => rfl
  have m_kind_of := PySem.W.mg_of X G a_kind_of
  have F_Around_init := fun_mk (st := s_Around_init) l_Around_init c_Around_init k_Around_init
  have b_Around_init := F_Around_init.binds (ps := ["self", "level", "barred", "names"]) fun _ _ _ _ _ _ us hl => match us, hl with | [_, _, _, _], _ => rfl
  have F_Around_within_quote := fun_mk (st := s_Around_within_quote) l_Around_within_quote c_Around_within_quote k_Around_within_quote
  have b_Around_within_quote := F_Around_within_quote.binds (ps := ["self"]) fun _ _ _ _ _ _ us hl => match us, hl with | [_], _ => rfl
  have F_Around_within_hole := fun_mk (st := s_Around_within_hole) l_Around_within_hole c_Around_within_hole k_Around_within_hole
  have b_Around_within_hole := F_Around_within_hole.binds (ps := ["self"]) fun _ _ _ _ _ _ us hl => match us, hl with | [_], _ => rfl
  have F_Around_with_value := fun_mk (st := s_Around_with_value) l_Around_with_value c_Around_with_value k_Around_with_value
  have b_Around_with_value := F_Around_with_value.binds (ps := ["self", "name", "kind"]) fun _ _ _ _ _ _ us hl => match us, hl with | [_, _, _], _ => rfl
  have F_Around_with_function := fun_mk (st := s_Around_with_function) l_Around_with_function c_Around_with_function k_Around_with_function
  have b_Around_with_function := F_Around_with_function.binds (ps := ["self", "name", "wanted", "kind"]) fun _ _ _ _ _ _ us hl => match us, hl with | [_, _, _, _], _ => rfl
  have F_Around_within_function := fun_mk (st := s_Around_within_function) l_Around_within_function c_Around_within_function k_Around_within_function
  have b_Around_within_function := F_Around_within_function.binds (ps := ["self", "name", "kind"]) fun _ _ _ _ _ _ us hl => match us, hl with | [_, _, _], _ => rfl
  have F_Around_meaning_of := fun_mk (st := s_Around_meaning_of) l_Around_meaning_of c_Around_meaning_of k_Around_meaning_of
  have b_Around_meaning_of := F_Around_meaning_of.binds (ps := ["self", "name"]) fun _ _ _ _ _ _ us hl => match us, hl with | [_, _], _ => rfl
  have F_Kinds_init := fun_mk (st := s_Kinds_init) l_Kinds_init c_Kinds_init k_Kinds_init
  have b_Kinds_init := F_Kinds_init.binds (ps := ["self", "rows"]) fun _ _ _ _ _ _ us hl => match us, hl with | [_, _], _ => rfl
  have F_Kinds_kind_at := fun_mk (st := s_Kinds_kind_at) l_Kinds_kind_at c_Kinds_kind_at k_Kinds_kind_at
  have b_Kinds_kind_at := F_Kinds_kind_at.binds (ps := ["self", "place", "around"]) fun _ _ _ _ _ _ us hl => match us, hl with | [_, _, _], _ => rfl
  have F_Kinds_looked_at := fun_mk (st := s_Kinds_looked_at) l_Kinds_looked_at c_Kinds_looked_at k_Kinds_looked_at
  have b_Kinds_looked_at := F_Kinds_looked_at.binds (ps := ["self", "place", "around"]) fun _ _ _ _ _ _ us hl => match us, hl with | [_, _, _], _ => rfl
  have F_Kinds_want := fun_mk (st := s_Kinds_want) l_Kinds_want c_Kinds_want k_Kinds_want
  have b_Kinds_want := F_Kinds_want.binds (ps := ["self", "kind", "place", "around"]) fun _ _ _ _ _ _ us hl => match us, hl with | [_, _, _, _], _ => rfl
  have F_look_at_num := fun_mk (st := s_look_at_num) l_look_at_num c_look_at_num k_look_at_num
  have b_look_at_num := F_look_at_num.binds (ps := ["kinds", "head", "places", "around"]) fun _ _ _ _ _ _ us hl => match us, hl with | [_, _, _, _], _ => rfl
  have m_look_at_num := PySem.W.mg_of X G a_look_at_num
  have F_look_at_name := fun_mk (st := s_look_at_name) l_look_at_name c_look_at_name k_look_at_name
  have b_look_at_name := F_look_at_name.binds (ps := ["kinds", "head", "places", "around"]) fun _ _ _ _ _ _ us hl => match us, hl with | [_, _, _, _], _ => rfl
  have m_look_at_name := PySem.W.mg_of X G a_look_at_name
  have F_look_at_numbers := fun_mk (st := s_look_at_numbers) l_look_at_numbers c_look_at_numbers k_look_at_numbers
  have b_look_at_numbers := F_look_at_numbers.binds (ps := ["kinds", "head", "places", "around"]) fun _ _ _ _ _ _ us hl => match us, hl with | [_, _, _, _], _ => rfl
  have m_look_at_numbers := PySem.W.mg_of X G a_look_at_numbers
  have F_look_at_when := fun_mk (st := s_look_at_when) l_look_at_when c_look_at_when k_look_at_when
  have b_look_at_when := F_look_at_when.binds (ps := ["kinds", "head", "places", "around"]) fun _ _ _ _ _ _ us hl => match us, hl with | [_, _, _, _], _ => rfl
  have m_look_at_when := PySem.W.mg_of X G a_look_at_when
  have F_look_at_let := fun_mk (st := s_look_at_let) l_look_at_let c_look_at_let k_look_at_let
  have b_look_at_let := F_look_at_let.binds (ps := ["kinds", "head", "places", "around"]) fun _ _ _ _ _ _ us hl => match us, hl with | [_, _, _, _], _ => rfl
  have m_look_at_let := PySem.W.mg_of X G a_look_at_let
  have F_look_at_turns := fun_mk (st := s_look_at_turns) l_look_at_turns c_look_at_turns k_look_at_turns
  have b_look_at_turns := F_look_at_turns.binds (ps := ["kinds", "head", "places", "around"]) fun _ _ _ _ _ _ us hl => match us, hl with | [_, _, _, _], _ => rfl
  have m_look_at_turns := PySem.W.mg_of X G a_look_at_turns
  have F_look_at_def := fun_mk (st := s_look_at_def) l_look_at_def c_look_at_def k_look_at_def
  have b_look_at_def := F_look_at_def.binds (ps := ["kinds", "head", "places", "around"]) fun _ _ _ _ _ _ us hl => match us, hl with | [_, _, _, _], _ => rfl
  have m_look_at_def := PySem.W.mg_of X G a_look_at_def
  have F_look_at_use := fun_mk (st := s_look_at_use) l_look_at_use c_look_at_use k_look_at_use
  have b_look_at_use := F_look_at_use.binds (ps := ["kinds", "head", "places", "around"]) fun _ _ _ _ _ _ us hl => match us, hl with | [_, _, _, _], _ => rfl
  have m_look_at_use := PySem.W.mg_of X G a_look_at_use
  have F_look_at_quote := fun_mk (st := s_look_at_quote) l_look_at_quote c_look_at_quote k_look_at_quote
  have b_look_at_quote := F_look_at_quote.binds (ps := ["kinds", "head", "places", "around"]) fun _ _ _ _ _ _ us hl => match us, hl with | [_, _, _, _], _ => rfl
  have m_look_at_quote := PySem.W.mg_of X G a_look_at_quote
  have F_look_at_hole := fun_mk (st := s_look_at_hole) l_look_at_hole c_look_at_hole k_look_at_hole
  have b_look_at_hole := F_look_at_hole.binds (ps := ["kinds", "head", "places", "around"]) fun _ _ _ _ _ _ us hl => match us, hl with | [_, _, _, _], _ => rfl
  have m_look_at_hole := PySem.W.mg_of X G a_look_at_hole
  have F_look_at_lift := fun_mk (st := s_look_at_lift) l_look_at_lift c_look_at_lift k_look_at_lift
  have b_look_at_lift := F_look_at_lift.binds (ps := ["kinds", "head", "places", "around"]) fun _ _ _ _ _ _ us hl => match us, hl with | [_, _, _, _], _ => rfl
  have m_look_at_lift := PySem.W.mg_of X G a_look_at_lift
  have F_look_at_run := fun_mk (st := s_look_at_run) l_look_at_run c_look_at_run k_look_at_run
  have b_look_at_run := F_look_at_run.binds (ps := ["kinds", "head", "places", "around"]) fun _ _ _ _ _ _ us hl => match us, hl with | [_, _, _, _], _ => rfl
  have m_look_at_run := PySem.W.mg_of X G a_look_at_run
  have F_told := fun_mk (st := s_told) l_told c_told k_told
  have b_told := F_told.binds (ps := ["term"]) fun _ _ _ _ _ _ us hl => match us, hl with | [_], _ => rfl
  have m_told := PySem.W.mg_of X G a_told
  have F_made := fun_mk (st := s_made) l_made c_made k_made
  have b_made := F_made.binds (ps := ["term"]) fun _ _ _ _ _ _ us hl => match us, hl with | [_], _ => rfl
  have m_made := PySem.W.mg_of X G a_made
  have F_refuse_unless := fun_mk (st := s_refuse_unless) l_refuse_unless c_refuse_unless k_refuse_unless
  have b_refuse_unless := F_refuse_unless.binds (ps := ["kind", "term"]) fun _ _ _ _ _ _ us hl => match us, hl with | [_, _], _ => rfl
  have m_refuse_unless := PySem.W.mg_of X G a_refuse_unless
  have F_Piece_init := fun_mk (st := s_Piece_init) l_Piece_init c_Piece_init k_Piece_init
  have b_Piece_init := F_Piece_init.binds (ps := ["self", "term", "size", "depth"]) fun _ _ _ _ _ _ us hl => match us, hl with | [_, _, _, _], _ => rfl
  have F_Telling_init := fun_mk (st := s_Telling_init) l_Telling_init c_Telling_init k_Telling_init
  have b_Telling_init := F_Telling_init.binds (ps := ["self"]) fun _ _ _ _ _ _ us hl => match us, hl with | [_], _ => rfl
  have F_Telling_value_of := fun_mk (st := s_Telling_value_of) l_Telling_value_of c_Telling_value_of k_Telling_value_of
  have b_Telling_value_of := F_Telling_value_of.binds (ps := ["self", "term"]) fun _ _ _ _ _ _ us hl => match us, hl with | [_, _], _ => rfl
  have F_Telling_later := fun_mk (st := s_Telling_later) l_Telling_later c_Telling_later k_Telling_later
  have b_Telling_later := F_Telling_later.binds (ps := ["self", "step", "about", "names"]) fun _ _ _ _ _ _ us hl => match us, hl with | [_, _, _, _], _ => rfl
  have F_Telling_tell := fun_mk (st := s_Telling_tell) l_Telling_tell c_Telling_tell k_Telling_tell
  have b_Telling_tell := F_Telling_tell.binds (ps := ["self", "term", "names"]) fun _ _ _ _ _ _ us hl => match us, hl with | [_, _, _], _ => rfl
  have F_Telling_make := fun_mk (st := s_Telling_make) l_Telling_make c_Telling_make k_Telling_make
  have b_Telling_make := F_Telling_make.binds (ps := ["self", "term", "names"]) fun _ _ _ _ _ _ us hl => match us, hl with | [_, _, _], _ => rfl
  have F_Telling_make_of := fun_mk (st := s_Telling_make_of) l_Telling_make_of c_Telling_make_of k_Telling_make_of
  have b_Telling_make_of := F_Telling_make_of.binds (ps := ["self", "head", "parts"]) fun _ _ _ _ _ _ us hl => match us, hl with | [_, _, _], _ => rfl
  have F_Telling_new_name := fun_mk (st := s_Telling_new_name) l_Telling_new_name c_Telling_new_name k_Telling_new_name
  have b_Telling_new_name := F_Telling_new_name.binds (ps := ["self"]) fun _ _ _ _ _ _ us hl => match us, hl with | [_], _ => rfl
  have F_tell_num := fun_mk (st := s_tell_num) l_tell_num c_tell_num k_tell_num
  have b_tell_num := F_tell_num.binds (ps := ["telling", "term", "names"]) fun _ _ _ _ _ _ us hl => match us, hl with | [_, _, _], _ => rfl
  have m_tell_num := PySem.W.mg_of X G a_tell_num
  have F_tell_name := fun_mk (st := s_tell_name) l_tell_name c_tell_name k_tell_name
  have b_tell_name := F_tell_name.binds (ps := ["telling", "term", "names"]) fun _ _ _ _ _ _ us hl => match us, hl with | [_, _, _], _ => rfl
  have m_tell_name := PySem.W.mg_of X G a_tell_name
  have F_tell_two := fun_mk (st := s_tell_two) l_tell_two c_tell_two k_tell_two
  have b_tell_two := F_tell_two.binds (ps := ["telling", "term", "names"]) fun _ _ _ _ _ _ us hl => match us, hl with | [_, _, _], _ => rfl
  have m_tell_two := PySem.W.mg_of X G a_tell_two
  have F_reckon := fun_mk (st := s_reckon) l_reckon c_reckon k_reckon
  have b_reckon := F_reckon.binds (ps := ["telling", "word", "names"]) fun _ _ _ _ _ _ us hl => match us, hl with | [_, _, _], _ => rfl
  have m_reckon := PySem.W.mg_of X G a_reckon
  have F_tell_when := fun_mk (st := s_tell_when) l_tell_when c_tell_when k_tell_when
  have b_tell_when := F_tell_when.binds (ps := ["telling", "term", "names"]) fun _ _ _ _ _ _ us hl => match us, hl with | [_, _, _], _ => rfl
  have m_tell_when := PySem.W.mg_of X G a_tell_when
  have F_choose := fun_mk (st := s_choose) l_choose c_choose k_choose
  have b_choose := F_choose.binds (ps := ["telling", "term", "names"]) fun _ _ _ _ _ _ us hl => match us, hl with | [_, _, _], _ => rfl
  have m_choose := PySem.W.mg_of X G a_choose
  have F_tell_let := fun_mk (st := s_tell_let) l_tell_let c_tell_let k_tell_let
  have b_tell_let := F_tell_let.binds (ps := ["telling", "term", "names"]) fun _ _ _ _ _ _ us hl => match us, hl with | [_, _, _], _ => rfl
  have m_tell_let := PySem.W.mg_of X G a_tell_let
  have F_go_on_with_b := fun_mk (st := s_go_on_with_b) l_go_on_with_b c_go_on_with_b k_go_on_with_b
  have b_go_on_with_b := F_go_on_with_b.binds (ps := ["telling", "term", "names"]) fun _ _ _ _ _ _ us hl => match us, hl with | [_, _, _], _ => rfl
  have m_go_on_with_b := PySem.W.mg_of X G a_go_on_with_b
  have F_tell_turns := fun_mk (st := s_tell_turns) l_tell_turns c_tell_turns k_tell_turns
  have b_tell_turns := F_tell_turns.binds (ps := ["telling", "term", "names"]) fun _ _ _ _ _ _ us hl => match us, hl with | [_, _, _], _ => rfl
  have m_tell_turns := PySem.W.mg_of X G a_tell_turns
  have F_turn := fun_mk (st := s_turn) l_turn c_turn k_turn
  have b_turn := F_turn.binds (ps := ["telling", "about", "names"]) fun _ _ _ _ _ _ us hl => match us, hl with | [_, _, _], _ => rfl
  have m_turn := PySem.W.mg_of X G a_turn
  have F_tell_def := fun_mk (st := s_tell_def) l_tell_def c_tell_def k_tell_def
  have b_tell_def := F_tell_def.binds (ps := ["telling", "term", "names"]) fun _ _ _ _ _ _ us hl => match us, hl with | [_, _, _], _ => rfl
  have m_tell_def := PySem.W.mg_of X G a_tell_def
  have F_tell_use := fun_mk (st := s_tell_use) l_tell_use c_tell_use k_tell_use
  have b_tell_use := F_tell_use.binds (ps := ["telling", "term", "names"]) fun _ _ _ _ _ _ us hl => match us, hl with | [_, _, _], _ => rfl
  have m_tell_use := PySem.W.mg_of X G a_tell_use
  have F_go_on_with_function := fun_mk (st := s_go_on_with_function) l_go_on_with_function c_go_on_with_function k_go_on_with_function
  have b_go_on_with_function := F_go_on_with_function.binds (ps := ["telling", "definition", "names"]) fun _ _ _ _ _ _ us hl => match us, hl with | [_, _, _], _ => rfl
  have m_go_on_with_function := PySem.W.mg_of X G a_go_on_with_function
  have F_tell_quote := fun_mk (st := s_tell_quote) l_tell_quote c_tell_quote k_tell_quote
  have b_tell_quote := F_tell_quote.binds (ps := ["telling", "term", "names"]) fun _ _ _ _ _ _ us hl => match us, hl with | [_, _, _], _ => rfl
  have m_tell_quote := PySem.W.mg_of X G a_tell_quote
  have F_refuse_too_great := fun_mk (st := s_refuse_too_great) l_refuse_too_great c_refuse_too_great k_refuse_too_great
  have b_refuse_too_great := F_refuse_too_great.binds (ps := ["telling", "term", "names"]) fun _ _ _ _ _ _ us hl => match us, hl with | [_, _, _], _ => rfl
  have m_refuse_too_great := PySem.W.mg_of X G a_refuse_too_great
  have F_tell_lift := fun_mk (st := s_tell_lift) l_tell_lift c_tell_lift k_tell_lift
  have b_tell_lift := F_tell_lift.binds (ps := ["telling", "term", "names"]) fun _ _ _ _ _ _ us hl => match us, hl with | [_, _, _], _ => rfl
  have m_tell_lift := PySem.W.mg_of X G a_tell_lift
  have F_make_num := fun_mk (st := s_make_num) l_make_num c_make_num k_make_num
  have b_make_num := F_make_num.binds (ps := ["telling", "term", "names"]) fun _ _ _ _ _ _ us hl => match us, hl with | [_, _, _], _ => rfl
  have m_make_num := PySem.W.mg_of X G a_make_num
  have F_tell_run := fun_mk (st := s_tell_run) l_tell_run c_tell_run k_tell_run
  have b_tell_run := F_tell_run.binds (ps := ["telling", "term", "names"]) fun _ _ _ _ _ _ us hl => match us, hl with | [_, _, _], _ => rfl
  have m_tell_run := PySem.W.mg_of X G a_tell_run
  have F_go_on_with_piece := fun_mk (st := s_go_on_with_piece) l_go_on_with_piece c_go_on_with_piece k_go_on_with_piece
  have b_go_on_with_piece := F_go_on_with_piece.binds (ps := ["telling", "term", "names"]) fun _ _ _ _ _ _ us hl => match us, hl with | [_, _, _], _ => rfl
  have m_go_on_with_piece := PySem.W.mg_of X G a_go_on_with_piece
  have F_make_same := fun_mk (st := s_make_same) l_make_same c_make_same k_make_same
  have b_make_same := F_make_same.binds (ps := ["telling", "term", "names"]) fun _ _ _ _ _ _ us hl => match us, hl with | [_, _, _], _ => rfl
  have m_make_same := PySem.W.mg_of X G a_make_same
  have F_make_name := fun_mk (st := s_make_name) l_make_name c_make_name k_make_name
  have b_make_name := F_make_name.binds (ps := ["telling", "term", "names"]) fun _ _ _ _ _ _ us hl => match us, hl with | [_, _, _], _ => rfl
  have m_make_name := PySem.W.mg_of X G a_make_name
  have F_make_plain := fun_mk (st := s_make_plain) l_make_plain c_make_plain k_make_plain
  have b_make_plain := F_make_plain.binds (ps := ["telling", "term", "names"]) fun _ _ _ _ _ _ us hl => match us, hl with | [_, _, _], _ => rfl
  have m_make_plain := PySem.W.mg_of X G a_make_plain
  have F_make_let := fun_mk (st := s_make_let) l_make_let c_make_let k_make_let
  have b_make_let := F_make_let.binds (ps := ["telling", "term", "names"]) fun _ _ _ _ _ _ us hl => match us, hl with | [_, _, _], _ => rfl
  have m_make_let := PySem.W.mg_of X G a_make_let
  have F_make_turns := fun_mk (st := s_make_turns) l_make_turns c_make_turns k_make_turns
  have b_make_turns := F_make_turns.binds (ps := ["telling", "term", "names"]) fun _ _ _ _ _ _ us hl => match us, hl with | [_, _, _], _ => rfl
  have m_make_turns := PySem.W.mg_of X G a_make_turns
  have F_make_def := fun_mk (st := s_make_def) l_make_def c_make_def k_make_def
  have b_make_def := F_make_def.binds (ps := ["telling", "term", "names"]) fun _ _ _ _ _ _ us hl => match us, hl with | [_, _, _], _ => rfl
  have m_make_def := PySem.W.mg_of X G a_make_def
  have F_make_use := fun_mk (st := s_make_use) l_make_use c_make_use k_make_use
  have b_make_use := F_make_use.binds (ps := ["telling", "term", "names"]) fun _ _ _ _ _ _ us hl => match us, hl with | [_, _, _], _ => rfl
  have m_make_use := PySem.W.mg_of X G a_make_use
  have F_fill_hole := fun_mk (st := s_fill_hole) l_fill_hole c_fill_hole k_fill_hole
  have b_fill_hole := F_fill_hole.binds (ps := ["telling", "term", "names"]) fun _ _ _ _ _ _ us hl => match us, hl with | [_, _, _], _ => rfl
  have m_fill_hole := PySem.W.mg_of X G a_fill_hole
  have F_put_together := fun_mk (st := s_put_together) l_put_together c_put_together k_put_together
  have b_put_together := F_put_together.binds (ps := ["telling", "head", "many"]) fun _ _ _ _ _ _ us hl => match us, hl with | [_, _, _], _ => rfl
  have m_put_together := PySem.W.mg_of X G a_put_together
  have F_law_cell_at := fun_mk (st := s_cell_at) l_law_cell_at c_law_cell_at k_law_cell_at
  have b_law_cell_at := F_law_cell_at.binds (ps := ["_law_script", "_law_k"]) fun _ _ _ _ _ _ us hl => match us, hl with | [_, _], _ => rfl
  have m_law_cell_at := PySem.W.mg_of X G a_law_cell_at
  have F_law_mixed := fun_mk (st := s_mixed) l_law_mixed c_law_mixed k_law_mixed
  have b_law_mixed := F_law_mixed.binds (ps := ["_law_script", "_law_k"]) fun _ _ _ _ _ _ us hl => match us, hl with | [_, _], _ => rfl
  have m_law_mixed := PySem.W.mg_of X G a_law_mixed
  have F_law_drawn := fun_mk (st := s_drawn) l_law_drawn c_law_drawn k_law_drawn
  have b_law_drawn := F_law_drawn.binds (ps := ["_law_number_here", "_law_sizes"]) fun _ _ _ _ _ _ us hl => match us, hl with | [_, _], _ => rfl
  have m_law_drawn := PySem.W.mg_of X G a_law_drawn
  have F_law_name := fun_mk (st := s_name) l_law_name c_law_name k_law_name
  have b_law_name := F_law_name.binds (ps := ["_law_script", "_law_which"]) fun _ _ _ _ _ _ us hl => match us, hl with | [_, _], _ => rfl
  have m_law_name := PySem.W.mg_of X G a_law_name
  have F_law_wide := fun_mk (st := s_wide) l_law_wide c_law_wide k_law_wide
  have b_law_wide := F_law_wide.binds (ps := ["_law_many"]) fun _ _ _ _ _ _ us hl => match us, hl with | [_], _ => rfl
  have m_law_wide := PySem.W.mg_of X G a_law_wide
  have F_law_great := fun_mk (st := s_great) l_law_great c_law_great k_law_great
  have b_law_great := F_law_great.binds (ps := ["_law_x", "_law_size"]) fun _ _ _ _ _ _ us hl => match us, hl with | [_, _], _ => rfl
  have m_law_great := PySem.W.mg_of X G a_law_great
  have F_law_step := fun_mk (st := s_step) l_law_step c_law_step k_law_step
  have b_law_step := F_law_step.binds (ps := ["_law_way", "_law_x", "_law_y"]) fun _ _ _ _ _ _ us hl => match us, hl with | [_, _, _], _ => rfl
  have m_law_step := PySem.W.mg_of X G a_law_step
  have F_law_deep := fun_mk (st := s_deep) l_law_deep c_law_deep k_law_deep
  have b_law_deep := F_law_deep.binds (ps := ["_law_x", "_law_y", "_law_deep_here", "_law_way"]) fun _ _ _ _ _ _ us hl => match us, hl with | [_, _, _, _], _ => rfl
  have m_law_deep := PySem.W.mg_of X G a_law_deep
  have F_law_refused := fun_mk (st := s_refused) l_law_refused c_law_refused k_law_refused
  have b_law_refused := F_law_refused.binds (ps := ["_law_program", "_law_way"]) fun _ _ _ _ _ _ us hl => match us, hl with | [_, _], _ => rfl
  have m_law_refused := PySem.W.mg_of X G a_law_refused
  have F_law_wrong_kind := fun_mk (st := s_wrong_kind) l_law_wrong_kind c_law_wrong_kind k_law_wrong_kind
  have b_law_wrong_kind := F_law_wrong_kind.binds (ps := ["_law_program", "_law_way"]) fun _ _ _ _ _ _ us hl => match us, hl with | [_, _], _ => rfl
  have m_law_wrong_kind := PySem.W.mg_of X G a_law_wrong_kind
  have F_law_done := fun_mk (st := s_done) l_law_done c_law_done k_law_done
  have b_law_done := F_law_done.binds (ps := ["_law_program", "_law_way"]) fun _ _ _ _ _ _ us hl => match us, hl with | [_, _], _ => rfl
  have m_law_done := PySem.W.mg_of X G a_law_done
  have F_law := fun_mk (st := s_law) l_law c_law k_law
  have b_law := F_law.binds (ps := ["_law_script"]) fun _ _ _ _ _ _ us hl => match us, hl with | [_], _ => rfl
  have T : Txt mg := ⟨PySem.W.mg_none_of X G z_ValueError, PySem.W.mg_none_of X G z_int, PySem.W.mg_none_of X G z_isinstance, PySem.W.mg_none_of X G z_len, PySem.W.mg_none_of X G z_list, PySem.W.mg_none_of X G z_max, PySem.W.mg_none_of X G z_min, PySem.W.mg_none_of X G z_range, PySem.W.mg_none_of X G z_reversed, PySem.W.mg_none_of X G z_sum, PySem.W.mg_none_of X G z_tuple, PySem.W.mg_none_of X G z_zip, ⟨_, PySem.W.mg_of X G gi_RECKONED_BY⟩, ⟨_, PySem.W.mg_of X G gi_MOST_TERMS⟩, ⟨_, PySem.W.mg_of X G gi_DEEPEST⟩⟩
  have TC : TxtC K C_TermTable := ⟨cl_TermTable, no_TermTable_rows, no_TermTable_known⟩
  have Z : KParts K w mg D_PARTS_AT := ⟨PySem.W.mg_of X G aD_PARTS_AT, fun u => by
    cases u
    · exact ⟨_, _, _, lD_PARTS_AT, kD_PARTS_AT, d_PARTS_AT_num, _, rfl⟩
    · exact ⟨_, _, _, lD_PARTS_AT, kD_PARTS_AT, d_PARTS_AT_name, _, rfl⟩
    · exact ⟨_, _, _, lD_PARTS_AT, kD_PARTS_AT, d_PARTS_AT_sum, _, rfl⟩
    · exact ⟨_, _, _, lD_PARTS_AT, kD_PARTS_AT, d_PARTS_AT_product, _, rfl⟩
    · exact ⟨_, _, _, lD_PARTS_AT, kD_PARTS_AT, d_PARTS_AT_less, _, rfl⟩
    · exact ⟨_, _, _, lD_PARTS_AT, kD_PARTS_AT, d_PARTS_AT_when, _, rfl⟩
    · exact ⟨_, _, _, lD_PARTS_AT, kD_PARTS_AT, d_PARTS_AT_let, _, rfl⟩
    · exact ⟨_, _, _, lD_PARTS_AT, kD_PARTS_AT, d_PARTS_AT_turns, _, rfl⟩
    · exact ⟨_, _, _, lD_PARTS_AT, kD_PARTS_AT, d_PARTS_AT_def, _, rfl⟩
    · exact ⟨_, _, _, lD_PARTS_AT, kD_PARTS_AT, d_PARTS_AT_use, _, rfl⟩
    · exact ⟨_, _, _, lD_PARTS_AT, kD_PARTS_AT, d_PARTS_AT_quote, _, rfl⟩
    · exact ⟨_, _, _, lD_PARTS_AT, kD_PARTS_AT, d_PARTS_AT_hole, _, rfl⟩
    · exact ⟨_, _, _, lD_PARTS_AT, kD_PARTS_AT, d_PARTS_AT_lift, _, rfl⟩
    · exact ⟨_, _, _, lD_PARTS_AT, kD_PARTS_AT, d_PARTS_AT_run, _, rfl⟩⟩
  have TC_Around : TcA K C_Around := ⟨cl_Around, no_Around_level, no_Around_barred, no_Around_names⟩
  have TC_Kinds : TcK K C_Kinds := ⟨cl_Kinds, no_Kinds_rows, no_Kinds_loose, no_Kinds_known⟩
  obtain ⟨FL, hFL⟩ : ∃ FL : W → Addr, FL = fun u => match u with | .num => f_look_at_num | .name => f_look_at_name | .sum => f_look_at_numbers | .product => f_look_at_numbers | .less => f_look_at_numbers | .when => f_look_at_when | .let => f_look_at_let | .turns => f_look_at_turns | .def => f_look_at_def | .use => f_look_at_use | .quote => f_look_at_quote | .hole => f_look_at_hole | .lift => f_look_at_lift | .run => f_look_at_run := ⟨_, rfl⟩
  have KL : KLk K w mg FL D_LEVEL_OF D_LOOKS := by
    subst hFL
    refine ⟨PySem.W.mg_of X G aD_LEVEL_OF, PySem.W.mg_of X G aD_LOOKS, ⟨_, _, lD_LEVEL_OF, kD_LEVEL_OF, sy_LEVEL_OF⟩, fun u => ?_, fun u => ?_⟩
    · cases u
      · exact ⟨_, n_LEVEL_OF_num, by decide⟩
      · exact ⟨_, n_LEVEL_OF_name, by decide⟩
      · exact ⟨_, n_LEVEL_OF_sum, by decide⟩
      · exact ⟨_, n_LEVEL_OF_product, by decide⟩
      · exact ⟨_, n_LEVEL_OF_less, by decide⟩
      · exact ⟨_, n_LEVEL_OF_when, by decide⟩
      · exact ⟨_, n_LEVEL_OF_let, by decide⟩
      · exact ⟨_, n_LEVEL_OF_turns, by decide⟩
      · exact ⟨_, n_LEVEL_OF_def, by decide⟩
      · exact ⟨_, n_LEVEL_OF_use, by decide⟩
      · exact ⟨_, d_LEVEL_OF_quote, by decide, _, rfl⟩
      · exact ⟨_, d_LEVEL_OF_hole, by decide, _, rfl⟩
      · exact ⟨_, d_LEVEL_OF_lift, by decide, _, rfl⟩
      · exact ⟨_, d_LEVEL_OF_run, by decide, _, rfl⟩
    · cases u
      · exact ⟨_, _, _, lD_LOOKS, kD_LOOKS, d_LOOKS_num, rfl⟩
      · exact ⟨_, _, _, lD_LOOKS, kD_LOOKS, d_LOOKS_name, rfl⟩
      · exact ⟨_, _, _, lD_LOOKS, kD_LOOKS, d_LOOKS_sum, rfl⟩
      · exact ⟨_, _, _, lD_LOOKS, kD_LOOKS, d_LOOKS_product, rfl⟩
      · exact ⟨_, _, _, lD_LOOKS, kD_LOOKS, d_LOOKS_less, rfl⟩
      · exact ⟨_, _, _, lD_LOOKS, kD_LOOKS, d_LOOKS_when, rfl⟩
      · exact ⟨_, _, _, lD_LOOKS, kD_LOOKS, d_LOOKS_let, rfl⟩
      · exact ⟨_, _, _, lD_LOOKS, kD_LOOKS, d_LOOKS_turns, rfl⟩
      · exact ⟨_, _, _, lD_LOOKS, kD_LOOKS, d_LOOKS_def, rfl⟩
      · exact ⟨_, _, _, lD_LOOKS, kD_LOOKS, d_LOOKS_use, rfl⟩
      · exact ⟨_, _, _, lD_LOOKS, kD_LOOKS, d_LOOKS_quote, rfl⟩
      · exact ⟨_, _, _, lD_LOOKS, kD_LOOKS, d_LOOKS_hole, rfl⟩
      · exact ⟨_, _, _, lD_LOOKS, kD_LOOKS, d_LOOKS_lift, rfl⟩
      · exact ⟨_, _, _, lD_LOOKS, kD_LOOKS, d_LOOKS_run, rfl⟩
  refine ⟨PySem.W.fnOf "law" "law" (defArgs s_law) (defBody s_law) (defScope s_law) .none kV_law dc_law pm_law an_law cd_law ct_law, fun s v => .of_eq rfl, fun base _ _ => ?_⟩
  obtain ⟨FA, hFA⟩ : ∃ FA, FA = mkFA f_tell_num f_tell_name f_tell_two f_tell_when f_tell_let f_tell_turns f_tell_def f_tell_use f_tell_quote f_tell_lift f_tell_run f_make_same f_make_name f_make_plain f_make_let f_make_turns f_make_def f_make_use f_fill_hole f_reckon f_choose f_go_on_with_b f_turn f_go_on_with_function f_refuse_too_great f_make_num f_go_on_with_piece f_put_together := ⟨_, rfl⟩
  have TC_Telling : TcT K C_Telling := ⟨cl_Telling, no_Telling_steps, no_Telling_found, no_Telling_named⟩
  have TC_Piece : TcP K C_Piece := ⟨cl_Piece, no_Piece_term, no_Piece_size, no_Piece_depth⟩
  have TL : Tl K w mg FA D_TELLERS D_MAKERS := by
    subst hFA
    refine ⟨PySem.W.mg_of X G aD_TELLERS, PySem.W.mg_of X G aD_MAKERS, fun u hu => ?_, fun u h1 h2 h3 => ?_, m_reckon, m_choose, m_go_on_with_b, m_turn, m_go_on_with_function, m_refuse_too_great, m_make_num, m_go_on_with_piece, m_put_together⟩
    · cases u
      · exact ⟨_, _, _, lD_TELLERS, kD_TELLERS, d_TELLERS_num, rfl⟩
      · exact ⟨_, _, _, lD_TELLERS, kD_TELLERS, d_TELLERS_name, rfl⟩
      · exact ⟨_, _, _, lD_TELLERS, kD_TELLERS, d_TELLERS_sum, rfl⟩
      · exact ⟨_, _, _, lD_TELLERS, kD_TELLERS, d_TELLERS_product, rfl⟩
      · exact ⟨_, _, _, lD_TELLERS, kD_TELLERS, d_TELLERS_less, rfl⟩
      · exact ⟨_, _, _, lD_TELLERS, kD_TELLERS, d_TELLERS_when, rfl⟩
      · exact ⟨_, _, _, lD_TELLERS, kD_TELLERS, d_TELLERS_let, rfl⟩
      · exact ⟨_, _, _, lD_TELLERS, kD_TELLERS, d_TELLERS_turns, rfl⟩
      · exact ⟨_, _, _, lD_TELLERS, kD_TELLERS, d_TELLERS_def, rfl⟩
      · exact ⟨_, _, _, lD_TELLERS, kD_TELLERS, d_TELLERS_use, rfl⟩
      · exact ⟨_, _, _, lD_TELLERS, kD_TELLERS, d_TELLERS_quote, rfl⟩
      · exact absurd rfl hu
      · exact ⟨_, _, _, lD_TELLERS, kD_TELLERS, d_TELLERS_lift, rfl⟩
      · exact ⟨_, _, _, lD_TELLERS, kD_TELLERS, d_TELLERS_run, rfl⟩
    · cases u
      · exact ⟨_, _, _, lD_MAKERS, kD_MAKERS, d_MAKERS_num, rfl⟩
      · exact ⟨_, _, _, lD_MAKERS, kD_MAKERS, d_MAKERS_name, rfl⟩
      · exact ⟨_, _, _, lD_MAKERS, kD_MAKERS, d_MAKERS_sum, rfl⟩
      · exact ⟨_, _, _, lD_MAKERS, kD_MAKERS, d_MAKERS_product, rfl⟩
      · exact ⟨_, _, _, lD_MAKERS, kD_MAKERS, d_MAKERS_less, rfl⟩
      · exact ⟨_, _, _, lD_MAKERS, kD_MAKERS, d_MAKERS_when, rfl⟩
      · exact ⟨_, _, _, lD_MAKERS, kD_MAKERS, d_MAKERS_let, rfl⟩
      · exact ⟨_, _, _, lD_MAKERS, kD_MAKERS, d_MAKERS_turns, rfl⟩
      · exact ⟨_, _, _, lD_MAKERS, kD_MAKERS, d_MAKERS_def, rfl⟩
      · exact ⟨_, _, _, lD_MAKERS, kD_MAKERS, d_MAKERS_use, rfl⟩
      · exact absurd rfl h1
      · exact ⟨_, _, _, lD_MAKERS, kD_MAKERS, d_MAKERS_hole, rfl⟩
      · exact absurd rfl h2
      · exact absurd rfl h3
  have MK_Telling : CalC l.prog w K mg base "Telling" _ ["self"] 1 (spTelInit C_Telling C_Piece FA) _ _ := ⟨⟨mk_Telling, a_Telling_init, i_Telling_init, kc_Telling⟩, ok_tel_init F_Telling_init TC_Telling, mC_Telling, b_Telling_init⟩
  have MK_Piece : CalC l.prog w K mg base "Piece" _ ["self", "term", "size", "depth"] 1 (spPcInit C_Piece) _ _ := ⟨⟨mk_Piece, a_Piece_init, i_Piece_init, kc_Piece⟩, ok_pc_init F_Piece_init TC_Piece, mC_Piece, b_Piece_init⟩
  have C_later : CalM l.prog w K mg base _ "later" ["self", "step", "about", "names"] 1 (spLater C_Telling C_Piece FA) _ _ := ⟨ok_later F_Telling_later TC_Telling, ⟨a_Telling_later, i_Telling_later, k_Telling_later⟩, b_Telling_later⟩
  have C_tell : CalM l.prog w K mg base _ "tell" ["self", "term", "names"] 2 (spTell C_Telling C_Piece FA) _ _ := ⟨ok_tell F_Telling_tell TC_Telling TL C_later, ⟨a_Telling_tell, i_Telling_tell, k_Telling_tell⟩, b_Telling_tell⟩
  have C_make : CalM l.prog w K mg base _ "make" ["self", "term", "names"] 2 (spMakeT C_Telling C_Piece FA) _ _ := ⟨ok_makeT F_Telling_make TC_Telling TL C_later, ⟨a_Telling_make, i_Telling_make, k_Telling_make⟩, b_Telling_make⟩
  have C_make_of : CalM l.prog w K mg base _ "make_of" ["self", "head", "parts"] 3 (spMakeOf C_Telling C_Piece FA) _ _ := ⟨ok_make_of F_Telling_make_of T TC_Telling TL C_later C_make, ⟨a_Telling_make_of, i_Telling_make_of, k_Telling_make_of⟩, b_Telling_make_of⟩
  have C_new_name : CalM l.prog w K mg base _ "new_name" ["self"] 1 (spNewName C_Telling C_Piece FA) _ _ := ⟨ok_new_name F_Telling_new_name TC_Telling, ⟨a_Telling_new_name, i_Telling_new_name, k_Telling_new_name⟩, b_Telling_new_name⟩
  have C_tell_num : Cal l.prog w K mg base "tell_num" ["telling", "term", "names"] 1 (spStp C_Telling C_Piece C_TooGreat FA (.t .num)) _ _ := ⟨ok_tell_num F_tell_num T TC_Telling, m_tell_num, k_tell_num, b_tell_num⟩
  have C_tell_name : Cal l.prog w K mg base "tell_name" ["telling", "term", "names"] 1 (spStp C_Telling C_Piece C_TooGreat FA (.t .name)) _ _ := ⟨ok_tell_name F_tell_name T TC_Telling, m_tell_name, k_tell_name, b_tell_name⟩
  have C_tell_two : Cal l.prog w K mg base "tell_two" ["telling", "term", "names"] 3 (fun vs H Q E => ∃ o : Bin, spStp C_Telling C_Piece C_TooGreat FA (.t o.w) vs H Q E) _ _ := ⟨ok_tell_two F_tell_two T TC_Telling TL C_later C_tell, m_tell_two, k_tell_two, b_tell_two⟩
  have C_reckon : Cal l.prog w K mg base "reckon" ["telling", "word", "names"] 1 (spStp C_Telling C_Piece C_TooGreat FA .reckon) _ _ := ⟨ok_reckon F_reckon T TC_Telling, m_reckon, k_reckon, b_reckon⟩
  have C_tell_when : Cal l.prog w K mg base "tell_when" ["telling", "term", "names"] 3 (spStp C_Telling C_Piece C_TooGreat FA (.t .when)) _ _ := ⟨ok_tell_when F_tell_when T TC_Telling TL C_later C_tell, m_tell_when, k_tell_when, b_tell_when⟩
  have C_choose : Cal l.prog w K mg base "choose" ["telling", "term", "names"] 3 (spStp C_Telling C_Piece C_TooGreat FA .choose) _ _ := ⟨ok_choose F_choose T TC_Telling C_tell, m_choose, k_choose, b_choose⟩
  have C_tell_let : Cal l.prog w K mg base "tell_let" ["telling", "term", "names"] 3 (spStp C_Telling C_Piece C_TooGreat FA (.t .let)) _ _ := ⟨ok_tell_let F_tell_let T TC_Telling TL C_later C_tell, m_tell_let, k_tell_let, b_tell_let⟩
  have C_go_on_with_b : Cal l.prog w K mg base "go_on_with_b" ["telling", "term", "names"] 3 (spStp C_Telling C_Piece C_TooGreat FA .goB) _ _ := ⟨ok_goB F_go_on_with_b T TC_Telling C_tell, m_go_on_with_b, k_go_on_with_b, b_go_on_with_b⟩
  have C_tell_turns : Cal l.prog w K mg base "tell_turns" ["telling", "term", "names"] 3 (spStp C_Telling C_Piece C_TooGreat FA (.t .turns)) _ _ := ⟨ok_tell_turns F_tell_turns T TC_Telling TL C_later C_tell, m_tell_turns, k_tell_turns, b_tell_turns⟩
  have C_turn : Cal l.prog w K mg base "turn" ["telling", "about", "names"] 3 (spStp C_Telling C_Piece C_TooGreat FA .turn) _ _ := ⟨ok_turn F_turn T TC_Telling TL C_later C_tell, m_turn, k_turn, b_turn⟩
  have C_tell_def : Cal l.prog w K mg base "tell_def" ["telling", "term", "names"] 3 (spStp C_Telling C_Piece C_TooGreat FA (.t .def)) _ _ := ⟨ok_tell_def F_tell_def T TC_Telling C_tell, m_tell_def, k_tell_def, b_tell_def⟩
  have C_tell_use : Cal l.prog w K mg base "tell_use" ["telling", "term", "names"] 3 (spStp C_Telling C_Piece C_TooGreat FA (.t .use)) _ _ := ⟨ok_tell_use F_tell_use T TC_Telling TL C_later C_tell, m_tell_use, k_tell_use, b_tell_use⟩
  have C_go_on_with_function : Cal l.prog w K mg base "go_on_with_function" ["telling", "definition", "names"] 3 (spStp C_Telling C_Piece C_TooGreat FA .goF) _ _ := ⟨ok_goF F_go_on_with_function T TC_Telling C_tell, m_go_on_with_function, k_go_on_with_function, b_go_on_with_function⟩
  have C_tell_quote : Cal l.prog w K mg base "tell_quote" ["telling", "term", "names"] 3 (spStp C_Telling C_Piece C_TooGreat FA (.t .quote)) _ _ := ⟨ok_tell_quote F_tell_quote T TC_Telling TL C_later C_make, m_tell_quote, k_tell_quote, b_tell_quote⟩
  have C_refuse_too_great : CalX l.prog w K mg base "refuse_too_great" ["telling", "term", "names"] 1 (spStp C_Telling C_Piece C_TooGreat FA .tooGreat) _ _ := ⟨ok_too_great F_refuse_too_great T TC_Telling TC_Piece X_TooGreat, m_refuse_too_great, k_refuse_too_great, b_refuse_too_great⟩
  have C_tell_lift : Cal l.prog w K mg base "tell_lift" ["telling", "term", "names"] 3 (spStp C_Telling C_Piece C_TooGreat FA (.t .lift)) _ _ := ⟨ok_tell_lift F_tell_lift T TC_Telling TL C_later C_tell, m_tell_lift, k_tell_lift, b_tell_lift⟩
  have C_tell_run : Cal l.prog w K mg base "tell_run" ["telling", "term", "names"] 3 (spStp C_Telling C_Piece C_TooGreat FA (.t .run)) _ _ := ⟨ok_tell_run F_tell_run T TC_Telling TL C_later C_tell, m_tell_run, k_tell_run, b_tell_run⟩
  have C_fill_hole : Cal l.prog w K mg base "fill_hole" ["telling", "term", "names"] 3 (spStp C_Telling C_Piece C_TooGreat FA (.m .hole)) _ _ := ⟨ok_fill_hole F_fill_hole T TC_Telling C_tell, m_fill_hole, k_fill_hole, b_fill_hole⟩
  have C_go_on_with_piece : Cal l.prog w K mg base "go_on_with_piece" ["telling", "term", "names"] 3 (spStp C_Telling C_Piece C_TooGreat FA .goPiece) _ _ := ⟨ok_go_piece F_go_on_with_piece T TC_Telling TC_Piece C_tell, m_go_on_with_piece, k_go_on_with_piece, b_go_on_with_piece⟩
  have C_make_num : Cal l.prog w K mg base "make_num" ["telling", "term", "names"] 3 (spStp C_Telling C_Piece C_TooGreat FA .mkNum) _ _ := ⟨ok_make_num F_make_num T TC_Telling MK_Piece, m_make_num, k_make_num, b_make_num⟩
  have C_make_same : Cal l.prog w K mg base "make_same" ["telling", "term", "names"] 3 (spStp C_Telling C_Piece C_TooGreat FA (.m .num)) _ _ := ⟨ok_make_same F_make_same T TC_Telling MK_Piece, m_make_same, k_make_same, b_make_same⟩
  have C_make_name : Cal l.prog w K mg base "make_name" ["telling", "term", "names"] 3 (spStp C_Telling C_Piece C_TooGreat FA (.m .name)) _ _ := ⟨ok_make_name F_make_name T TC_Telling MK_Piece, m_make_name, k_make_name, b_make_name⟩
  have C_make_plain : Cal l.prog w K mg base "make_plain" ["telling", "term", "names"] 4 (fun vs H Q E => ∃ u : W, u ∈ [W.sum, .product, .less, .when] ∧ spStp C_Telling C_Piece C_TooGreat FA (.m u) vs H Q E) _ _ := ⟨ok_make_plain F_make_plain T TC_Telling C_make_of, m_make_plain, k_make_plain, b_make_plain⟩
  have C_make_let : Cal l.prog w K mg base "make_let" ["telling", "term", "names"] 4 (spStp C_Telling C_Piece C_TooGreat FA (.m .let)) _ _ := ⟨ok_make_let F_make_let T TC_Telling C_new_name C_make_of, m_make_let, k_make_let, b_make_let⟩
  have C_make_turns : Cal l.prog w K mg base "make_turns" ["telling", "term", "names"] 4 (spStp C_Telling C_Piece C_TooGreat FA (.m .turns)) _ _ := ⟨ok_make_turns F_make_turns T TC_Telling C_new_name C_make_of, m_make_turns, k_make_turns, b_make_turns⟩
  have C_make_def : Cal l.prog w K mg base "make_def" ["telling", "term", "names"] 4 (spStp C_Telling C_Piece C_TooGreat FA (.m .def)) _ _ := ⟨ok_make_def F_make_def T TC_Telling C_new_name C_make_of, m_make_def, k_make_def, b_make_def⟩
  have C_make_use : Cal l.prog w K mg base "make_use" ["telling", "term", "names"] 4 (spStp C_Telling C_Piece C_TooGreat FA (.m .use)) _ _ := ⟨ok_make_use F_make_use T TC_Telling C_make_of, m_make_use, k_make_use, b_make_use⟩
  have C_put_together : Cal l.prog w K mg base "put_together" ["telling", "head", "many"] 3 (spStp C_Telling C_Piece C_TooGreat FA .put) _ _ := ⟨ok_put F_put_together T TC_Telling TC_Piece MK_Piece, m_put_together, k_put_together, b_put_together⟩
  have HA : ∀ s : Stp, s.Good → HeldX l.prog w K mg base 4 (FA s.code) (spStp C_Telling C_Piece C_TooGreat FA s.code) := by
    have ht : ∀ u : W, u ≠ .hole → HeldX l.prog w K mg base 4 (FA (.t u)) (spStp C_Telling C_Piece C_TooGreat FA (.t u)) := fun u hu => by
      cases u
      · have z := heldOf C_tell_num (by decide) (sp' := spStp C_Telling C_Piece C_TooGreat FA (.t .num)) (fun _ _ _ _ h => h); rw [hFA] at z ⊢; exact z
      · have z := heldOf C_tell_name (by decide) (sp' := spStp C_Telling C_Piece C_TooGreat FA (.t .name)) (fun _ _ _ _ h => h); rw [hFA] at z ⊢; exact z
      · have z := heldOf C_tell_two (by decide) (sp' := spStp C_Telling C_Piece C_TooGreat FA (.t .sum)) (fun _ _ _ _ h => ⟨.sum, h⟩); rw [hFA] at z ⊢; exact z
      · have z := heldOf C_tell_two (by decide) (sp' := spStp C_Telling C_Piece C_TooGreat FA (.t .product)) (fun _ _ _ _ h => ⟨.product, h⟩); rw [hFA] at z ⊢; exact z
      · have z := heldOf C_tell_two (by decide) (sp' := spStp C_Telling C_Piece C_TooGreat FA (.t .less)) (fun _ _ _ _ h => ⟨.less, h⟩); rw [hFA] at z ⊢; exact z
      · have z := heldOf C_tell_when (by decide) (sp' := spStp C_Telling C_Piece C_TooGreat FA (.t .when)) (fun _ _ _ _ h => h); rw [hFA] at z ⊢; exact z
      · have z := heldOf C_tell_let (by decide) (sp' := spStp C_Telling C_Piece C_TooGreat FA (.t .let)) (fun _ _ _ _ h => h); rw [hFA] at z ⊢; exact z
      · have z := heldOf C_tell_turns (by decide) (sp' := spStp C_Telling C_Piece C_TooGreat FA (.t .turns)) (fun _ _ _ _ h => h); rw [hFA] at z ⊢; exact z
      · have z := heldOf C_tell_def (by decide) (sp' := spStp C_Telling C_Piece C_TooGreat FA (.t .def)) (fun _ _ _ _ h => h); rw [hFA] at z ⊢; exact z
      · have z := heldOf C_tell_use (by decide) (sp' := spStp C_Telling C_Piece C_TooGreat FA (.t .use)) (fun _ _ _ _ h => h); rw [hFA] at z ⊢; exact z
      · have z := heldOf C_tell_quote (by decide) (sp' := spStp C_Telling C_Piece C_TooGreat FA (.t .quote)) (fun _ _ _ _ h => h); rw [hFA] at z ⊢; exact z
      · exact absurd rfl hu
      · have z := heldOf C_tell_lift (by decide) (sp' := spStp C_Telling C_Piece C_TooGreat FA (.t .lift)) (fun _ _ _ _ h => h); rw [hFA] at z ⊢; exact z
      · have z := heldOf C_tell_run (by decide) (sp' := spStp C_Telling C_Piece C_TooGreat FA (.t .run)) (fun _ _ _ _ h => h); rw [hFA] at z ⊢; exact z
    have hm : ∀ u : W, u ≠ .quote → u ≠ .lift → u ≠ .run → HeldX l.prog w K mg base 4 (FA (.m u)) (spStp C_Telling C_Piece C_TooGreat FA (.m u)) := fun u h1 h2 h3 => by
      cases u
      · have z := heldOf C_make_same (by decide) (sp' := spStp C_Telling C_Piece C_TooGreat FA (.m .num)) (fun _ _ _ _ h => h); rw [hFA] at z ⊢; exact z
      · have z := heldOf C_make_name (by decide) (sp' := spStp C_Telling C_Piece C_TooGreat FA (.m .name)) (fun _ _ _ _ h => h); rw [hFA] at z ⊢; exact z
      · have z := heldOf C_make_plain (by decide) (sp' := spStp C_Telling C_Piece C_TooGreat FA (.m .sum)) (fun _ _ _ _ h => ⟨.sum, by simp, h⟩); rw [hFA] at z ⊢; exact z
      · have z := heldOf C_make_plain (by decide) (sp' := spStp C_Telling C_Piece C_TooGreat FA (.m .product)) (fun _ _ _ _ h => ⟨.product, by simp, h⟩); rw [hFA] at z ⊢; exact z
      · have z := heldOf C_make_plain (by decide) (sp' := spStp C_Telling C_Piece C_TooGreat FA (.m .less)) (fun _ _ _ _ h => ⟨.less, by simp, h⟩); rw [hFA] at z ⊢; exact z
      · have z := heldOf C_make_plain (by decide) (sp' := spStp C_Telling C_Piece C_TooGreat FA (.m .when)) (fun _ _ _ _ h => ⟨.when, by simp, h⟩); rw [hFA] at z ⊢; exact z
      · have z := heldOf C_make_let (by decide) (sp' := spStp C_Telling C_Piece C_TooGreat FA (.m .let)) (fun _ _ _ _ h => h); rw [hFA] at z ⊢; exact z
      · have z := heldOf C_make_turns (by decide) (sp' := spStp C_Telling C_Piece C_TooGreat FA (.m .turns)) (fun _ _ _ _ h => h); rw [hFA] at z ⊢; exact z
      · have z := heldOf C_make_def (by decide) (sp' := spStp C_Telling C_Piece C_TooGreat FA (.m .def)) (fun _ _ _ _ h => h); rw [hFA] at z ⊢; exact z
      · have z := heldOf C_make_use (by decide) (sp' := spStp C_Telling C_Piece C_TooGreat FA (.m .use)) (fun _ _ _ _ h => h); rw [hFA] at z ⊢; exact z
      · exact absurd rfl h1
      · have z := heldOf C_fill_hole (by decide) (sp' := spStp C_Telling C_Piece C_TooGreat FA (.m .hole)) (fun _ _ _ _ h => h); rw [hFA] at z ⊢; exact z
      · exact absurd rfl h2
      · exact absurd rfl h3
    intro s hs
    cases s with
    | tell t E => exact ht t.w hs
    | make t E => exact hm t.w hs.1 hs.2.1 hs.2.2
    | reckon o => have z := heldOf C_reckon (by decide) (sp' := spStp C_Telling C_Piece C_TooGreat FA .reckon) (fun _ _ _ _ h => h); show HeldX l.prog w K mg base 4 (FA .reckon) _; rw [hFA] at z ⊢; exact z
    | choose c a b E => have z := heldOf C_choose (by decide) (sp' := spStp C_Telling C_Piece C_TooGreat FA .choose) (fun _ _ _ _ h => h); show HeldX l.prog w K mg base 4 (FA .choose) _; rw [hFA] at z ⊢; exact z
    | goB x a b E => have z := heldOf C_go_on_with_b (by decide) (sp' := spStp C_Telling C_Piece C_TooGreat FA .goB) (fun _ _ _ _ h => h); show HeldX l.prog w K mg base 4 (FA .goB) _; rw [hFA] at z ⊢; exact z
    | turn m x a b k E => have z := heldOf C_turn (by decide) (sp' := spStp C_Telling C_Piece C_TooGreat FA .turn) (fun _ _ _ _ h => h); show HeldX l.prog w K mg base 4 (FA .turn) _; rw [hFA] at z ⊢; exact z
    | goF f x k a b E => have z := heldOf C_go_on_with_function (by decide) (sp' := spStp C_Telling C_Piece C_TooGreat FA .goF) (fun _ _ _ _ h => h); show HeldX l.prog w K mg base 4 (FA .goF) _; rw [hFA] at z ⊢; exact z
    | mkNum  => have z := heldOf C_make_num (by decide) (sp' := spStp C_Telling C_Piece C_TooGreat FA .mkNum) (fun _ _ _ _ h => h); show HeldX l.prog w K mg base 4 (FA .mkNum) _; rw [hFA] at z ⊢; exact z
    | goPiece  => have z := heldOf C_go_on_with_piece (by decide) (sp' := spStp C_Telling C_Piece C_TooGreat FA .goPiece) (fun _ _ _ _ h => h); show HeldX l.prog w K mg base 4 (FA .goPiece) _; rw [hFA] at z ⊢; exact z
    | put t => have z := heldOf C_put_together (by decide) (sp' := spStp C_Telling C_Piece C_TooGreat FA .put) (fun _ _ _ _ h => h); show HeldX l.prog w K mg base 4 (FA .put) _; rw [hFA] at z ⊢; exact z
    | tooGreat => have z := heldOfX C_refuse_too_great (by decide); show HeldX l.prog w K mg base 4 (FA .tooGreat) _; rw [hFA] at z ⊢; exact z
  have C_value_of : CalMX l.prog w K mg base _ "value_of" ["self", "term"] 5 (spValueOf C_Telling C_Piece C_TooGreat FA) _ _ := ⟨ok_value_of F_Telling_value_of T TC_Telling C_tell HA, ⟨a_Telling_value_of, i_Telling_value_of, k_Telling_value_of⟩, b_Telling_value_of⟩
  have NE : C_Telling ≠ C_Piece := fun e => by
    have z := a_Telling_later
    rw [e, no_Piece_later] at z
    cases z
  have C_law_cell_at : Cal l.prog w K mg base "_law_cell_at" ["_law_script", "_law_k"] 1 (spCellN K) _ _ := ⟨ok_cellN F_law_cell_at T, m_law_cell_at, k_law_cell_at, b_law_cell_at⟩
  have C_law_mixed : Cal l.prog w K mg base "_law_mixed" ["_law_script", "_law_k"] 2 (spMixN K) _ _ := ⟨ok_mixN F_law_mixed T C_law_cell_at, m_law_mixed, k_law_mixed, b_law_mixed⟩
  have C_law_drawn : Cal l.prog w K mg base "_law_drawn" ["_law_number_here", "_law_sizes"] 1 (spDrawn K) _ _ := ⟨ok_drawn F_law_drawn T, m_law_drawn, k_law_drawn, b_law_drawn⟩
  have C_law_name : Cal l.prog w K mg base "_law_name" ["_law_script", "_law_which"] 3 (spNameN K) _ _ := ⟨ok_nameN F_law_name T C_law_mixed, m_law_name, k_law_name, b_law_name⟩
  have C_law_wide : Cal l.prog w K mg base "_law_wide" ["_law_many"] 11 (spWide 10) _ _ := ⟨all_wide F_law_wide m_law_wide k_law_wide b_law_wide 10, m_law_wide, k_law_wide, b_law_wide⟩
  have C_law_great : Cal l.prog w K mg base "_law_great" ["_law_x", "_law_size"] 12 spGreat _ _ := ⟨ok_great F_law_great C_law_wide, m_law_great, k_law_great, b_law_great⟩
  have C_law_step : Cal l.prog w K mg base "_law_step" ["_law_way", "_law_x", "_law_y"] 1 spStep _ _ := ⟨ok_step F_law_step, m_law_step, k_law_step, b_law_step⟩
  have C_law_deep : Cal l.prog w K mg base "_law_deep" ["_law_x", "_law_y", "_law_deep_here", "_law_way"] 2 spDeep _ _ := ⟨ok_deep F_law_deep T C_law_step, m_law_deep, k_law_deep, b_law_deep⟩
  have C_head_of : Cal l.prog w K mg base "head_of" ["term"] 1 spHead _ _ := ⟨ok_head_of F_head_of Z, m_head_of, k_head_of, b_head_of⟩
  have C_parts_of : Cal l.prog w K mg base "parts_of" ["term"] 1 spPartsOf _ _ := ⟨ok_parts_of F_parts_of Z, m_parts_of, k_parts_of, b_parts_of⟩
  have C_edge_of : Cal l.prog w K mg base "edge_of" ["term", "side"] 2 spEdge _ _ := ⟨ok_edge_of F_edge_of T C_head_of C_parts_of, m_edge_of, k_edge_of, b_edge_of⟩
  have C_ends_of : Cal l.prog w K mg base "ends_of" ["term"] 3 spEnds _ _ := ⟨ok_ends_of F_ends_of C_edge_of, m_ends_of, k_ends_of, b_ends_of⟩
  have MK_TermTable : CalC l.prog w K mg base "TermTable" _ ["self"] 1 (spTabInit l.prog w C_TermTable) _ _ := ⟨⟨mk_TermTable, a_TermTable_init, i_TermTable_init, kc_TermTable⟩, ok_tab_init F_TermTable_init TC, mC_TermTable, b_TermTable_init⟩
  have C_place_of : CalM l.prog w K mg base _ "place_of" ["self", "term"] 64 (spPlace l.prog w C_TermTable 60) _ _ := ⟨all_place F_TermTable_place_of T TC C_ends_of C_head_of C_parts_of ⟨a_TermTable_place_of, i_TermTable_place_of, k_TermTable_place_of⟩ b_TermTable_place_of 60, ⟨a_TermTable_place_of, i_TermTable_place_of, k_TermTable_place_of⟩, b_TermTable_place_of⟩
  have C_rows_of : Cal l.prog w K mg base "rows_of" ["term"] 65 spRows _ _ := ⟨ok_rows_of F_rows_of TC MK_TermTable C_place_of, m_rows_of, k_rows_of, b_rows_of⟩
  have C_bound_in_parts : Cal l.prog w K mg base "bound_in_parts" ["head", "many"] 1 spBounds _ _ := ⟨ok_bounds F_bound_in_parts, m_bound_in_parts, k_bound_in_parts, b_bound_in_parts⟩
  have C_loose_names : Cal l.prog w K mg base "loose_names" ["head", "loose_in_parts"] 2 spLooseNames _ _ := ⟨ok_loose_names F_loose_names T C_bound_in_parts, m_loose_names, k_loose_names, b_loose_names⟩
  have C_loose_in_rows : Cal l.prog w K mg base "loose_in_rows" ["rows"] 3 spLooseRows _ _ := ⟨ok_loose_rows F_loose_in_rows C_loose_names, m_loose_in_rows, k_loose_in_rows, b_loose_in_rows⟩
  have MK_Around : CalC l.prog w K mg base "Around" _ ["self", "level", "barred", "names"] 1 (spArInit C_Around) _ _ := ⟨⟨mk_Around, a_Around_init, i_Around_init, kc_Around⟩, ok_ar_init F_Around_init TC_Around, mC_Around, b_Around_init⟩
  have C_within_quote : CalM l.prog w K mg base _ "within_quote" ["self"] 3 (spIn C_Around true) _ _ := ⟨ok_within_quote F_Around_within_quote TC_Around MK_Around, ⟨a_Around_within_quote, i_Around_within_quote, k_Around_within_quote⟩, b_Around_within_quote⟩
  have C_within_hole : CalM l.prog w K mg base _ "within_hole" ["self"] 3 (spIn C_Around false) _ _ := ⟨ok_within_hole F_Around_within_hole TC_Around MK_Around, ⟨a_Around_within_hole, i_Around_within_hole, k_Around_within_hole⟩, b_Around_within_hole⟩
  have C_with_value : CalM l.prog w K mg base _ "with_value" ["self", "name", "kind"] 3 (spWithV C_Around) _ _ := ⟨ok_with_value F_Around_with_value TC_Around MK_Around, ⟨a_Around_with_value, i_Around_with_value, k_Around_with_value⟩, b_Around_with_value⟩
  have C_with_function : CalM l.prog w K mg base _ "with_function" ["self", "name", "wanted", "kind"] 3 (spWithF C_Around) _ _ := ⟨ok_with_function F_Around_with_function TC_Around MK_Around, ⟨a_Around_with_function, i_Around_with_function, k_Around_with_function⟩, b_Around_with_function⟩
  have C_within_function : CalM l.prog w K mg base _ "within_function" ["self", "name", "kind"] 3 (spInF C_Around) _ _ := ⟨ok_within_function F_Around_within_function TC_Around MK_Around, ⟨a_Around_within_function, i_Around_within_function, k_Around_within_function⟩, b_Around_within_function⟩
  have C_meaning_of : CalM l.prog w K mg base _ "meaning_of" ["self", "name"] 1 (spMeaning C_Around) _ _ := ⟨ok_meaning_of F_Around_meaning_of TC_Around, ⟨a_Around_meaning_of, i_Around_meaning_of, k_Around_meaning_of⟩, b_Around_meaning_of⟩
  have MK_Kinds : CalC l.prog w K mg base "Kinds" _ ["self", "rows"] 4 (spKinInit l.prog w C_Kinds) _ _ := ⟨⟨mk_Kinds, a_Kinds_init, i_Kinds_init, kc_Kinds⟩, ok_kin_init F_Kinds_init TC_Kinds C_loose_in_rows, mC_Kinds, b_Kinds_init⟩
  have KA := all_kind (P := l.prog) (w := w) (mg := mg) (base := base) (CK := C_Kinds) (CA := C_Around) F_Kinds_kind_at (fun n ih => by
    have C_kind_at : CalM l.prog w K mg base _ "kind_at" ["self", "place", "around"] (4 * n + 2) (spKind l.prog w C_Kinds C_Around n) _ _ := ⟨ih, ⟨a_Kinds_kind_at, i_Kinds_kind_at, k_Kinds_kind_at⟩, b_Kinds_kind_at⟩
    have C_want : CalM l.prog w K mg base _ "want" ["self", "kind", "place", "around"] (4 * n + 3) (spWant l.prog w C_Kinds C_Around n) _ _ := ⟨ok_want F_Kinds_want TC_Kinds C_kind_at, ⟨a_Kinds_want, i_Kinds_want, k_Kinds_want⟩, b_Kinds_want⟩
    have C_look_at_num : Cal l.prog w K mg base "look_at_num" ["kinds", "head", "places", "around"] (4 * n + 4) (spLook l.prog w C_Kinds C_Around n .num) _ _ := ⟨ok_look_num F_look_at_num TC_Kinds TC_Around, m_look_at_num, k_look_at_num, b_look_at_num⟩
    have C_look_at_name : Cal l.prog w K mg base "look_at_name" ["kinds", "head", "places", "around"] (4 * n + 4) (spLook l.prog w C_Kinds C_Around n .name) _ _ := ⟨ok_look_name F_look_at_name TC_Kinds TC_Around C_meaning_of, m_look_at_name, k_look_at_name, b_look_at_name⟩
    have C_look_at_numbers : Cal l.prog w K mg base "look_at_numbers" ["kinds", "head", "places", "around"] (4 * n + 4) (fun vs H Q E => ∃ o : Bin, spLook l.prog w C_Kinds C_Around n o.w vs H Q E) _ _ := ⟨ok_look_numbers F_look_at_numbers TC_Kinds TC_Around C_want, m_look_at_numbers, k_look_at_numbers, b_look_at_numbers⟩
    have C_look_at_when : Cal l.prog w K mg base "look_at_when" ["kinds", "head", "places", "around"] (4 * n + 4) (spLook l.prog w C_Kinds C_Around n .when) _ _ := ⟨ok_look_when F_look_at_when TC_Kinds TC_Around C_want C_kind_at, m_look_at_when, k_look_at_when, b_look_at_when⟩
    have C_look_at_let : Cal l.prog w K mg base "look_at_let" ["kinds", "head", "places", "around"] (4 * n + 4) (spLook l.prog w C_Kinds C_Around n .let) _ _ := ⟨ok_look_let F_look_at_let TC_Kinds TC_Around C_kind_at C_with_value, m_look_at_let, k_look_at_let, b_look_at_let⟩
    have C_look_at_turns : Cal l.prog w K mg base "look_at_turns" ["kinds", "head", "places", "around"] (4 * n + 4) (spLook l.prog w C_Kinds C_Around n .turns) _ _ := ⟨ok_look_turns F_look_at_turns TC_Kinds TC_Around C_want C_kind_at C_with_value, m_look_at_turns, k_look_at_turns, b_look_at_turns⟩
    have C_look_at_def : Cal l.prog w K mg base "look_at_def" ["kinds", "head", "places", "around"] (4 * n + 4) (spLook l.prog w C_Kinds C_Around n .def) _ _ := ⟨ok_look_def F_look_at_def TC_Kinds TC_Around C_kind_at C_with_function C_within_function, m_look_at_def, k_look_at_def, b_look_at_def⟩
    have C_look_at_use : Cal l.prog w K mg base "look_at_use" ["kinds", "head", "places", "around"] (4 * n + 4) (spLook l.prog w C_Kinds C_Around n .use) _ _ := ⟨ok_look_use F_look_at_use TC_Kinds TC_Around C_want C_meaning_of, m_look_at_use, k_look_at_use, b_look_at_use⟩
    have C_look_at_quote : Cal l.prog w K mg base "look_at_quote" ["kinds", "head", "places", "around"] (4 * n + 4) (spLook l.prog w C_Kinds C_Around n .quote) _ _ := ⟨ok_look_quote F_look_at_quote TC_Kinds TC_Around C_want C_within_quote, m_look_at_quote, k_look_at_quote, b_look_at_quote⟩
    have C_look_at_hole : Cal l.prog w K mg base "look_at_hole" ["kinds", "head", "places", "around"] (4 * n + 4) (spLook l.prog w C_Kinds C_Around n .hole) _ _ := ⟨ok_look_hole F_look_at_hole TC_Kinds TC_Around C_want C_within_hole, m_look_at_hole, k_look_at_hole, b_look_at_hole⟩
    have C_look_at_lift : Cal l.prog w K mg base "look_at_lift" ["kinds", "head", "places", "around"] (4 * n + 4) (spLook l.prog w C_Kinds C_Around n .lift) _ _ := ⟨ok_look_lift F_look_at_lift TC_Kinds TC_Around C_want, m_look_at_lift, k_look_at_lift, b_look_at_lift⟩
    have C_look_at_run : Cal l.prog w K mg base "look_at_run" ["kinds", "head", "places", "around"] (4 * n + 4) (spLook l.prog w C_Kinds C_Around n .run) _ _ := ⟨ok_look_run F_look_at_run TC_Kinds TC_Around C_want, m_look_at_run, k_look_at_run, b_look_at_run⟩
    have HL : ∀ u : W, HeldK l.prog w K mg base (4 * n + 4) (FL u) (spLook l.prog w C_Kinds C_Around n u) := fun u => by
      cases u
      · have z : HeldK l.prog w K mg base (4 * n + 4) f_look_at_num (spLook l.prog w C_Kinds C_Around n .num) := ⟨_, _, C_look_at_num.ok, C_look_at_num.kp, C_look_at_num.b⟩; rw [hFL]; exact z
      · have z : HeldK l.prog w K mg base (4 * n + 4) f_look_at_name (spLook l.prog w C_Kinds C_Around n .name) := ⟨_, _, C_look_at_name.ok, C_look_at_name.kp, C_look_at_name.b⟩; rw [hFL]; exact z
      · have z : HeldK l.prog w K mg base (4 * n + 4) f_look_at_numbers (spLook l.prog w C_Kinds C_Around n .sum) := ⟨_, _, FnOk.weakK C_look_at_numbers.ok (fun _ _ _ _ h => ⟨.sum, h⟩), C_look_at_numbers.kp, C_look_at_numbers.b⟩; rw [hFL]; exact z
      · have z : HeldK l.prog w K mg base (4 * n + 4) f_look_at_numbers (spLook l.prog w C_Kinds C_Around n .product) := ⟨_, _, FnOk.weakK C_look_at_numbers.ok (fun _ _ _ _ h => ⟨.product, h⟩), C_look_at_numbers.kp, C_look_at_numbers.b⟩; rw [hFL]; exact z
      · have z : HeldK l.prog w K mg base (4 * n + 4) f_look_at_numbers (spLook l.prog w C_Kinds C_Around n .less) := ⟨_, _, FnOk.weakK C_look_at_numbers.ok (fun _ _ _ _ h => ⟨.less, h⟩), C_look_at_numbers.kp, C_look_at_numbers.b⟩; rw [hFL]; exact z
      · have z : HeldK l.prog w K mg base (4 * n + 4) f_look_at_when (spLook l.prog w C_Kinds C_Around n .when) := ⟨_, _, C_look_at_when.ok, C_look_at_when.kp, C_look_at_when.b⟩; rw [hFL]; exact z
      · have z : HeldK l.prog w K mg base (4 * n + 4) f_look_at_let (spLook l.prog w C_Kinds C_Around n .let) := ⟨_, _, C_look_at_let.ok, C_look_at_let.kp, C_look_at_let.b⟩; rw [hFL]; exact z
      · have z : HeldK l.prog w K mg base (4 * n + 4) f_look_at_turns (spLook l.prog w C_Kinds C_Around n .turns) := ⟨_, _, C_look_at_turns.ok, C_look_at_turns.kp, C_look_at_turns.b⟩; rw [hFL]; exact z
      · have z : HeldK l.prog w K mg base (4 * n + 4) f_look_at_def (spLook l.prog w C_Kinds C_Around n .def) := ⟨_, _, C_look_at_def.ok, C_look_at_def.kp, C_look_at_def.b⟩; rw [hFL]; exact z
      · have z : HeldK l.prog w K mg base (4 * n + 4) f_look_at_use (spLook l.prog w C_Kinds C_Around n .use) := ⟨_, _, C_look_at_use.ok, C_look_at_use.kp, C_look_at_use.b⟩; rw [hFL]; exact z
      · have z : HeldK l.prog w K mg base (4 * n + 4) f_look_at_quote (spLook l.prog w C_Kinds C_Around n .quote) := ⟨_, _, C_look_at_quote.ok, C_look_at_quote.kp, C_look_at_quote.b⟩; rw [hFL]; exact z
      · have z : HeldK l.prog w K mg base (4 * n + 4) f_look_at_hole (spLook l.prog w C_Kinds C_Around n .hole) := ⟨_, _, C_look_at_hole.ok, C_look_at_hole.kp, C_look_at_hole.b⟩; rw [hFL]; exact z
      · have z : HeldK l.prog w K mg base (4 * n + 4) f_look_at_lift (spLook l.prog w C_Kinds C_Around n .lift) := ⟨_, _, C_look_at_lift.ok, C_look_at_lift.kp, C_look_at_lift.b⟩; rw [hFL]; exact z
      · have z : HeldK l.prog w K mg base (4 * n + 4) f_look_at_run (spLook l.prog w C_Kinds C_Around n .run) := ⟨_, _, C_look_at_run.ok, C_look_at_run.kp, C_look_at_run.b⟩; rw [hFL]; exact z
    have C_looked_at : CalM l.prog w K mg base _ "looked_at" ["self", "place", "around"] (4 * n + 5) (spLooked l.prog w C_Kinds C_Around n) _ _ := ⟨ok_looked_at F_Kinds_looked_at TC_Kinds TC_Around KL HL, ⟨a_Kinds_looked_at, i_Kinds_looked_at, k_Kinds_looked_at⟩, b_Kinds_looked_at⟩
    exact ok_kind_at F_Kinds_kind_at T TC_Kinds TC_Around C_looked_at)
  have C_kind_at : CalM l.prog w K mg base _ "kind_at" ["self", "place", "around"] (4 * 40 + 2) (spKind l.prog w C_Kinds C_Around 40) _ _ := ⟨KA 40, ⟨a_Kinds_kind_at, i_Kinds_kind_at, k_Kinds_kind_at⟩, b_Kinds_kind_at⟩
  have C_kind_of : Cal l.prog w K mg base "kind_of" ["term"] (4 * 40 + 3) (spKindOfN 40) _ _ := ⟨ok_kind_of (N := 40) ⟨by decide, by decide⟩ F_kind_of TC_Kinds TC_Around C_rows_of MK_Kinds MK_Around C_kind_at T, m_kind_of, k_kind_of, b_kind_of⟩
  have C_size_of : Cal l.prog w K mg base "size_of" ["term"] 66 spSize _ _ := ⟨ok_size_of F_size_of T C_rows_of, m_size_of, k_size_of, b_size_of⟩
  have C_depth_of : Cal l.prog w K mg base "depth_of" ["term"] 66 spDepth _ _ := ⟨ok_depth_of F_depth_of T C_rows_of, m_depth_of, k_depth_of, b_depth_of⟩
  have C_refuse_unless : CalX l.prog w K mg base "refuse_unless" ["kind", "term"] (4 * 40 + 4) (spRefuseX 40 C_WrongKind) _ _ := ⟨ok_refuseX F_refuse_unless X_WrongKind C_kind_of, m_refuse_unless, k_refuse_unless, b_refuse_unless⟩
  have C_told : CalX l.prog w K mg base "told" ["term"] 166 (spToldX 40 C_WrongKind C_TooGreat) _ _ := ⟨ok_toldX (N := 40) (by decide) F_told TC_Telling NE MK_Telling C_value_of C_refuse_unless, m_told, k_told, b_told⟩
  have C_made : CalX l.prog w K mg base "made" ["term"] 166 (spMadeX 40 C_WrongKind C_TooGreat) _ _ := ⟨ok_madeX (N := 40) (by decide) F_made TC_Telling TC_Piece NE MK_Telling C_value_of C_refuse_unless, m_made, k_made, b_made⟩
  have C_law_refused : Cal l.prog w K mg base "_law_refused" ["_law_program", "_law_way"] 167 spRefused _ _ := ⟨ok_refused F_law_refused T FM X_HallError X_NoName X_WrongLevel X_WrongKind X_TooGreat C_told C_made, m_law_refused, k_law_refused, b_law_refused⟩
  have C_law_wrong_kind : Cal l.prog w K mg base "_law_wrong_kind" ["_law_program", "_law_way"] 167 spWrongKind _ _ := ⟨ok_wrong_kind F_law_wrong_kind T FM X_HallError X_WrongKind X_TooGreat C_told C_made, m_law_wrong_kind, k_law_wrong_kind, b_law_wrong_kind⟩
  have C_law_done : Cal l.prog w K mg base "_law_done" ["_law_program", "_law_way"] 167 spDone _ _ := ⟨ok_done F_law_done T FM X_TooGreat C_told C_made, m_law_done, k_law_done, b_law_done⟩
  exact ok_law F_law T C_law_mixed C_law_drawn C_law_name C_law_great C_law_deep C_law_refused C_law_wrong_kind C_law_done C_size_of C_depth_of
theorem walk {l : PySem.W.OpenLaw} {q : Program} {loose : List Str} {XP : (Str → Option Value) → Heap → Prop} {YP : World → Heap → Prop} {d : DefRec} {K : Params → PySem.W.Frag} (hn : l.most = some 63) (hdf : d.params.defaults = [])
    (hY : ∀ (w : World) (h : Heap), YP w h → (K w.params).In h)
    (F : ∀ (w : World) (mg : Str → Option Value) (fa : Addr) (h : Heap), (K w.params).In h → h.Ns mainGlobals mg → mg d.name = some (.ref fa) →
      ∃ fd : FuncData, (∀ (s : Shared) (u : Value), BindsTo s fd ⟨[u], []⟩ [("_law_script", u)]) ∧ ∀ base : Heap, (K w.params).In base → base.Ns mainGlobals mg → FnOk l.prog w (K w.params) mg base CX0 168 fa fd ["_law_script"] (spLaw (K w.params))) :
    PySem.W.WalkO q loose XP YP l.row.toRowW d [] (fun f vs => PySem.call f vs) :=
  L2.walk_of (n := 63) (k := 168) (x := "_law_script") (CX := fun _ => CX0) (sp := fun w => spLaw (K w.params)) hn (by decide) hdf ⟨rfl, by decide, by decide⟩ hY F (fun _ _ a ns hl hO hS => ⟨a, rfl, Ints.of hO hS hl, fun _ => rfl⟩) fun _ _ _ _ _ z => z
end Q
open PySem PySem.W PyProof.Rows in
set_option maxRecDepth 100000 in
set_option maxHeartbeats 0 in
theorem PySem.Challenge.cw_quotehall_k11_too_great_holds : PySem.Challenge.rw_quotehall_k11_too_great.Holds := by
  w_on; o_law; k_head; (case hw => w_witness2)
  k_fill
  refine Q.walk (l := PySem.Challenge.rw_quotehall_k11_too_great) rfl rfl (fun w h Y => PySem.W.kIn_of Y) ?F
  case F =>
    intro w mg fa h KX G hmg
    refine' Q.all_mk KX G hmg ?aC_HallError ?ex_HallError ?ke_HallError ?be_HallError ?te_HallError ?aC_NoName ?ex_NoName ?ke_NoName ?be_NoName ?te_NoName ?aC_WrongLevel ?ex_WrongLevel ?ke_WrongLevel ?be_WrongLevel ?te_WrongLevel ?aC_WrongKind ?ex_WrongKind ?ke_WrongKind ?be_WrongKind ?te_WrongKind ?aC_TooGreat ?ex_TooGreat ?ke_TooGreat ?be_TooGreat ?te_TooGreat ?aC_TermTable ?pg_TermTable ?hd_TermTable ?po_TermTable ?sa_TermTable ?mk_TermTable ?kc_TermTable ?no_TermTable_rows ?no_TermTable_known ?aC_Around ?pg_Around ?hd_Around ?po_Around ?sa_Around ?mk_Around ?kc_Around ?no_Around_level ?no_Around_barred ?no_Around_names ?aC_Kinds ?pg_Kinds ?hd_Kinds ?po_Kinds ?sa_Kinds ?mk_Kinds ?kc_Kinds ?no_Kinds_rows ?no_Kinds_loose ?no_Kinds_known ?aC_Piece ?pg_Piece ?hd_Piece ?po_Piece ?sa_Piece ?mk_Piece ?kc_Piece ?no_Piece_term ?no_Piece_size ?no_Piece_depth ?no_Piece_later ?aC_Telling ?pg_Telling ?hd_Telling ?po_Telling ?sa_Telling ?mk_Telling ?kc_Telling ?no_Telling_steps ?no_Telling_found ?no_Telling_named ?eg_NoName ?ek_NoName ?ed_NoName ?ea_NoName ?em_NoName ?sv_NoName ?sh_NoName ?su_NoName_NoName ?su_NoName_WrongLevel ?su_NoName_WrongKind ?su_NoName_TooGreat ?eg_WrongLevel ?ek_WrongLevel ?ed_WrongLevel ?ea_WrongLevel ?em_WrongLevel ?sv_WrongLevel ?sh_WrongLevel ?su_WrongLevel_NoName ?su_WrongLevel_WrongLevel ?su_WrongLevel_WrongKind ?su_WrongLevel_TooGreat ?eg_WrongKind ?ek_WrongKind ?ed_WrongKind ?ea_WrongKind ?em_WrongKind ?sv_WrongKind ?sh_WrongKind ?su_WrongKind_NoName ?su_WrongKind_WrongLevel ?su_WrongKind_WrongKind ?su_WrongKind_TooGreat ?eg_TooGreat ?ek_TooGreat ?ed_TooGreat ?ea_TooGreat ?em_TooGreat ?sv_TooGreat ?sh_TooGreat ?su_TooGreat_NoName ?su_TooGreat_WrongLevel ?su_TooGreat_WrongKind ?su_TooGreat_TooGreat ?ed_HallError ?en_obj ?et_obj ?a_size_of ?l_size_of ?c_size_of ?k_size_of ?a_depth_of ?l_depth_of ?c_depth_of ?k_depth_of ?a_loose_in_rows ?l_loose_in_rows ?c_loose_in_rows ?k_loose_in_rows ?a_loose_names ?l_loose_names ?c_loose_names ?k_loose_names ?a_bound_in_parts ?l_bound_in_parts ?c_bound_in_parts ?k_bound_in_parts ?a_head_of ?l_head_of ?c_head_of ?k_head_of ?a_parts_of ?l_parts_of ?c_parts_of ?k_parts_of ?a_rows_of ?l_rows_of ?c_rows_of ?k_rows_of ?a_TermTable_init ?i_TermTable_init ?l_TermTable_init ?c_TermTable_init ?k_TermTable_init ?a_TermTable_place_of ?i_TermTable_place_of ?l_TermTable_place_of ?c_TermTable_place_of ?k_TermTable_place_of ?a_ends_of ?l_ends_of ?c_ends_of ?k_ends_of ?a_edge_of ?l_edge_of ?c_edge_of ?k_edge_of ?a_kind_of ?l_kind_of ?c_kind_of ?k_kind_of ?a_Around_init ?i_Around_init ?l_Around_init ?c_Around_init ?k_Around_init ?a_Around_within_quote ?i_Around_within_quote ?l_Around_within_quote ?c_Around_within_quote ?k_Around_within_quote ?a_Around_within_hole ?i_Around_within_hole ?l_Around_within_hole ?c_Around_within_hole ?k_Around_within_hole ?a_Around_with_value ?i_Around_with_value ?l_Around_with_value ?c_Around_with_value ?k_Around_with_value ?a_Around_with_function ?i_Around_with_function ?l_Around_with_function ?c_Around_with_function ?k_Around_with_function ?a_Around_within_function ?i_Around_within_function ?l_Around_within_function ?c_Around_within_function ?k_Around_within_function ?a_Around_meaning_of ?i_Around_meaning_of ?l_Around_meaning_of ?c_Around_meaning_of ?k_Around_meaning_of ?a_Kinds_init ?i_Kinds_init ?l_Kinds_init ?c_Kinds_init ?k_Kinds_init ?a_Kinds_kind_at ?i_Kinds_kind_at ?l_Kinds_kind_at ?c_Kinds_kind_at ?k_Kinds_kind_at ?a_Kinds_looked_at ?i_Kinds_looked_at ?l_Kinds_looked_at ?c_Kinds_looked_at ?k_Kinds_looked_at ?a_Kinds_want ?i_Kinds_want ?l_Kinds_want ?c_Kinds_want ?k_Kinds_want ?a_look_at_num ?l_look_at_num ?c_look_at_num ?k_look_at_num ?a_look_at_name ?l_look_at_name ?c_look_at_name ?k_look_at_name ?a_look_at_numbers ?l_look_at_numbers ?c_look_at_numbers ?k_look_at_numbers ?a_look_at_when ?l_look_at_when ?c_look_at_when ?k_look_at_when ?a_look_at_let ?l_look_at_let ?c_look_at_let ?k_look_at_let ?a_look_at_turns ?l_look_at_turns ?c_look_at_turns ?k_look_at_turns ?a_look_at_def ?l_look_at_def ?c_look_at_def ?k_look_at_def ?a_look_at_use ?l_look_at_use ?c_look_at_use ?k_look_at_use ?a_look_at_quote ?l_look_at_quote ?c_look_at_quote ?k_look_at_quote ?a_look_at_hole ?l_look_at_hole ?c_look_at_hole ?k_look_at_hole ?a_look_at_lift ?l_look_at_lift ?c_look_at_lift ?k_look_at_lift ?a_look_at_run ?l_look_at_run ?c_look_at_run ?k_look_at_run ?a_told ?l_told ?c_told ?k_told ?a_made ?l_made ?c_made ?k_made ?a_refuse_unless ?l_refuse_unless ?c_refuse_unless ?k_refuse_unless ?a_Piece_init ?i_Piece_init ?l_Piece_init ?c_Piece_init ?k_Piece_init ?a_Telling_init ?i_Telling_init ?l_Telling_init ?c_Telling_init ?k_Telling_init ?a_Telling_value_of ?i_Telling_value_of ?l_Telling_value_of ?c_Telling_value_of ?k_Telling_value_of ?a_Telling_later ?i_Telling_later ?l_Telling_later ?c_Telling_later ?k_Telling_later ?a_Telling_tell ?i_Telling_tell ?l_Telling_tell ?c_Telling_tell ?k_Telling_tell ?a_Telling_make ?i_Telling_make ?l_Telling_make ?c_Telling_make ?k_Telling_make ?a_Telling_make_of ?i_Telling_make_of ?l_Telling_make_of ?c_Telling_make_of ?k_Telling_make_of ?a_Telling_new_name ?i_Telling_new_name ?l_Telling_new_name ?c_Telling_new_name ?k_Telling_new_name ?a_tell_num ?l_tell_num ?c_tell_num ?k_tell_num ?a_tell_name ?l_tell_name ?c_tell_name ?k_tell_name ?a_tell_two ?l_tell_two ?c_tell_two ?k_tell_two ?a_reckon ?l_reckon ?c_reckon ?k_reckon ?a_tell_when ?l_tell_when ?c_tell_when ?k_tell_when ?a_choose ?l_choose ?c_choose ?k_choose ?a_tell_let ?l_tell_let ?c_tell_let ?k_tell_let ?a_go_on_with_b ?l_go_on_with_b ?c_go_on_with_b ?k_go_on_with_b ?a_tell_turns ?l_tell_turns ?c_tell_turns ?k_tell_turns ?a_turn ?l_turn ?c_turn ?k_turn ?a_tell_def ?l_tell_def ?c_tell_def ?k_tell_def ?a_tell_use ?l_tell_use ?c_tell_use ?k_tell_use ?a_go_on_with_function ?l_go_on_with_function ?c_go_on_with_function ?k_go_on_with_function ?a_tell_quote ?l_tell_quote ?c_tell_quote ?k_tell_quote ?a_refuse_too_great ?l_refuse_too_great ?c_refuse_too_great ?k_refuse_too_great ?a_tell_lift ?l_tell_lift ?c_tell_lift ?k_tell_lift ?a_make_num ?l_make_num ?c_make_num ?k_make_num ?a_tell_run ?l_tell_run ?c_tell_run ?k_tell_run ?a_go_on_with_piece ?l_go_on_with_piece ?c_go_on_with_piece ?k_go_on_with_piece ?a_make_same ?l_make_same ?c_make_same ?k_make_same ?a_make_name ?l_make_name ?c_make_name ?k_make_name ?a_make_plain ?l_make_plain ?c_make_plain ?k_make_plain ?a_make_let ?l_make_let ?c_make_let ?k_make_let ?a_make_turns ?l_make_turns ?c_make_turns ?k_make_turns ?a_make_def ?l_make_def ?c_make_def ?k_make_def ?a_make_use ?l_make_use ?c_make_use ?k_make_use ?a_fill_hole ?l_fill_hole ?c_fill_hole ?k_fill_hole ?a_put_together ?l_put_together ?c_put_together ?k_put_together ?a_law_cell_at ?l_law_cell_at ?c_law_cell_at ?k_law_cell_at ?a_law_mixed ?l_law_mixed ?c_law_mixed ?k_law_mixed ?a_law_drawn ?l_law_drawn ?c_law_drawn ?k_law_drawn ?a_law_name ?l_law_name ?c_law_name ?k_law_name ?a_law_wide ?l_law_wide ?c_law_wide ?k_law_wide ?a_law_great ?l_law_great ?c_law_great ?k_law_great ?a_law_step ?l_law_step ?c_law_step ?k_law_step ?a_law_deep ?l_law_deep ?c_law_deep ?k_law_deep ?a_law_refused ?l_law_refused ?c_law_refused ?k_law_refused ?a_law_wrong_kind ?l_law_wrong_kind ?c_law_wrong_kind ?k_law_wrong_kind ?a_law_done ?l_law_done ?c_law_done ?k_law_done ?a_law ?l_law ?c_law ?k_law ?z_ValueError ?z_int ?z_isinstance ?z_len ?z_list ?z_max ?z_min ?z_range ?z_reversed ?z_sum ?z_tuple ?z_zip ?gi_RECKONED_BY ?gi_MOST_TERMS ?gi_DEEPEST ?aD_PARTS_AT ?lD_PARTS_AT ?kD_PARTS_AT ?d_PARTS_AT_num ?d_PARTS_AT_name ?d_PARTS_AT_sum ?d_PARTS_AT_product ?d_PARTS_AT_less ?d_PARTS_AT_when ?d_PARTS_AT_let ?d_PARTS_AT_turns ?d_PARTS_AT_def ?d_PARTS_AT_use ?d_PARTS_AT_quote ?d_PARTS_AT_hole ?d_PARTS_AT_lift ?d_PARTS_AT_run ?aD_LEVEL_OF ?lD_LEVEL_OF ?kD_LEVEL_OF ?sy_LEVEL_OF ?n_LEVEL_OF_num ?n_LEVEL_OF_name ?n_LEVEL_OF_sum ?n_LEVEL_OF_product ?n_LEVEL_OF_less ?n_LEVEL_OF_when ?n_LEVEL_OF_let ?n_LEVEL_OF_turns ?n_LEVEL_OF_def ?n_LEVEL_OF_use ?d_LEVEL_OF_quote ?d_LEVEL_OF_hole ?d_LEVEL_OF_lift ?d_LEVEL_OF_run ?aD_LOOKS ?lD_LOOKS ?kD_LOOKS ?d_LOOKS_num ?d_LOOKS_name ?d_LOOKS_sum ?d_LOOKS_product ?d_LOOKS_less ?d_LOOKS_when ?d_LOOKS_let ?d_LOOKS_turns ?d_LOOKS_def ?d_LOOKS_use ?d_LOOKS_quote ?d_LOOKS_hole ?d_LOOKS_lift ?d_LOOKS_run ?aD_TELLERS ?lD_TELLERS ?kD_TELLERS ?d_TELLERS_num ?d_TELLERS_name ?d_TELLERS_sum ?d_TELLERS_product ?d_TELLERS_less ?d_TELLERS_when ?d_TELLERS_let ?d_TELLERS_turns ?d_TELLERS_def ?d_TELLERS_use ?d_TELLERS_quote ?d_TELLERS_lift ?d_TELLERS_run ?aD_MAKERS ?lD_MAKERS ?kD_MAKERS ?d_MAKERS_num ?d_MAKERS_name ?d_MAKERS_sum ?d_MAKERS_product ?d_MAKERS_less ?d_MAKERS_when ?d_MAKERS_let ?d_MAKERS_turns ?d_MAKERS_def ?d_MAKERS_use ?d_MAKERS_hole
    (case aC_HallError => k_is)
    (case ex_HallError => k_exc)
    (case ke_HallError => k_is)
    (case be_HallError => k_is)
    (case te_HallError => k_is)
    (case aC_NoName => k_is)
    (case ex_NoName => k_exc)
    (case ke_NoName => k_is)
    (case be_NoName => k_is)
    (case te_NoName => k_is)
    (case aC_WrongLevel => k_is)
    (case ex_WrongLevel => k_exc)
    (case ke_WrongLevel => k_is)
    (case be_WrongLevel => k_is)
    (case te_WrongLevel => k_is)
    (case aC_WrongKind => k_is)
    (case ex_WrongKind => k_exc)
    (case ke_WrongKind => k_is)
    (case be_WrongKind => k_is)
    (case te_WrongKind => k_is)
    (case aC_TooGreat => k_is)
    (case ex_TooGreat => k_exc)
    (case ke_TooGreat => k_is)
    (case be_TooGreat => k_is)
    (case te_TooGreat => k_is)
    (case aC_TermTable => k_is)
    (case pg_TermTable => k_is)
    (case hd_TermTable => k_is)
    (case po_TermTable => k_is)
    (case sa_TermTable => k_is)
    (case mk_TermTable => k_is)
    (case kc_TermTable => k_is)
    (case no_TermTable_rows => k_is)
    (case no_TermTable_known => k_is)
    (case aC_Around => k_is)
    (case pg_Around => k_is)
    (case hd_Around => k_is)
    (case po_Around => k_is)
    (case sa_Around => k_is)
    (case mk_Around => k_is)
    (case kc_Around => k_is)
    (case no_Around_level => k_is)
    (case no_Around_barred => k_is)
    (case no_Around_names => k_is)
    (case aC_Kinds => k_is)
    (case pg_Kinds => k_is)
    (case hd_Kinds => k_is)
    (case po_Kinds => k_is)
    (case sa_Kinds => k_is)
    (case mk_Kinds => k_is)
    (case kc_Kinds => k_is)
    (case no_Kinds_rows => k_is)
    (case no_Kinds_loose => k_is)
    (case no_Kinds_known => k_is)
    (case aC_Piece => k_is)
    (case pg_Piece => k_is)
    (case hd_Piece => k_is)
    (case po_Piece => k_is)
    (case sa_Piece => k_is)
    (case mk_Piece => k_is)
    (case kc_Piece => k_is)
    (case no_Piece_term => k_is)
    (case no_Piece_size => k_is)
    (case no_Piece_depth => k_is)
    (case no_Piece_later => k_is)
    (case aC_Telling => k_is)
    (case pg_Telling => k_is)
    (case hd_Telling => k_is)
    (case po_Telling => k_is)
    (case sa_Telling => k_is)
    (case mk_Telling => k_is)
    (case kc_Telling => k_is)
    (case no_Telling_steps => k_is)
    (case no_Telling_found => k_is)
    (case no_Telling_named => k_is)
    (case eg_NoName => k_is)
    (case ek_NoName => k_is)
    (case ed_NoName => k_is)
    (case ea_NoName => k_is)
    (case em_NoName => k_is)
    (case sv_NoName => k_is)
    (case sh_NoName => k_is)
    (case su_NoName_NoName => k_is)
    (case su_NoName_WrongLevel => k_is)
    (case su_NoName_WrongKind => k_is)
    (case su_NoName_TooGreat => k_is)
    (case eg_WrongLevel => k_is)
    (case ek_WrongLevel => k_is)
    (case ed_WrongLevel => k_is)
    (case ea_WrongLevel => k_is)
    (case em_WrongLevel => k_is)
    (case sv_WrongLevel => k_is)
    (case sh_WrongLevel => k_is)
    (case su_WrongLevel_NoName => k_is)
    (case su_WrongLevel_WrongLevel => k_is)
    (case su_WrongLevel_WrongKind => k_is)
    (case su_WrongLevel_TooGreat => k_is)
    (case eg_WrongKind => k_is)
    (case ek_WrongKind => k_is)
    (case ed_WrongKind => k_is)
    (case ea_WrongKind => k_is)
    (case em_WrongKind => k_is)
    (case sv_WrongKind => k_is)
    (case sh_WrongKind => k_is)
    (case su_WrongKind_NoName => k_is)
    (case su_WrongKind_WrongLevel => k_is)
    (case su_WrongKind_WrongKind => k_is)
    (case su_WrongKind_TooGreat => k_is)
    (case eg_TooGreat => k_is)
    (case ek_TooGreat => k_is)
    (case ed_TooGreat => k_is)
    (case ea_TooGreat => k_is)
    (case em_TooGreat => k_is)
    (case sv_TooGreat => k_is)
    (case sh_TooGreat => k_is)
    (case su_TooGreat_NoName => k_is)
    (case su_TooGreat_WrongLevel => k_is)
    (case su_TooGreat_WrongKind => k_is)
    (case su_TooGreat_TooGreat => k_is)
    (case ed_HallError => k_is)
    (case en_obj => k_is)
    (case et_obj => k_is)
    (case a_size_of => k_is)
    (case l_size_of => k_is)
    (case c_size_of => k_is)
    (case k_size_of => k_is)
    (case a_depth_of => k_is)
    (case l_depth_of => k_is)
    (case c_depth_of => k_is)
    (case k_depth_of => k_is)
    (case a_loose_in_rows => k_is)
    (case l_loose_in_rows => k_is)
    (case c_loose_in_rows => k_is)
    (case k_loose_in_rows => k_is)
    (case a_loose_names => k_is)
    (case l_loose_names => k_is)
    (case c_loose_names => k_is)
    (case k_loose_names => k_is)
    (case a_bound_in_parts => k_is)
    (case l_bound_in_parts => k_is)
    (case c_bound_in_parts => k_is)
    (case k_bound_in_parts => k_is)
    (case a_head_of => k_is)
    (case l_head_of => k_is)
    (case c_head_of => k_is)
    (case k_head_of => k_is)
    (case a_parts_of => k_is)
    (case l_parts_of => k_is)
    (case c_parts_of => k_is)
    (case k_parts_of => k_is)
    (case a_rows_of => k_is)
    (case l_rows_of => k_is)
    (case c_rows_of => k_is)
    (case k_rows_of => k_is)
    (case a_TermTable_init => k_is)
    (case i_TermTable_init => k_is)
    (case l_TermTable_init => k_is)
    (case c_TermTable_init => k_is)
    (case k_TermTable_init => k_is)
    (case a_TermTable_place_of => k_is)
    (case i_TermTable_place_of => k_is)
    (case l_TermTable_place_of => k_is)
    (case c_TermTable_place_of => k_is)
    (case k_TermTable_place_of => k_is)
    (case a_ends_of => k_is)
    (case l_ends_of => k_is)
    (case c_ends_of => k_is)
    (case k_ends_of => k_is)
    (case a_edge_of => k_is)
    (case l_edge_of => k_is)
    (case c_edge_of => k_is)
    (case k_edge_of => k_is)
    (case a_kind_of => k_is)
    (case l_kind_of => k_is)
    (case c_kind_of => k_is)
    (case k_kind_of => k_is)
    (case a_Around_init => k_is)
    (case i_Around_init => k_is)
    (case l_Around_init => k_is)
    (case c_Around_init => k_is)
    (case k_Around_init => k_is)
    (case a_Around_within_quote => k_is)
    (case i_Around_within_quote => k_is)
    (case l_Around_within_quote => k_is)
    (case c_Around_within_quote => k_is)
    (case k_Around_within_quote => k_is)
    (case a_Around_within_hole => k_is)
    (case i_Around_within_hole => k_is)
    (case l_Around_within_hole => k_is)
    (case c_Around_within_hole => k_is)
    (case k_Around_within_hole => k_is)
    (case a_Around_with_value => k_is)
    (case i_Around_with_value => k_is)
    (case l_Around_with_value => k_is)
    (case c_Around_with_value => k_is)
    (case k_Around_with_value => k_is)
    (case a_Around_with_function => k_is)
    (case i_Around_with_function => k_is)
    (case l_Around_with_function => k_is)
    (case c_Around_with_function => k_is)
    (case k_Around_with_function => k_is)
    (case a_Around_within_function => k_is)
    (case i_Around_within_function => k_is)
    (case l_Around_within_function => k_is)
    (case c_Around_within_function => k_is)
    (case k_Around_within_function => k_is)
    (case a_Around_meaning_of => k_is)
    (case i_Around_meaning_of => k_is)
    (case l_Around_meaning_of => k_is)
    (case c_Around_meaning_of => k_is)
    (case k_Around_meaning_of => k_is)
    (case a_Kinds_init => k_is)
    (case i_Kinds_init => k_is)
    (case l_Kinds_init => k_is)
    (case c_Kinds_init => k_is)
    (case k_Kinds_init => k_is)
    (case a_Kinds_kind_at => k_is)
    (case i_Kinds_kind_at => k_is)
    (case l_Kinds_kind_at => k_is)
    (case c_Kinds_kind_at => k_is)
    (case k_Kinds_kind_at => k_is)
    (case a_Kinds_looked_at => k_is)
    (case i_Kinds_looked_at => k_is)
    (case l_Kinds_looked_at => k_is)
    (case c_Kinds_looked_at => k_is)
    (case k_Kinds_looked_at => k_is)
    (case a_Kinds_want => k_is)
    (case i_Kinds_want => k_is)
    (case l_Kinds_want => k_is)
    (case c_Kinds_want => k_is)
    (case k_Kinds_want => k_is)
    (case a_look_at_num => k_is)
    (case l_look_at_num => k_is)
    (case c_look_at_num => k_is)
    (case k_look_at_num => k_is)
    (case a_look_at_name => k_is)
    (case l_look_at_name => k_is)
    (case c_look_at_name => k_is)
    (case k_look_at_name => k_is)
    (case a_look_at_numbers => k_is)
    (case l_look_at_numbers => k_is)
    (case c_look_at_numbers => k_is)
    (case k_look_at_numbers => k_is)
    (case a_look_at_when => k_is)
    (case l_look_at_when => k_is)
    (case c_look_at_when => k_is)
    (case k_look_at_when => k_is)
    (case a_look_at_let => k_is)
    (case l_look_at_let => k_is)
    (case c_look_at_let => k_is)
    (case k_look_at_let => k_is)
    (case a_look_at_turns => k_is)
    (case l_look_at_turns => k_is)
    (case c_look_at_turns => k_is)
    (case k_look_at_turns => k_is)
    (case a_look_at_def => k_is)
    (case l_look_at_def => k_is)
    (case c_look_at_def => k_is)
    (case k_look_at_def => k_is)
    (case a_look_at_use => k_is)
    (case l_look_at_use => k_is)
    (case c_look_at_use => k_is)
    (case k_look_at_use => k_is)
    (case a_look_at_quote => k_is)
    (case l_look_at_quote => k_is)
    (case c_look_at_quote => k_is)
    (case k_look_at_quote => k_is)
    (case a_look_at_hole => k_is)
    (case l_look_at_hole => k_is)
    (case c_look_at_hole => k_is)
    (case k_look_at_hole => k_is)
    (case a_look_at_lift => k_is)
    (case l_look_at_lift => k_is)
    (case c_look_at_lift => k_is)
    (case k_look_at_lift => k_is)
    (case a_look_at_run => k_is)
    (case l_look_at_run => k_is)
    (case c_look_at_run => k_is)
    (case k_look_at_run => k_is)
    (case a_told => k_is)
    (case l_told => k_is)
    (case c_told => k_is)
    (case k_told => k_is)
    (case a_made => k_is)
    (case l_made => k_is)
    (case c_made => k_is)
    (case k_made => k_is)
    (case a_refuse_unless => k_is)
    (case l_refuse_unless => k_is)
    (case c_refuse_unless => k_is)
    (case k_refuse_unless => k_is)
    (case a_Piece_init => k_is)
    (case i_Piece_init => k_is)
    (case l_Piece_init => k_is)
    (case c_Piece_init => k_is)
    (case k_Piece_init => k_is)
    (case a_Telling_init => k_is)
    (case i_Telling_init => k_is)
    (case l_Telling_init => k_is)
    (case c_Telling_init => k_is)
    (case k_Telling_init => k_is)
    (case a_Telling_value_of => k_is)
    (case i_Telling_value_of => k_is)
    (case l_Telling_value_of => k_is)
    (case c_Telling_value_of => k_is)
    (case k_Telling_value_of => k_is)
    (case a_Telling_later => k_is)
    (case i_Telling_later => k_is)
    (case l_Telling_later => k_is)
    (case c_Telling_later => k_is)
    (case k_Telling_later => k_is)
    (case a_Telling_tell => k_is)
    (case i_Telling_tell => k_is)
    (case l_Telling_tell => k_is)
    (case c_Telling_tell => k_is)
    (case k_Telling_tell => k_is)
    (case a_Telling_make => k_is)
    (case i_Telling_make => k_is)
    (case l_Telling_make => k_is)
    (case c_Telling_make => k_is)
    (case k_Telling_make => k_is)
    (case a_Telling_make_of => k_is)
    (case i_Telling_make_of => k_is)
    (case l_Telling_make_of => k_is)
    (case c_Telling_make_of => k_is)
    (case k_Telling_make_of => k_is)
    (case a_Telling_new_name => k_is)
    (case i_Telling_new_name => k_is)
    (case l_Telling_new_name => k_is)
    (case c_Telling_new_name => k_is)
    (case k_Telling_new_name => k_is)
    (case a_tell_num => k_is)
    (case l_tell_num => k_is)
    (case c_tell_num => k_is)
    (case k_tell_num => k_is)
    (case a_tell_name => k_is)
    (case l_tell_name => k_is)
    (case c_tell_name => k_is)
    (case k_tell_name => k_is)
    (case a_tell_two => k_is)
    (case l_tell_two => k_is)
    (case c_tell_two => k_is)
    (case k_tell_two => k_is)
    (case a_reckon => k_is)
    (case l_reckon => k_is)
    (case c_reckon => k_is)
    (case k_reckon => k_is)
    (case a_tell_when => k_is)
    (case l_tell_when => k_is)
    (case c_tell_when => k_is)
    (case k_tell_when => k_is)
    (case a_choose => k_is)
    (case l_choose => k_is)
    (case c_choose => k_is)
    (case k_choose => k_is)
    (case a_tell_let => k_is)
    (case l_tell_let => k_is)
    (case c_tell_let => k_is)
    (case k_tell_let => k_is)
    (case a_go_on_with_b => k_is)
    (case l_go_on_with_b => k_is)
    (case c_go_on_with_b => k_is)
    (case k_go_on_with_b => k_is)
    (case a_tell_turns => k_is)
    (case l_tell_turns => k_is)
    (case c_tell_turns => k_is)
    (case k_tell_turns => k_is)
    (case a_turn => k_is)
    (case l_turn => k_is)
    (case c_turn => k_is)
    (case k_turn => k_is)
    (case a_tell_def => k_is)
    (case l_tell_def => k_is)
    (case c_tell_def => k_is)
    (case k_tell_def => k_is)
    (case a_tell_use => k_is)
    (case l_tell_use => k_is)
    (case c_tell_use => k_is)
    (case k_tell_use => k_is)
    (case a_go_on_with_function => k_is)
    (case l_go_on_with_function => k_is)
    (case c_go_on_with_function => k_is)
    (case k_go_on_with_function => k_is)
    (case a_tell_quote => k_is)
    (case l_tell_quote => k_is)
    (case c_tell_quote => k_is)
    (case k_tell_quote => k_is)
    (case a_refuse_too_great => k_is)
    (case l_refuse_too_great => k_is)
    (case c_refuse_too_great => k_is)
    (case k_refuse_too_great => k_is)
    (case a_tell_lift => k_is)
    (case l_tell_lift => k_is)
    (case c_tell_lift => k_is)
    (case k_tell_lift => k_is)
    (case a_make_num => k_is)
    (case l_make_num => k_is)
    (case c_make_num => k_is)
    (case k_make_num => k_is)
    (case a_tell_run => k_is)
    (case l_tell_run => k_is)
    (case c_tell_run => k_is)
    (case k_tell_run => k_is)
    (case a_go_on_with_piece => k_is)
    (case l_go_on_with_piece => k_is)
    (case c_go_on_with_piece => k_is)
    (case k_go_on_with_piece => k_is)
    (case a_make_same => k_is)
    (case l_make_same => k_is)
    (case c_make_same => k_is)
    (case k_make_same => k_is)
    (case a_make_name => k_is)
    (case l_make_name => k_is)
    (case c_make_name => k_is)
    (case k_make_name => k_is)
    (case a_make_plain => k_is)
    (case l_make_plain => k_is)
    (case c_make_plain => k_is)
    (case k_make_plain => k_is)
    (case a_make_let => k_is)
    (case l_make_let => k_is)
    (case c_make_let => k_is)
    (case k_make_let => k_is)
    (case a_make_turns => k_is)
    (case l_make_turns => k_is)
    (case c_make_turns => k_is)
    (case k_make_turns => k_is)
    (case a_make_def => k_is)
    (case l_make_def => k_is)
    (case c_make_def => k_is)
    (case k_make_def => k_is)
    (case a_make_use => k_is)
    (case l_make_use => k_is)
    (case c_make_use => k_is)
    (case k_make_use => k_is)
    (case a_fill_hole => k_is)
    (case l_fill_hole => k_is)
    (case c_fill_hole => k_is)
    (case k_fill_hole => k_is)
    (case a_put_together => k_is)
    (case l_put_together => k_is)
    (case c_put_together => k_is)
    (case k_put_together => k_is)
    (case a_law_cell_at => k_is)
    (case l_law_cell_at => k_is)
    (case c_law_cell_at => k_is)
    (case k_law_cell_at => k_is)
    (case a_law_mixed => k_is)
    (case l_law_mixed => k_is)
    (case c_law_mixed => k_is)
    (case k_law_mixed => k_is)
    (case a_law_drawn => k_is)
    (case l_law_drawn => k_is)
    (case c_law_drawn => k_is)
    (case k_law_drawn => k_is)
    (case a_law_name => k_is)
    (case l_law_name => k_is)
    (case c_law_name => k_is)
    (case k_law_name => k_is)
    (case a_law_wide => k_is)
    (case l_law_wide => k_is)
    (case c_law_wide => k_is)
    (case k_law_wide => k_is)
    (case a_law_great => k_is)
    (case l_law_great => k_is)
    (case c_law_great => k_is)
    (case k_law_great => k_is)
    (case a_law_step => k_is)
    (case l_law_step => k_is)
    (case c_law_step => k_is)
    (case k_law_step => k_is)
    (case a_law_deep => k_is)
    (case l_law_deep => k_is)
    (case c_law_deep => k_is)
    (case k_law_deep => k_is)
    (case a_law_refused => k_is)
    (case l_law_refused => k_is)
    (case c_law_refused => k_is)
    (case k_law_refused => k_is)
    (case a_law_wrong_kind => k_is)
    (case l_law_wrong_kind => k_is)
    (case c_law_wrong_kind => k_is)
    (case k_law_wrong_kind => k_is)
    (case a_law_done => k_is)
    (case l_law_done => k_is)
    (case c_law_done => k_is)
    (case k_law_done => k_is)
    (case a_law => k_is)
    (case l_law => k_is)
    (case c_law => k_is)
    (case k_law => k_is)
    (case z_ValueError => k_is)
    (case z_int => k_is)
    (case z_isinstance => k_is)
    (case z_len => k_is)
    (case z_list => k_is)
    (case z_max => k_is)
    (case z_min => k_is)
    (case z_range => k_is)
    (case z_reversed => k_is)
    (case z_sum => k_is)
    (case z_tuple => k_is)
    (case z_zip => k_is)
    (case gi_RECKONED_BY => k_is)
    (case gi_MOST_TERMS => k_is)
    (case gi_DEEPEST => k_is)
    (case aD_PARTS_AT => k_is)
    (case lD_PARTS_AT => k_is)
    (case kD_PARTS_AT => first | k_is | (repeat' (first | exact True.intro | refine ⟨⟨_, _, rfl, rfl⟩, ?_⟩)))
    (case d_PARTS_AT_num => k_is)
    (case d_PARTS_AT_name => k_is)
    (case d_PARTS_AT_sum => k_is)
    (case d_PARTS_AT_product => k_is)
    (case d_PARTS_AT_less => k_is)
    (case d_PARTS_AT_when => k_is)
    (case d_PARTS_AT_let => k_is)
    (case d_PARTS_AT_turns => k_is)
    (case d_PARTS_AT_def => k_is)
    (case d_PARTS_AT_use => k_is)
    (case d_PARTS_AT_quote => k_is)
    (case d_PARTS_AT_hole => k_is)
    (case d_PARTS_AT_lift => k_is)
    (case d_PARTS_AT_run => k_is)
    (case aD_LEVEL_OF => k_is)
    (case lD_LEVEL_OF => k_is)
    (case kD_LEVEL_OF => first | k_is | (repeat' (first | exact True.intro | refine ⟨⟨_, _, rfl, rfl⟩, ?_⟩)))
    (case sy_LEVEL_OF => rfl)
    (case n_LEVEL_OF_num => k_is)
    (case n_LEVEL_OF_name => k_is)
    (case n_LEVEL_OF_sum => k_is)
    (case n_LEVEL_OF_product => k_is)
    (case n_LEVEL_OF_less => k_is)
    (case n_LEVEL_OF_when => k_is)
    (case n_LEVEL_OF_let => k_is)
    (case n_LEVEL_OF_turns => k_is)
    (case n_LEVEL_OF_def => k_is)
    (case n_LEVEL_OF_use => k_is)
    (case d_LEVEL_OF_quote => k_is)
    (case d_LEVEL_OF_hole => k_is)
    (case d_LEVEL_OF_lift => k_is)
    (case d_LEVEL_OF_run => k_is)
    (case aD_LOOKS => k_is)
    (case lD_LOOKS => k_is)
    (case kD_LOOKS => first | k_is | (repeat' (first | exact True.intro | refine ⟨⟨_, _, rfl, rfl⟩, ?_⟩)))
    (case d_LOOKS_num => k_is)
    (case d_LOOKS_name => k_is)
    (case d_LOOKS_sum => k_is)
    (case d_LOOKS_product => k_is)
    (case d_LOOKS_less => k_is)
    (case d_LOOKS_when => k_is)
    (case d_LOOKS_let => k_is)
    (case d_LOOKS_turns => k_is)
    (case d_LOOKS_def => k_is)
    (case d_LOOKS_use => k_is)
    (case d_LOOKS_quote => k_is)
    (case d_LOOKS_hole => k_is)
    (case d_LOOKS_lift => k_is)
    (case d_LOOKS_run => k_is)
    (case aD_TELLERS => k_is)
    (case lD_TELLERS => k_is)
    (case kD_TELLERS => first | k_is | (repeat' (first | exact True.intro | refine ⟨⟨_, _, rfl, rfl⟩, ?_⟩)))
    (case d_TELLERS_num => k_is)
    (case d_TELLERS_name => k_is)
    (case d_TELLERS_sum => k_is)
    (case d_TELLERS_product => k_is)
    (case d_TELLERS_less => k_is)
    (case d_TELLERS_when => k_is)
    (case d_TELLERS_let => k_is)
    (case d_TELLERS_turns => k_is)
    (case d_TELLERS_def => k_is)
    (case d_TELLERS_use => k_is)
    (case d_TELLERS_quote => k_is)
    (case d_TELLERS_lift => k_is)
    (case d_TELLERS_run => k_is)
    (case aD_MAKERS => k_is)
    (case lD_MAKERS => k_is)
    (case kD_MAKERS => first | k_is | (repeat' (first | exact True.intro | refine ⟨⟨_, _, rfl, rfl⟩, ?_⟩)))
    (case d_MAKERS_num => k_is)
    (case d_MAKERS_name => k_is)
    (case d_MAKERS_sum => k_is)
    (case d_MAKERS_product => k_is)
    (case d_MAKERS_less => k_is)
    (case d_MAKERS_when => k_is)
    (case d_MAKERS_let => k_is)
    (case d_MAKERS_turns => k_is)
    (case d_MAKERS_def => k_is)
    (case d_MAKERS_use => k_is)
    (case d_MAKERS_hole => k_is)
#print axioms PySem.Challenge.cw_quotehall_k11_too_great_holds
